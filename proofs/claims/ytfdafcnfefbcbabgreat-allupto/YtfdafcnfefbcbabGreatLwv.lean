/-
 Several texts of ours in one: LawVerdict, LawEnds, Checks.
-/
import Derived.Test.YtfdafcnfefbcbabGreatRefThrough
import Derived.Test.YtfdafcnfefbcbabGreatLwb
import Derived.Test.YtfdafcnfefbcbabGreatSea
import Derived.Deep.QuietTactic
import Derived.BigQuiet
/-
 Package interleavelaw: the contracts of pair.verdict and pair.outcomes.
-/
namespace Go.Proofs.YtfdafcnfefbcbabGreat
open Go.RowKit
set_option linter.unusedVariables false
set_option maxRecDepth 100000
set_option maxHeartbeats 4000000

/-- What Check answers, as two lists. -/
def schA (p : List (List Pl.POp)) : List Int := match checkOf p with
 | none => []
 | some (sch, c) => sch
def cycA (p : List (List Pl.POp)) : List Int := match checkOf p with
 | none => []
 | some (sch, c) => c

/-- A verdict in memory. -/
structure VdAt (w : World) (vb : Nat) (a : Bool) (s c : Value) : Prop where
 c0 : w.cell? ⟨vb, 0, none⟩ = some (.bool a)
 c1 : w.cell? ⟨vb, 1, none⟩ = some s
 c2 : w.cell? ⟨vb, 2, none⟩ = some c
 f : ∀ j, w.frozen? ⟨vb, j, none⟩ = false

theorem VdAt.new (w : World) (a : Bool) (s c : Value) (t : TypeId) : VdAt (w.alloc (.cells #[.bool a, s, c] t)) w.heap.size a s c := ⟨by simp, by simp, by simp, fun j => World.frozen?_alloc_at _ _ _ _ rfl⟩
theorem VdAt.below {w w' : World} {vb B : Nat} {a : Bool} {s c : Value} (h : VdAt w vb a s c) (hb : Below B w w') (hB : vb < B) : VdAt w' vb a s c :=
 ⟨(hb.cell (p := ⟨vb, 0, none⟩) hB).trans h.c0, (hb.cell (p := ⟨vb, 1, none⟩) hB).trans h.c1, (hb.cell (p := ⟨vb, 2, none⟩) hB).trans h.c2, fun j => (hb.frozen (p := ⟨vb, j, none⟩) hB).trans (h.f j)⟩

theorem VdAt.put {w : World} {vb : Nat} {a : Bool} {s c : Value} (h : VdAt w vb a s c) (a' : Bool) (s' c' : Value) : VdAt (w.setCells vb 0 [.bool a', s', c']) vb a' s' c' := by
 have hth : w.there vb 0 [Value.bool a', s', c'].length := fun j hj => by
  have : j = 0 ∨ j = 1 ∨ j = 2 := by simp at hj; omega
  rcases this with rfl | rfl | rfl
  ·exact ⟨by rw [h.c0]; rfl, h.f _⟩
  ·exact ⟨by rw [h.c1]; rfl, h.f _⟩
  ·exact ⟨by rw [h.c2]; rfl, h.f _⟩
 have hr := World.rangeAt_setCells_same w vb 0 _ hth
 exact ⟨hr 0 _ rfl, hr 1 _ rfl, hr 2 _ rfl, fun j => by rw [frozen_cells]; exact h.f j⟩
theorem VdAt.there {w : World} {vb : Nat} {a : Bool} {s c : Value} (h : VdAt w vb a s c) : w.there vb 0 3 := fun j hj => by
 have : j = 0 ∨ j = 1 ∨ j = 2 := by omega
 rcases this with rfl | rfl | rfl
 ·exact ⟨by rw [h.c0]; rfl, h.f _⟩
 ·exact ⟨by rw [h.c1]; rfl, h.f _⟩
 ·exact ⟨by rw [h.c2]; rfl, h.f _⟩
theorem VdAt.far {w : World} {vb rb : Nat} {a : Bool} {s c : Value} (h : VdAt w vb a s c) (hne : vb ≠ rb) (vs : List Value) : VdAt (w.setCells rb 0 vs) vb a s c :=
 ⟨(World.cell?_setCells_out _ _ _ _ _ (fun e => absurd e hne)).trans h.c0, (World.cell?_setCells_out _ _ _ _ _ (fun e => absurd e hne)).trans h.c1, (World.cell?_setCells_out _ _ _ _ _ (fun e => absurd e hne)).trans h.c2, fun j => by rw [frozen_cells]; exact h.f j⟩

def VerdictSays (p : List (List Pl.POp)) (w : World) (e : Ending) (w' : World) : Prop :=
 Below w.heap.size w w' ∧ ∃ sa scap ca ccap, e = .returned (.tuple #[.agg #[.bool (checkOf p).isNone, .slice sa (schA p).length scap, .slice ca (cycA p).length ccap], .bool true]) ∧ w'.ownsRow w.heap.size 3 1 (.slice sa (schA p).length scap) (schA p).length (intCells (schA p)) ∧ w'.ownsRow w.heap.size 3 1 (.slice ca (cycA p).length ccap) (cycA p).length (intCells (cycA p)) ∧ ∀ q, ownOf sa = some q → ownOf ca ≠ some q

theorem lawVerdict_any {w : World} {lo hi b bx bY la lcap : Nat} {p : List (List Pl.POp)} (h : TwoAt w lo hi b bx bY la lcap p) (hs : Tiny p) (h10 : Pl.countShared p ≤ 10) (hh : hi ≤ w.heap.size) {ab N rcap : Nat} {ra : Option Addr} (hA : SrtAt w ab (checkOf p).isNone (outcomesOf p) N ra rcap) :
  Calls Tryz.prog 25 #[.pointer (some ⟨b, 0, none⟩), .pointer (some ⟨ab, 0, none⟩)] w fun e w' => VerdictSays p w e w' := by
 have H : Hid (TwoAt w lo hi b bx bY la lcap p) := h
 have HT : Hid (Tiny p) := hs
 have HA : Hid (w.cell? ⟨ab, 0, none⟩ = some (.bool (checkOf p).isNone)) := hA.c0
 have habl : ab < w.heap.size := hA.lt
 have hbl : b < w.heap.size := Nat.lt_of_lt_of_le h.b1 hh
 clear h hs hA
 go_enter Tryz.func25, Tryz.ntmps25
 go_upto_region 1 with fail
 have HB0 : Hid (Below w.heap.size w (w.alloc (.cells #[.bool false, .slice none 0 0, .slice none 0 0] 92))) := (Below.refl _ _).alloc (Nat.le_refl _) _
 have HV0 : Hid (VdAt (w.alloc (.cells #[.bool false, .slice none 0 0, .slice none 0 0] 92)) w.heap.size false (.slice none 0 0) (.slice none 0 0)) := VdAt.new _ _ _ _ _
 have HZ0 : Hid ((w.alloc (.cells #[.bool false, .slice none 0 0, .slice none 0 0] 92)).heap.size = w.heap.size + 1) := by show _ = _; simp
 generalize w.alloc (.cells #[.bool false, .slice none 0 0, .slice none 0 0] 92) = W at *
 have H0 : Hid (TwoAt W lo hi b bx bY la lcap p) := H.out.below (HB0.out.mono hh)
 have hwz := HZ0.out
 have b0 := H0.out.c0
 go_wp2_with fail
 refine (progCheck_any p lo hi bx _ H0.out.px HT.out (by omega)).mono ?_
 rintro e w1 hck
 have hb1 := hck.1
 have HB1 : Hid (Below w.heap.size w w1) := HB0.out.trans (hb1.mono HB0.out.size)
 have HV1 : Hid (VdAt w1 w.heap.size false (.slice none 0 0) (.slice none 0 0)) := HV0.out.below hb1 (by omega)
 have hz1 : W.heap.size ≤ w1.heap.size := hb1.size
 clear hb1 b0
 cases hq : checkOf p with
 | none =>
  rw [hq] at hck HA
  obtain ⟨-, rfl⟩ := hck
  have HQ : Hid (checkOf p = none) := hq
  clear hq
  go_upto_region 2 with fail
  have HBV : Hid (Below w1.heap.size w1 (w1.alloc (.cells #[.bool true, .slice none 0 0, .slice none 0 0] 92))) := (Below.refl _ _).alloc (Nat.le_refl _) _
  have HVV : Hid (VdAt (w1.alloc (.cells #[.bool true, .slice none 0 0, .slice none 0 0] 92)) w1.heap.size true (.slice none 0 0) (.slice none 0 0)) := VdAt.new _ _ _ _ _
  generalize w1.alloc (.cells #[.bool true, .slice none 0 0, .slice none 0 0] 92) = V at *
  have HB2 : Hid (Below w.heap.size w V) := HB1.out.trans (HBV.out.mono HB1.out.size)
  have HR2 : Hid (VdAt V w.heap.size false (.slice none 0 0) (.slice none 0 0)) := HV1.out.below HBV.out (by omega)
  have a0 : V.cell? ⟨ab, 0, none⟩ = some (.bool true) := (HB2.out.cell (p := ⟨ab, 0, none⟩) habl).trans HA.out
  go_upto_region 3 with fail
  clear a0
  refine wp_region_held_drew (S := fun w' => VdAt w' w1.heap.size true (.slice none 0 0) (.slice none 0 0)) (by kernel_rfl) ⟨HVV.out.c0, HVV.out.c1, HVV.out.c2, HVV.out.f⟩ (fun hHeld => ?_)
  refine takeAt 0 (.agg #[.bool true, .slice none 0 0, .slice none 0 0]) rfl (.inl ⟨by rfl, fun w hw => by have x0 := hw.c0; have x1 := hw.c1; have x2 := hw.c2; go_simp⟩) hHeld ?_
  refine takeS 1 (.pointer (some ⟨w1.heap.size, 0, none⟩)) rfl hHeld ?_
  refine takeAt 2 (.bool true) rfl (.inl ⟨by rfl, fun w hw => by have x0 := hw.c0; go_simp⟩) hHeld ?_
  refine takeR 3 (.bool true) rfl hHeld ?_
  refine takeS 4 (.pointer (some ⟨w1.heap.size, 1, none⟩)) rfl hHeld ?_
  refine takeAt 5 (.slice none 0 0) rfl (.inl ⟨by rfl, fun w hw => by have x1 := hw.c1; go_simp⟩) hHeld ?_
  refine takeS 6 (.int .i64 0) rfl hHeld ?_
  refine takeS 7 (.bool true) rfl hHeld ?_
  refine takeR 8 (.bool true) rfl hHeld ?_
  refine takeR 9 (.bool true) rfl hHeld ?_
  refine takeS 10 (.pointer (some ⟨w1.heap.size, 2, none⟩)) rfl hHeld ?_
  refine takeAt 11 (.slice none 0 0) rfl (.inl ⟨by rfl, fun w hw => by have x2 := hw.c2; go_simp⟩) hHeld ?_
  refine takeS 12 (.int .i64 0) rfl hHeld ?_
  refine takeS 13 (.bool true) rfl hHeld ?_
  refine takeR 14 (.bool true) rfl hHeld ?_
  refine wpAnyH_store 15 _ (by kernel_rfl) rfl rfl rfl 92 _ _ rfl w.heap.size #[.bool true, .slice none 0 0, .slice none 0 0] rfl rfl (HR2.out.below (Below.refl (w.heap.size + 1) _).drew (by omega)).there Tryz.size92 (by simp [Value.oneCell']) (hHeld.far (by omega) _) ?_
  refine takeR 16 (.bool true) rfl (hHeld.far (by omega) _) ?_
  refine wpAnyH_done (by kernel_rfl) ?_ _
  have HRF : Hid (VdAt (V.drew.setCells w.heap.size 0 (#[.bool true, .slice none 0 0, .slice none 0 0] : Array Value).toList) w.heap.size true (.slice none 0 0) (.slice none 0 0)) := (HR2.out.below (Below.refl (w.heap.size + 1) _).drew (by omega)).put _ _ _
  have HBF : Hid (Below w.heap.size w (V.drew.setCells w.heap.size 0 (#[.bool true, .slice none 0 0, .slice none 0 0] : Array Value).toList)) := below_setCells w.heap.size (Nat.le_refl _) _ _ _ HB2.out.drew
  generalize V.drew.setCells w.heap.size 0 (#[.bool true, .slice none 0 0, .slice none 0 0] : Array Value).toList = F at *
  clear hHeld
  have r0 := HRF.out.c0
  have r1 := HRF.out.c1
  have r2 := HRF.out.c2
  go_wp2
  refine bodyPost_ret (v := .tuple #[.agg #[.bool true, .slice none 0 0, .slice none 0 0], .bool true]) (by simp [results, Tryz.results25, go_sem, r0, r1, r2]) rfl ⟨HBF.out, none, 0, none, 0, ?_⟩
  unfold schA cycA
  rw [HQ.out]
  exact ⟨rfl, World.ownsRow_nil _ _ _ _, World.ownsRow_nil _ _ _ _, fun q hq => by simp [ownOf] at hq⟩
 | some x =>
  obtain ⟨sch, c⟩ := x
  rw [hq] at hck HA
  obtain ⟨-, hcn, sa, scap, ca, ccap, rfl, h1, h2, h3⟩ := hck
  obtain ⟨S, es, hf, hrd, hce, -⟩ := check_some hq
  have HQ : Hid (checkOf p = some (sch, c)) := hq
  have HF : Hid (follow p (beginTo p 4) [] 0 sch = some (S, es)) := hf
  have HRD : Hid (readyTo S p 4 = []) := hrd
  have HKN : Hid (KnotOk es c) := by show KnotOk es c; rw [hce]; exact cycleOf_knot (by rw [← hce]; exact hcn)
  have hcl : c.length ≤ 4000 := by
   rw [hce]
   have h5 := cycle_len es
   have h6 := (follow_len hf).2
   omega
  have hsl : sch.length ≤ 10 := by have h6 := (follow_len hf).2; omega
  have hel : es.length ≤ 4000 := by have h6 := (follow_len hf).2; omega
  obtain ⟨n, htold⟩ := follow_tells H.out.py.rows hf
  have HTD : Hid (Told es n) := htold
  have HSO : Hid (w1.ownsRow W.heap.size 3 1 (.slice sa sch.length scap) sch.length (intCells sch)) := h1
  have HCO : Hid (w1.ownsRow W.heap.size 3 1 (.slice (some ca) c.length ccap) c.length (intCells c)) := h2
  have HDJ : Hid (∀ g, (Value.slice sa sch.length scap).ownBlock = some g → (Value.slice (some ca) c.length ccap).ownBlock ≠ some g) := h3
  clear hq hf hrd hce hcn h1 h2 h3 htold
  go_upto_region 2 with fail
  have HBV : Hid (Below w1.heap.size w1 (w1.alloc (.cells #[.bool false, .slice sa sch.length scap, .slice (some ca) c.length ccap] 92))) := (Below.refl _ _).alloc (Nat.le_refl _) _
  have HVV : Hid (VdAt (w1.alloc (.cells #[.bool false, .slice sa sch.length scap, .slice (some ca) c.length ccap] 92)) w1.heap.size false (.slice sa sch.length scap) (.slice (some ca) c.length ccap)) := VdAt.new _ _ _ _ _
  have HZV : Hid ((w1.alloc (.cells #[.bool false, .slice sa sch.length scap, .slice (some ca) c.length ccap] 92)).heap.size = w1.heap.size + 1) := by show _ = _; simp
  generalize w1.alloc (.cells #[.bool false, .slice sa sch.length scap, .slice (some ca) c.length ccap] 92) = V at *
  have hzv := HZV.out
  have HB2 : Hid (Below w.heap.size w V) := HB1.out.trans (HBV.out.mono HB1.out.size)
  have HR2 : Hid (VdAt V w.heap.size false (.slice none 0 0) (.slice none 0 0)) := HV1.out.below HBV.out (by omega)
  have HSV : Hid (V.ownsRow W.heap.size 3 1 (.slice sa sch.length scap) sch.length (intCells sch)) := ((ownsRow_in HSO.out).below HBV.out).1
  have HCV : Hid (V.ownsRow W.heap.size 3 1 (.slice (some ca) c.length ccap) c.length (intCells c)) := ((ownsRow_in HCO.out).below HBV.out).1
  have HTV : Hid (TwoAt V lo hi b bx bY la lcap p) := H.out.below (HB2.out.mono hh)
  have a0 : V.cell? ⟨ab, 0, none⟩ = some (.bool false) := (HB2.out.cell (p := ⟨ab, 0, none⟩) habl).trans HA.out
  clear HSO HCO HBV HV1 HB1 HZV
  go_upto_region 4 with fail
  clear a0
  refine wp_region_held_drew (S := fun w' => w'.cell? ⟨b, 1, none⟩ = some (.pointer (some ⟨bY, 0, none⟩)) ∧ w'.cell? ⟨w1.heap.size, 1, none⟩ = some (.slice sa sch.length scap)) (by kernel_rfl) ⟨HTV.out.c1, HVV.out.c1⟩ (fun hHeld => ?_)
  refine takeR 0 (.pointer (some ⟨b, 0, none⟩)) rfl hHeld ?_
  refine takeS 1 (.pointer (some ⟨b, 0, none⟩)) rfl hHeld ?_
  refine takeS 2 (.pointer (some ⟨b, 1, none⟩)) rfl hHeld ?_
  refine takeAt 3 (.pointer (some ⟨bY, 0, none⟩)) rfl (.inl ⟨by rfl, fun w hw => by have hwa := hw.1; go_simp⟩) hHeld ?_
  refine takeS 4 (.pointer (some ⟨w1.heap.size, 1, none⟩)) rfl hHeld ?_
  refine takeAt 5 (.slice sa sch.length scap) rfl (.inl ⟨by rfl, fun w hw => by have hwa := hw.2; go_simp⟩) hHeld ?_
  refine wpAnyH_callg 6 _ (by kernel_rfl) rfl (by rfl) 16 #[.pointer (some ⟨bY, 0, none⟩), .slice sa sch.length scap] (by go_simp) _ (refPlay_any (HTV.out.below (Below.refl _ _).drew).py (by show hi ≤ V.heap.size; omega) sch sa scap ((ints_of_owns HSV.out.drew).seq) (by unfold maxLen; omega)) ?_
  rintro e w3 ⟨hb3', he3⟩
  rw [HF.out] at he3
  obtain ⟨rb, tb, ea, ecap, rfl, hrr, hok, -, -, ho3⟩ := he3
  have hb3 : Below V.heap.size V w3 := (Below.refl _ _).drew.trans (hb3'.mono (Nat.le_refl _))
  have hS3 : w3.cell? ⟨b, 1, none⟩ = some (.pointer (some ⟨bY, 0, none⟩)) ∧ w3.cell? ⟨w1.heap.size, 1, none⟩ = some (.slice sa sch.length scap) := ⟨(hb3.cell (p := ⟨b, 1, none⟩) (by show b < V.heap.size; omega)).trans HTV.out.c1, (hb3.cell (p := ⟨w1.heap.size, 1, none⟩) (by show w1.heap.size < V.heap.size; omega)).trans HVV.out.c1⟩
  refine ⟨_, rfl, hS3, ?_⟩
  simp only [List.getElem_toArray, List.getElem_cons_zero, List.getElem_cons_succ, Act.put, List.setIfInBounds_toArray, List.set_cons_zero, List.set_cons_succ]
  refine takeR 7 (.tuple #[.pointer (some ⟨rb, 0, none⟩), .slice ea es.length ecap, .bool true]) rfl hS3 ?_
  refine takeR 8 (.pointer (some ⟨rb, 0, none⟩)) rfl hS3 ?_
  refine takeR 9 (.slice ea es.length ecap) rfl hS3 ?_
  refine takeR 10 (.bool true) rfl hS3 ?_
  refine takeR 11 (.pointer (some ⟨rb, 0, none⟩)) rfl hS3 ?_
  refine takeR 12 (.slice ea es.length ecap) rfl hS3 ?_
  refine takeR 13 (.bool true) rfl hS3 ?_
  refine wpAnyH_done (by kernel_rfl) ?_ _
  have HB3 : Hid (Below V.heap.size V w3) := hb3
  have HRR : Hid _ := hrr
  have HOK : Hid _ := hok
  have HE3 : Hid (w3.ownsRow V.drew.heap.size 59 6 (.slice ea es.length ecap) es.length (evCells es)) := ho3
  have HVV3 : Hid (VdAt w3 w1.heap.size false (.slice sa sch.length scap) (.slice (some ca) c.length ccap)) := HVV.out.below hb3 (by omega)
  have HCV3 : Hid (w3.ownsRow W.heap.size 3 1 (.slice (some ca) c.length ccap) c.length (intCells c)) := ((ownsRow_in HCV.out).below hb3).1
  have hz3 : V.heap.size ≤ w3.heap.size := hb3.size
  clear hHeld hS3 hb3' hb3 hrr hok ho3 HTV
  have v0 := HVV3.out.c0
  go_wp2_with fail
  refine (refReady_any HRR.out HOK.out).mono ?_
  rintro e w4 ⟨hb4, qa, qcap, rfl, ho4⟩
  rw [HRD.out]
  have HB4 : Hid (Below w3.heap.size w3 w4) := hb4
  have HVV4 : Hid (VdAt w4 w1.heap.size false (.slice sa sch.length scap) (.slice (some ca) c.length ccap)) := HVV3.out.below hb4 (by omega)
  have HCV4 : Hid (w4.ownsRow W.heap.size 3 1 (.slice (some ca) c.length ccap) c.length (intCells c)) := ((ownsRow_in HCV3.out).below hb4).1
  have HE4 : Hid (w4.ownsRow V.drew.heap.size 59 6 (.slice ea es.length ecap) es.length (evCells es)) := ((ownsRow_in HE3.out).below hb4).1
  have hz4 : w3.heap.size ≤ w4.heap.size := hb4.size
  clear hb4 ho4 v0
  simp only [List.length_nil]
  have u2 := HVV4.out.c2
  go_wp2_with fail
  refine (refCyclic_true es ea ecap _ n c (some ca) ccap _ HE4.out hel HTD.out (ints_of_owns HCV4.out) hcl HKN.out).mono ?_
  rintro e w5 ⟨rfl, hb5⟩
  have HB5 : Hid (Below V.heap.size V w5) := HB3.out.trans ((HB4.out.mono hz3).trans (hb5.mono (by omega)))
  clear hb5 u2
  have HVV5 : Hid (VdAt w5 w1.heap.size false (.slice sa sch.length scap) (.slice (some ca) c.length ccap)) := HVV.out.below HB5.out (by omega)
  have HR5 : Hid (VdAt w5 w.heap.size false (.slice none 0 0) (.slice none 0 0)) := HR2.out.below HB5.out (by omega)
  have x0 := HVV5.out.c0
  have x1 := HVV5.out.c1
  have x2 := HVV5.out.c2
  have r0 := HR5.out.c0
  have r1 := HR5.out.c1
  have r2 := HR5.out.c2
  have rf := HR5.out.f
  have HSV5 : Hid (w5.ownsRow W.heap.size 3 1 (.slice sa sch.length scap) sch.length (intCells sch)) := ((ownsRow_in HSV.out).below HB5.out).1
  have HCV5 : Hid (w5.ownsRow W.heap.size 3 1 (.slice (some ca) c.length ccap) c.length (intCells c)) := ((ownsRow_in HCV.out).below HB5.out).1
  have HBF : Hid (Below w.heap.size w w5) := HB2.out.trans (HB5.out.mono HB2.out.size)
  go_wp2
  refine bodyPost_ret (v := .tuple #[.agg #[.bool false, .slice sa sch.length scap, .slice (some ca) c.length ccap], .bool true]) (by simp [results, Tryz.results25, go_sem, r0, r1, r2]) rfl ⟨(((HBF.out.setCell (by simp) _).setCell (by simp) _).setCell (by simp) _), sa, scap, some ca, ccap, ?_⟩
  unfold schA cycA
  rw [HQ.out]
  have hlo : w.heap.size + 1 ≤ W.heap.size := by omega
  have up : ∀ {v n xs}, w5.ownsRow W.heap.size 3 1 v n xs → ((((w5.setCell ⟨w.heap.size, 0, none⟩ (.bool false)).setCell ⟨w.heap.size, 1, none⟩ (.slice sa sch.length scap)).setCell ⟨w.heap.size, 2, none⟩ (.slice (some ca) c.length ccap)).ownsRow w.heap.size 3 1 v n xs) := fun {v n xs} h => ((ownsRow_in (ownsRow_setCell_below (ownsRow_setCell_below (ownsRow_setCell_below h (show w.heap.size < _ by omega) _) (show w.heap.size < _ by omega) _) (show w.heap.size < _ by omega) _)).mono (by omega) (Nat.le_refl _)).1
  exact ⟨rfl, up HSV5.out, up HCV5.out, fun q hq => by have := HDJ.out q (by rw [own_of]; exact hq); rw [own_of] at this; exact this⟩

/-- Two results in memory, one of them in the row of All. -/
structure EnTwo (ab g g' o : Nat) (v : Value) (x : Res) (w : World) : Prop where
 a1 : w.cell? ⟨ab, 1, none⟩ = some v
 a : w.rangeAt g o (resL x)
 b : w.rangeAt g' o (resL x)

theorem lawEnds_any {w : World} {lo hi b bx bY la lcap : Nat} {p : List (List Pl.POp)} (h : TwoAt w lo hi b bx bY la lcap p) (hs : Tiny p) (h10 : Pl.countShared p ≤ 10) (hh : hi ≤ w.heap.size) {ab rcap : Nat} {at_ : Bool} {ra : Option Addr} (hA : SrtAt w ab at_ (outcomesOf p) (outcomesOf p).length ra rcap) :
  Calls Tryz.prog 26 #[.pointer (some ⟨b, 0, none⟩), .pointer (some ⟨ab, 0, none⟩)] w
   fun e w' => Below w.heap.size w w' ∧ ∃ ba bcap, e = .returned (.tuple #[.slice ba (outcomesOf p).length bcap, .bool true]) ∧ w'.ownsRow w.heap.size 66 5 (.slice ba (outcomesOf p).length bcap) (outcomesOf p).length (resCells (outcomesOf p)) := by
 have H : Hid (TwoAt w lo hi b bx bY la lcap p) := h
 have HT : Hid (Tiny p) := hs
 have HA : Hid (SrtAt w ab at_ (outcomesOf p) (outcomesOf p).length ra rcap) := hA
 have hnl : (outcomesOf p).length ≤ 4194304 := by
  have h1 := gather_length p (remS p (beginTo p 4) + 1) (beginTo p 4) []
  have h2 : remS p (beginTo p 4) ≤ 10 := Nat.le_trans (rem_count p _) h10
  have h3 : 4 ^ (remS p (beginTo p 4) + 1) ≤ 4194304 := Nat.le_trans (Nat.pow_le_pow_right (by omega) (show remS p (beginTo p 4) + 1 ≤ 11 by omega)) (by decide)
  unfold outcomesOf
  simp only [List.length_nil, Nat.zero_add] at h1
  omega
 have c0 := h.c0
 clear h hs hA
 go_enter Tryz.func26, Tryz.ntmps26
 go_wp2_with fail
 refine (progOutcomes_any p lo hi bx _ H.out.px HT.out h10 hh).mono ?_
 rintro e w1 ⟨hb1, ba, bcap, rfl, ho1⟩
 have HB1 : Hid (Below w.heap.size w w1) := hb1
 have HO1 : Hid (w1.ownsRow w.heap.size 66 5 (.slice ba (outcomesOf p).length bcap) (outcomesOf p).length (resCells (outcomesOf p))) := ho1
 have HA1 : Hid (SrtAt w1 ab at_ (outcomesOf p) (outcomesOf p).length ra rcap) := HA.out.below hb1
 clear hb1 ho1 c0
 obtain ⟨L, hL⟩ : ∃ L, outcomesOf p = L := ⟨_, rfl⟩
 rw [hL] at HO1 HA1 hnl HA ⊢
 have HL : Hid (outcomesOf p = L) := hL
 clear hL
 obtain ⟨N, hN⟩ : ∃ N, L.length = N := ⟨_, rfl⟩
 rw [hN] at HO1 HA1 hnl ⊢
 have HN : Hid (L.length = N) := hN
 clear hN HA
 have a1 := HA1.out.c1
 go_wp2_with fail
 clear a1
 go_loopw [7, 8] (fun v7 v8 wr => ∃ i : Nat, i ≤ N ∧ v7 = .bool true ∧ v8 = .int .i64 (i : Int) ∧ Hid (Below w1.heap.size w1 wr)) (fun _ v8 _ => N - (intOf v8).toNat)
 case atStart => exact ⟨0, Nat.zero_le _, rfl, rfl, (show Hid _ from Below.refl _ _)⟩
 case round =>
  obtain ⟨i, hi', rfl, rfl, H2⟩ := hrel
  by_cases hlt : i < N
  ·have hlt' : (i : Int) < (N : Int) := by omega
   have hA2 := HA1.out.below H2.out
   obtain ⟨rg, rfl, hrg0, hrg1, -, hrc⟩ := hA2.row (by omega)
   have hO2 := ((ownsRow_in HO1.out).below H2.out).1
   obtain ⟨g1, rfl, hg1, hgc⟩ := res_of_owns (rs := L) (by rw [HN.out]; exact hO2) (by rw [HN.out]; omega)
   have hil : i < L.length := by rw [HN.out]; exact hlt
   have hx : L[i]? = some L[i] := List.getElem?_eq_getElem hil
   have HTW : Hid (EnTwo ab g1 rg (i * 5) (.slice (some ⟨rg, 0, none⟩) N rcap) L[i] wr) := ⟨hA2.c1, hgc i _ hx, hrc i _ hx⟩
   clear hx hrc hgc hO2 hA2
   generalize L[i] = x at *
   have heq := eq_res x x
   go_upto_region 6 with fail
   refine wp_region_held_drew (S := EnTwo ab g1 rg (i * 5) (.slice (some ⟨rg, 0, none⟩) N rcap) x) (by kernel_rfl) ⟨HTW.out.a1, HTW.out.a, HTW.out.b⟩ (fun hHeld => ?_)
   refine takeR 0 (.slice (some ⟨g1, 0, none⟩) N bcap) rfl hHeld ?_
   refine takeR 1 (.int .i64 (i : Int)) rfl hHeld ?_
   refine takeAt 2 (.pointer (some ⟨g1, i * 5, none⟩)) rfl (.inl ⟨by rfl, fun w hw => by go_simp <;> (intro h; omega)⟩) hHeld ?_
   refine takeAt 3 (.agg (resL x).toArray) rfl (yieldsIf_load_mid (by rfl) _ _ rfl g1 (i * 5) rfl (resL x) _ (fun w hw => hw.a) Tryz.underlying66 rfl Tryz.size66) hHeld ?_
   refine takeR 4 (.pointer (some ⟨ab, 0, none⟩)) rfl hHeld ?_
   refine takeS 5 (.pointer (some ⟨ab, 0, none⟩)) rfl hHeld ?_
   refine takeS 6 (.pointer (some ⟨ab, 1, none⟩)) rfl hHeld ?_
   refine takeAt 7 (.slice (some ⟨rg, 0, none⟩) N rcap) rfl (.inl ⟨by rfl, fun w hw => by have hwa := hw.a1; go_simp⟩) hHeld ?_
   refine takeR 8 (.int .i64 (i : Int)) rfl hHeld ?_
   refine takeAt 9 (.pointer (some ⟨rg, i * 5, none⟩)) rfl (.inl ⟨by rfl, fun w hw => by go_simp <;> (intro h; omega)⟩) hHeld ?_
   refine takeAt 10 (.agg (resL x).toArray) rfl (yieldsIf_load_mid (by rfl) _ _ rfl rg (i * 5) rfl (resL x) _ (fun w hw => hw.b) Tryz.underlying66 rfl Tryz.size66) hHeld ?_
   refine takeS 11 (.bool true) rfl hHeld ?_
   refine takeR 12 (.bool true) rfl hHeld ?_
   refine wpAnyH_done (by kernel_rfl) ?_ _
   clear hHeld heq HTW
   go_wp2
   go_roundw
   case rel => exact ⟨i + 1, by omega, rfl, by go_num, (show Hid _ from H2.out.drew)⟩
   case measure => simp [intOf]; omega
  ·have hlt' : ¬ (i : Int) < (N : Int) := by omega
   go_wp2
   go_ret2
   rw [HL.out, HN.out]
   exact ⟨HB1.out.trans (H2.out.mono HB1.out.size), ba, bcap, rfl, ((ownsRow_in HO1.out).below H2.out).1⟩

theorem schA_len {p : List (List Pl.POp)} (h10 : Pl.countShared p ≤ 10) : (schA p).length ≤ 4000 ∧ (cycA p).length ≤ 4000 := by
 unfold schA cycA
 cases hq : checkOf p with
 | none => exact ⟨Nat.zero_le _, Nat.zero_le _⟩
 | some x =>
  obtain ⟨sch, c⟩ := x
  obtain ⟨S, es, hf, -, hce, -⟩ := check_some hq
  have h5 := cycle_len es
  have h6 := (follow_len hf).2
  show sch.length ≤ 4000 ∧ c.length ≤ 4000
  rw [hce]
  omega

end Go.Proofs.YtfdafcnfefbcbabGreat
