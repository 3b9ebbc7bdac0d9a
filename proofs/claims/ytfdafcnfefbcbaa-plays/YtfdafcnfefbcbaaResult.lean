/-
  The contract of State.Result.
-/
import Derived.Test.YtfdafcnfefbcbaaCalls
import Derived.Deep.RegionHeld3
namespace Go.Proofs.Ytfdafcnfefbcbaa
open Go.RowKit
set_option linter.unusedVariables false
attribute [local go_sem ↓] Go.wp_at_zero Go.wp_at_succ exec_load_state
attribute [local go_sem] ptrB isPtr0 aggL

/-- A result: how the run stands, and the variables. -/
def resV (e : Nat) (a b c d : Int) : Value := .agg #[.int .u8 (e : Int), .int .i16 a, .int .i16 b, .int .i16 c, .int .i16 d]

def playV (p : List (List Pl.POp)) (ms : List Int) : Value := match follow p (beginTo p 4) [] 0 ms with
  | none => .tuple #[resV 0 0 0 0 0, .int .i64 4]
  | some (S, es) => .tuple #[resV (endOf S p) S.v0 S.v1 S.v2 S.v3, .int .i64 0]

def put5 (X : World) (c : Nat) (v0 v1 v2 v3 v4 : Value) : World := ((((X.setCell ⟨c, 0, none⟩ v0).setCell ⟨c, 1, none⟩ v1).setCell ⟨c, 2, none⟩ v2).setCell ⟨c, 3, none⟩ v3).setCell ⟨c, 4, none⟩ v4

theorem put5_below {X w : World} {B c : Nat} (h : Below B w X) (hc : B ≤ c) (v0 v1 v2 v3 v4 : Value) : Below B w (put5 X c v0 v1 v2 v3 v4) :=
  ((((h.setCell hc _).setCell hc _).setCell hc _).setCell hc _).setCell hc _

theorem put5_cell {X : World} {c b : Nat} (hne : b ≠ c) (j : Nat) (v0 v1 v2 v3 v4 : Value) : (put5 X c v0 v1 v2 v3 v4).cell? ⟨b, j, none⟩ = X.cell? ⟨b, j, none⟩ := by
  unfold put5
  simp [World.cell?_setCell_other]

theorem put5_range {X : World} {c : Nat} {u0 u1 u2 u3 u4 : Value} (v0 v1 v2 v3 v4 : Value) (h0 : X.cell? ⟨c, 0, none⟩ = some u0) (h1 : X.cell? ⟨c, 1, none⟩ = some u1) (h2 : X.cell? ⟨c, 2, none⟩ = some u2) (h3 : X.cell? ⟨c, 3, none⟩ = some u3) (h4 : X.cell? ⟨c, 4, none⟩ = some u4) :
    (put5 X c v0 v1 v2 v3 v4).rangeAt c 0 [v0, v1, v2, v3, v4] := fun j v hv => by
  rw [Nat.zero_add]
  have hj : j < 5 := by simpa using (List.getElem?_eq_some_iff.1 hv).1
  have : j = 0 ∨ j = 1 ∨ j = 2 ∨ j = 3 ∨ j = 4 := by omega
  unfold put5
  rcases this with rfl | rfl | rfl | rfl | rfl <;> (simp at hv; subst hv; simp [World.cell?_setCell_other, World.cell?_setCell_same', h0, h1, h2, h3, h4])

/-- Two results, the first of them in memory. -/
theorem ret_mid {fn : Func} {p u : Tmp} {ty : TypeId} (h : fn.results = #[.cell p ty, .tmp u]) (tmps : Array Value) (F : World) (b : Nat) (cs : List Value) (d : TypeDesc) (hp : tmps.getD p undef = .pointer (some ⟨b, 0, none⟩)) (hr : F.rangeAt b 0 cs)
    (hu : Try.prog.underlying ty = some d) (hd : d.isRow = true) (hi : (Try.prog.info? ty).map (·.size) = some cs.length) :
    (results fn tmps).run Try.prog F = .ok (.tuple #[.agg cs.toArray, tmps.getD u undef]) F := by
  have hl := run_loadVar_mid (P := Try.prog) F b 0 ty _ _ hr hu hd hi
  rw [results_cell_tmp h, hp]
  simp only [asAddr, Sem.run_pure, Result.andThen_ok, hl]

theorem Try.size59 : (Try.prog.info? 59).map (·.size) = some 5 := by kernel_rfl

/-- What the last region of Play rests on. -/
structure PlayT (b c d : Nat) (v : Value) (S : St) (w : World) : Prop where
  pr : w.cell? ⟨b, 0, none⟩ = some v
  st : ∀ j, w.cell? ⟨c, j, none⟩ = (stL S)[j]?
  there : w.there d 0 5

theorem PlayT.range4 {b c d : Nat} {v : Value} {S : St} {w : World} (h : PlayT b c d v S w) : w.rangeAt c 0 [.int .i16 S.v0, .int .i16 S.v1, .int .i16 S.v2, .int .i16 S.v3] := fun j v hv => by
  have hj : j < 4 := by simpa using (List.getElem?_eq_some_iff.1 hv).1
  have : j = 0 ∨ j = 1 ∨ j = 2 ∨ j = 3 := by omega
  rw [Nat.zero_add, h.st j]
  rcases this with rfl | rfl | rfl | rfl <;> exact hv

theorem PlayT.range1 {b c d : Nat} {v : Value} {S : St} {w : World} (h : PlayT b c d v S w) : w.rangeAt b 0 [v] := fun j u hu => by
  have hj : j < 1 := by simpa using (List.getElem?_eq_some_iff.1 hu).1
  have : j = 0 := by omega
  subst this
  simp at hu
  subst hu
  exact h.pr

theorem PlayT.below {b c d : Nat} {v : Value} {S : St} {w w' : World} {B : Nat} (h : PlayT b c d v S w) (hb : Below B w w') (h1 : b < B) (h2 : c < B) (h3 : d < B) : PlayT b c d v S w' :=
  ⟨(hb.cell (p := ⟨b, 0, none⟩) h1).trans h.pr, fun j => (hb.cell (p := ⟨c, j, none⟩) h2).trans (h.st j), fun j hj => by
    have := h.there j hj
    exact ⟨by rw [hb.cell (p := ⟨d, 0 + j, none⟩) h3]; exact this.1, by rw [hb.frozen (p := ⟨d, 0 + j, none⟩) h3]; exact this.2⟩⟩

theorem PlayT.put {b c d : Nat} {v : Value} {S : St} {w : World} (h : PlayT b c d v S w) (h1 : b ≠ d) (h2 : c ≠ d) (vs : List Value) : PlayT b c d v S (w.setCells d 0 vs) :=
  ⟨(cell_out (Ne.symm h1) _ _ _).trans h.pr, fun j => (cell_out (Ne.symm h2) _ _ _).trans (h.st j), World.there_setCells h.there _ _ _⟩

theorem wpAnyH_call {P : Program} {md : Region.Mode} {ops : Array Oper} {Q : Exit → Act → World → Prop} {S : World → Prop} {fuel : Nat} {listed : Array Bool} {a : Act} {w : World} (i : Nat) (o : Oper) (hr : Region.ready md ops listed = [i]) (ho : ops[i]? = some o) (hg : o.guard = none)
    (f : FuncId) (args : Array Value) (hrun : (execOp a.eval o).run P w = .ok (.enter f args) w) (T : Ending → World → Prop) (hc : Calls P f args w T)
    (h : ∀ e w', T e w' → ∃ v, e = .returned v ∧ S w' ∧ wpAnyH P md ops Q S fuel (listed.setIfInBounds i true) (a.put o.dst v) w') : wpAnyH P md ops Q S (fuel + 1) listed a w := by
  refine wpAnyH_ready hr (by simp) (AllReadyH.cons ho (fun K' hK => ?_) AllReadyH.nil)
  rw [if_pos (by simp [Region.wanted, hg])]
  unfold Oper.wp
  rw [hrun, Oper.upon_enter]
  refine hc.mono fun e w'' hh => ?_
  obtain ⟨v, rfl, hS, hn⟩ := h e w'' hh
  exact hK.out _ _ hS (fun _ => hn)

theorem Try.size101 : (Try.prog.info? 101).map (·.size) = some 1 := by kernel_rfl
theorem Try.size57 : (Try.prog.info? 57).map (·.size) = some 4 := by kernel_rfl

theorem ret_one {fn : Func} {p : Tmp} {ty : TypeId} (h : fn.results = #[.cell p ty]) (tmps : Array Value) (F : World) (b : Nat) (cs : List Value) (d : TypeDesc) (hp : tmps.getD p undef = .pointer (some ⟨b, 0, none⟩)) (hr : F.rangeAt b 0 cs)
    (hu : Try.prog.underlying ty = some d) (hd : d.isRow = true) (hi : (Try.prog.info? ty).map (·.size) = some cs.length) :
    (results fn tmps).run Try.prog F = .ok (.agg cs.toArray) F := by
  have hl := run_loadVar_mid (P := Try.prog) F b 0 ty _ _ hr hu hd hi
  have hp' : tmps[p]?.getD undef = .pointer (some ⟨b, 0, none⟩) := by simpa using hp
  simp [results, h, hp', asAddr, hl]

set_option maxRecDepth 100000 in
set_option maxHeartbeats 2000000 in
theorem result_any (S' : St) (p : List (List Pl.POp)) (a : Option Addr) (cap lo hi : Nat) (w : World) (hp : ProgOk w lo hi a cap p) :
    Calls Try.prog 58 #[.agg (stL S').toArray, .agg #[.slice a p.length cap]] w fun e w' => e = .returned (resV (endOf S' p) S'.v0 S'.v1 S'.v2 S'.v3) ∧ Below w.heap.size w w' := by
  have HOK : Hid _ := hp
  clear hp
  go_enter Try.func58, Try.ntmps58
  go_upto_region 1 with fail
  have HB : Hid (Below w.heap.size w (((w.alloc (.cells (stL S').toArray 117)).alloc (.cells #[.slice a p.length cap] 101)).alloc (.cells #[.int .u8 0, .int .i16 0, .int .i16 0, .int .i16 0, .int .i16 0] 59))) := three_new w _ _ _
  have HZ : Hid ((((w.alloc (.cells (stL S').toArray 117)).alloc (.cells #[.slice a p.length cap] 101)).alloc (.cells #[.int .u8 0, .int .i16 0, .int .i16 0, .int .i16 0, .int .i16 0] 59)).heap.size = w.heap.size + 3) := by show _ = _; simp
  have HT : Hid (PlayT (w.heap.size + 1) w.heap.size (w.heap.size + 2) (.slice a p.length cap) S' (((w.alloc (.cells (stL S').toArray 117)).alloc (.cells #[.slice a p.length cap] 101)).alloc (.cells #[.int .u8 0, .int .i16 0, .int .i16 0, .int .i16 0, .int .i16 0] 59))) := by
    refine ⟨?_, fun j => ?_, fun j hj => ⟨?_, ?_⟩⟩
    · rw [World.cell?_alloc_past _ _ _ (by simp)]; simp
    · rw [World.cell?_alloc_past _ _ _ (by simp; omega), World.cell?_alloc_past _ _ _ (by simp)]; exact box_cell w S' j
    · have : j = 0 ∨ j = 1 ∨ j = 2 ∨ j = 3 ∨ j = 4 := by omega
      rcases this with rfl | rfl | rfl | rfl | rfl <;> simp [go_sem]
    · exact World.frozen?_alloc_at _ _ _ _ (by simp)
  generalize (((w.alloc (.cells (stL S').toArray 117)).alloc (.cells #[.slice a p.length cap] 101)).alloc (.cells #[.int .u8 0, .int .i16 0, .int .i16 0, .int .i16 0, .int .i16 0] 59)) = X at *
  have HOX : Hid (ProgOk X lo hi a cap p) := HOK.out.below HB.out HOK.out.size
  have hz := HZ.out
  have lt0 : w.heap.size < X.heap.size := by omega
  have lt1 : w.heap.size + 1 < X.heap.size := by omega
  have lt2 : w.heap.size + 2 < X.heap.size := by omega
  clear hz
  refine wp_region_held_drew (S := PlayT (w.heap.size + 1) w.heap.size (w.heap.size + 2) (.slice a p.length cap) S') (by kernel_rfl) ⟨HT.out.pr, HT.out.st, HT.out.there⟩ (fun hHeld => ?_)
  refine wpAnyH_take (i := 0) (v := (.agg (stL S').toArray)) rfl (by kernel_rfl) (by kernel_rfl) (by kernel_rfl) (fun _ _ _ h => h) (yieldsIf_load_mid (by rfl) _ _ rfl w.heap.size 0 rfl _ _ (fun w hw => range_of_all hw.st) Try.underlying117 rfl Try.size117) hHeld ?_
  simp only [List.getElem_toArray, List.getElem_cons_zero, Act.put, List.setIfInBounds_toArray, List.set_cons_zero, List.set_cons_succ]
  refine wpAnyH_take (i := 1) (v := (.agg #[.slice a p.length cap])) rfl (by kernel_rfl) (by kernel_rfl) (by kernel_rfl) (fun _ _ _ h => h) (yieldsIf_load_mid (by rfl) _ _ rfl (w.heap.size + 1) 0 rfl [.slice a p.length cap] _ (fun w hw => hw.range1) Try.underlying101 rfl Try.size101) hHeld ?_
  simp only [List.getElem_toArray, List.getElem_cons_zero, List.getElem_cons_succ, Act.put, List.setIfInBounds_toArray, List.set_cons_zero, List.set_cons_succ]
  refine wpAnyH_take (i := 3) (v := (.pointer (some ⟨w.heap.size, 0, none⟩))) rfl (by kernel_rfl) (by kernel_rfl) (by kernel_rfl) (fun _ _ _ h => h) (Or.inl ⟨by rfl, fun _ _ => rfl⟩) hHeld ?_
  simp only [List.getElem_toArray, List.getElem_cons_zero, List.getElem_cons_succ, Act.put, List.setIfInBounds_toArray, List.set_cons_zero, List.set_cons_succ]
  refine wpAnyH_take (i := 4) (v := (.agg #[.int .i16 S'.v0, .int .i16 S'.v1, .int .i16 S'.v2, .int .i16 S'.v3])) rfl (by kernel_rfl) (by kernel_rfl) (by kernel_rfl) (fun _ _ _ h => h) (yieldsIf_load_mid (by rfl) _ _ rfl w.heap.size 0 rfl [.int .i16 S'.v0, .int .i16 S'.v1, .int .i16 S'.v2, .int .i16 S'.v3] _ (fun w hw => hw.range4) Try.underlying57 rfl Try.size57) hHeld ?_
  simp only [List.getElem_toArray, List.getElem_cons_zero, List.getElem_cons_succ, Act.put, List.setIfInBounds_toArray, List.set_cons_zero, List.set_cons_succ]
  refine wpAnyH_call 2 _ (by kernel_rfl) rfl rfl 88 #[.agg (stL S').toArray, .agg #[.slice a p.length cap]] (by go_simp) _ (end_any S' p a cap lo hi _ (HOX.out.below (B := X.heap.size) (Below.refl _ _).drew HOX.out.size)) ?_
  rintro e w3 ⟨rfl, hw3'⟩
  have hw3 : Below X.heap.size X w3 := (Below.refl _ _).drew.trans (hw3'.mono (Nat.le_refl _))
  have hS3 := hHeld.below hw3' lt1 lt0 lt2
  refine ⟨_, rfl, hS3, ?_⟩
  simp only [List.getElem_toArray, List.getElem_cons_zero, List.getElem_cons_succ, Act.put, List.setIfInBounds_toArray, List.set_cons_zero, List.set_cons_succ]
  refine wpAnyH_take (i := 5) (v := (.agg #[Value.int .u8 (endOf S' p : Int), .int .i16 S'.v0, .int .i16 S'.v1, .int .i16 S'.v2, .int .i16 S'.v3])) rfl (by kernel_rfl) (by kernel_rfl) (by kernel_rfl) (fun _ _ _ h => h) (Or.inl ⟨by rfl, fun _ _ => by go_simp⟩) hS3 ?_
  simp only [List.getElem_toArray, List.getElem_cons_zero, List.getElem_cons_succ, Act.put, List.setIfInBounds_toArray, List.set_cons_zero, List.set_cons_succ]
  have hS4 := hS3.put (by omega) (by omega) #[Value.int .u8 (endOf S' p : Int), .int .i16 S'.v0, .int .i16 S'.v1, .int .i16 S'.v2, .int .i16 S'.v3].toList
  refine wpAnyH_store 6 _ (by kernel_rfl) rfl rfl rfl 59 _ _ rfl (w.heap.size + 2) #[Value.int .u8 (endOf S' p : Int), .int .i16 S'.v0, .int .i16 S'.v1, .int .i16 S'.v2, .int .i16 S'.v3] rfl rfl hS3.there Try.size59 (by simp [Value.oneCell']) hS4 ?_
  refine wpAnyH_done (by kernel_rfl) ?_ _
  have xr := World.rangeAt_setCells_same w3 (w.heap.size + 2) 0 #[Value.int .u8 (endOf S' p : Int), .int .i16 S'.v0, .int .i16 S'.v1, .int .i16 S'.v2, .int .i16 S'.v3].toList hS3.there
  have xb := below_setCells (w.heap.size + 2) (by omega) #[Value.int .u8 (endOf S' p : Int), .int .i16 S'.v0, .int .i16 S'.v1, .int .i16 S'.v2, .int .i16 S'.v3].toList 0 _ (HB.out.trans (hw3.mono HB.out.size))
  generalize w3.setCells (w.heap.size + 2) 0 #[Value.int .u8 (endOf S' p : Int), .int .i16 S'.v0, .int .i16 S'.v1, .int .i16 S'.v2, .int .i16 S'.v3].toList = F at *
  go_wp2
  refine bodyPost_ret (v := resV (endOf S' p) S'.v0 S'.v1 S'.v2 S'.v3) (ret_one Try.results58 _ F (w.heap.size + 2) _ _ rfl xr Try.underlying59 rfl Try.size59) rfl ⟨rfl, xb⟩

end Go.Proofs.Ytfdafcnfefbcbaa
