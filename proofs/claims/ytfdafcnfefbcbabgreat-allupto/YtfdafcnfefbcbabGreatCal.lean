/-
 Several texts of ours in one: Calls, Events, Result, Play.
-/
import Derived.Test.YtfdafcnfefbcbabGreatFol
import Derived.Test.YtfdafcnfefbcbabGreatNew
import Derived.Deep.RegionHeld3
import Derived.Test.YtfdafcnfefbcbabGreatBas
/-
 What the three calls rest on: a program in memory, what Follow answers.
-/
namespace Go.Proofs.YtfdafcnfefbcbabGreat
open Go.RowKit
set_option linter.unusedVariables false
set_option maxRecDepth 100000
set_option maxHeartbeats 2000000

/-- A program of few and short rows, of bytes. -/
structure Tiny (p : List (List Pl.POp)) : Prop where
 few : p.length ≤ 1000
 short : ∀ r ∈ p, r.length ≤ 1000
 bytes : ∀ r ∈ p, Bytes r

theorem ProgIn.ok {w : World} {lo hi b : Nat} {p : List (List Pl.POp)} (h : ProgIn w lo hi b p) (hs : Tiny p) (hh : hi ≤ w.heap.size) : ∃ a cap, b < hi ∧ w.cell? ⟨b, 0, none⟩ = some (.slice a p.length cap) ∧ ProgOk w lo hi a cap p := by
 obtain ⟨h1, h2, a, cap, h3, h4⟩ := h
 exact ⟨a, cap, h2, h3, ⟨h4, hh, hs.few, hs.short, hs.bytes⟩⟩

/-! What New gives is small. -/
structure DraftSmall (d : Pl.Draft) (n : Nat) : Prop where
 few : d.threads.length ≤ 4
 len : d.ops.length ≤ n
 short : ∀ r ∈ d.threads, r.length ≤ n
 bytes : ∀ r ∈ d.threads, Bytes r
 own : Bytes d.ops

theorem DraftSmall.add {d : Pl.Draft} {n k x : Nat} (h : DraftSmall d n) (ha : Pl.admits d k = true) (hk : k < 256) (hx : x < 256) : DraftSmall (Pl.add d k x) (n + 1) := by
 have push : ∀ o : Pl.POp, o.kind < 256 ∧ o.name < 256 → Bytes (d.ops ++ [o]) := fun o ho => by
  intro q hq
  rcases List.mem_append.1 hq with hq | hq
  ·exact h.own q hq
  ·simp at hq; subst hq; exact ho
 have hl := h.len
 unfold Pl.add
 split
 ·rename_i h10
  unfold Pl.endThread
  have h4 : d.threads.length + 1 < 4 := by
   unfold Pl.admits at ha
   rw [if_pos h10] at ha
   simp at ha; omega
  refine ⟨by simp; omega, by simp, fun r hr => ?_, fun r hr => ?_, fun q hq => by simp at hq⟩
  ·rcases List.mem_append.1 hr with hr | hr
   ·exact Nat.le_succ_of_le (h.short r hr)
   ·simp at hr; subst hr; omega
  ·rcases List.mem_append.1 hr with hr | hr
   ·exact h.bytes r hr
   ·simp at hr; subst hr; exact h.own
 split
 ·exact ⟨h.few, by simp; omega, fun r hr => Nat.le_succ_of_le (h.short r hr), h.bytes, push _ ⟨hk, by simp⟩⟩
 split
 ·exact ⟨h.few, by simp; omega, fun r hr => Nat.le_succ_of_le (h.short r hr), h.bytes, push _ ⟨hk, by simp⟩⟩
 ·exact ⟨h.few, by simp; omega, fun r hr => Nat.le_succ_of_le (h.short r hr), h.bytes, push _ ⟨hk, hx⟩⟩

theorem read_tiny : ∀ (s : List Nat) (d : Pl.Draft) (i n : Nat) (p : List (List Pl.POp)), DraftSmall d n → (∀ c ∈ s, c < 256) → (Pl.read d i s).1 = some p → p.length ≤ 5 ∧ ∀ r ∈ p, r.length ≤ n + s.length ∧ Bytes r
 | [], d, i, n, p, hd, _, h => by
  rw [Pl.read] at h
  split at h
  ·simp at h
   subst h
   have := hd.few
   refine ⟨by simp; omega, fun r hr => ?_⟩
   rcases List.mem_append.1 hr with hr | hr
   ·exact ⟨Nat.le_trans (hd.short r hr) (by simp), hd.bytes r hr⟩
   ·simp at hr; subst hr; exact ⟨Nat.le_trans hd.len (by simp), hd.own⟩
  ·cases h
 | [k], d, i, n, p, hd, hc, h => by
  rw [Pl.read] at h
  split at h
  ·split at h
   ·cases h
   ·rename_i ha _
    have := read_tiny [] _ _ (n + 1) p (hd.add ha (hc k (by simp)) (by simp)) (by simp) h
    exact ⟨this.1, fun r hr => by have := this.2 r hr; simpa using this⟩
  ·cases h
 | k :: x :: r, d, i, n, p, hd, hc, h => by
  rw [Pl.read] at h
  split at h
  ·rename_i ha
   split at h
   ·split at h
    ·have := read_tiny r _ _ (n + 1) p (hd.add ha (hc k (by simp)) (hc x (by simp))) (fun c hc' => hc c (by simp [hc'])) h
     exact ⟨this.1, fun q hq => by have := this.2 q hq; simp at this ⊢; exact ⟨by omega, this.2⟩⟩
    ·cases h
   ·have := read_tiny (x :: r) _ _ (n + 1) p (hd.add ha (hc k (by simp)) (by simp)) (fun c hc' => hc c (by simp at hc' ⊢; right; exact hc')) h
    exact ⟨this.1, fun q hq => by have := this.2 q hq; simp at this ⊢; exact ⟨by omega, this.2⟩⟩
  ·cases h

theorem new_tiny {s : List Nat} {p : List (List Pl.POp)} (hs : ∀ c ∈ s, c < 256) (h : Pl.new s = .inr p) : Tiny p := by
 unfold Pl.new at h
 split at h
 ·cases h
 ·rename_i hl
  split at h
  ·cases h
  ·rename_i q hq
   split at h
   ·cases h
   ·simp at h
    subst h
    have := read_tiny s _ _ 0 _ ⟨by simp [Pl.draft0], by simp [Pl.draft0], by simp [Pl.draft0], by simp [Pl.draft0], fun q hq => by simp [Pl.draft0] at hq⟩ hs hq
    exact ⟨by omega, fun r hr => by have := (this.2 r hr).1; omega, fun r hr => (this.2 r hr).2⟩

theorem bytesOf_lt (s : ByteArray) : ∀ c ∈ bytesOf s, c < 256 := by
 intro c hc
 unfold bytesOf at hc
 simp at hc
 obtain ⟨x, -, rfl⟩ := hc
 exact x.toNat_lt

theorem followSays_form {p : List (List Pl.POp)} {ms : List Int} {w w' : World} {e : Ending} (h : FollowSays p ms w e w') : ∃ S' ea n ecap c, e = .returned (.tuple #[.agg (stL S').toArray, .slice ea n ecap, .bool c]) ∧
  (c = false → follow p (beginTo p 4) [] 0 ms = none) ∧ (c = true → ∃ es, follow p (beginTo p 4) [] 0 ms = some (S', es) ∧ n = es.length ∧ w'.ownsRow w.heap.size 59 6 (.slice ea es.length ecap) es.length (evCells es)) := by
 have h2 := h.2
 cases hf : follow p (beginTo p 4) [] 0 ms with
 | none => rw [hf] at h2; exact ⟨st0, none, 0, 0, false, h2, fun _ => rfl, (fun h => by cases h)⟩
 | some x =>
  obtain ⟨S', es⟩ := x
  rw [hf] at h2
  obtain ⟨ea, ecap, he, ho⟩ := h2
  exact ⟨S', ea, es.length, ecap, true, he, (fun h => by cases h), fun _ => ⟨es, rfl, rfl, ho⟩⟩

attribute [local go_sem ↓] Go.wp_at_zero Go.wp_at_succ exec_load_state
attribute [local go_sem] ptrB isPtr0 aggL

def EventsSays (p : List (List Pl.POp)) (ms : List Int) (w : World) (e : Ending) (w' : World) : Prop :=
 Below w.heap.size w w' ∧ match follow p (beginTo p 4) [] 0 ms with
 | none => e = .returned (.tuple #[.slice none 0 0, .int .i64 4])
 | some (S, es) => ∃ ea ecap, e = .returned (.tuple #[.slice ea es.length ecap, .int .i64 0]) ∧ w'.ownsRow w.heap.size 59 6 (.slice ea es.length ecap) es.length (evCells es)

theorem events_any (p : List (List Pl.POp)) (lo hi b : Nat) (ms : List Int) (sa : Option Addr) (scap : Nat) (w : World) (hp : ProgIn w lo hi b p) (hs : Tiny p) (hh : hi ≤ w.heap.size) (hm : IntsIn w sa ms) (hlen : ms.length ≤ maxLen) :
  Calls Tryz.prog 45 #[.pointer (some ⟨b, 0, none⟩), .slice sa ms.length scap] w fun e w' => EventsSays p ms w e w' := by
 obtain ⟨a, cap, hbh, hc, hok⟩ := hp.ok hs hh
 have HM : Hid _ := hm
 have HOK : Hid _ := hok
 have HL : Hid _ := hlen
 clear hm hok hlen hp hs
 go_enter Tryz.func45, Tryz.ntmps45
 go_wp2_with fail
 refine (follow_any p a cap lo hi ms sa scap _ HOK.out HM.out HL.out).mono ?_
 rintro e w1 hf
 obtain ⟨S', ea, n, ecap, c, rfl, hF, hT⟩ := followSays_form hf
 have hb1 := hf.1
 have HF : Hid (c = false → _) := hF
 have HT : Hid (c = true → _) := hT
 clear hF hT hf
 have HXT : Hid ((w1.alloc (.cells z24 108)).there w1.heap.size 0 (stL S').toArray.size) := new_there w1
 have HXB : Hid (Below w1.heap.size w1 ((w1.alloc (.cells z24 108)).setCells w1.heap.size 0 (stL S').toArray.toList)) := new_below w1 _
 go_upto_region 2 with (first | (refine wpList_store_mid rfl 108 _ _ rfl w1.heap.size 0 (stL S').toArray rfl rfl (by exact HXT.out) Tryz.size108 (all_oneCell_toArray (stL_one _)) ?_; generalize ((w1.alloc (.cells z24 108)).setCells w1.heap.size 0 (stL S').toArray.toList) = X at *))
 have HBX : Hid (Below w.heap.size w X) := hb1.trans (HXB.out.mono hb1.size)
 cases c
 ·have HN : Hid _ := HF.out rfl
  clear HF HT
  go_wp2
  go_ret2
  refine ⟨HBX.out, ?_⟩
  rw [HN.out]; rfl
 ·obtain ⟨es, hfo, rfl, ho⟩ := HT.out rfl
  have HFO : Hid _ := hfo
  have HO : Hid (X.ownsRow w.heap.size 59 6 (.slice ea es.length ecap) es.length (evCells es)) := ((ownsRow_in ho).below HXB.out).1
  clear HF HT hfo ho
  go_wp2
  go_ret2
  refine ⟨HBX.out, ?_⟩
  rw [HFO.out]
  exact ⟨ea, ecap, rfl, HO.out⟩

def ReadySays (p : List (List Pl.POp)) (ms : List Int) (w : World) (e : Ending) (w' : World) : Prop :=
 Below w.heap.size w w' ∧ match follow p (beginTo p 4) [] 0 ms with
 | none => e = .returned (.tuple #[.slice none 0 0, .int .i64 4])
 | some (S, es) => ∃ ra rcap, e = .returned (.tuple #[.slice ra (readyTo S p 4).length rcap, .int .i64 0]) ∧ w'.ownsRow w.heap.size 3 1 (.slice ra (readyTo S p 4).length rcap) (readyTo S p 4).length (intCells (readyTo S p 4))

theorem progReady_any (p : List (List Pl.POp)) (lo hi b : Nat) (ms : List Int) (sa : Option Addr) (scap : Nat) (w : World) (hp : ProgIn w lo hi b p) (hs : Tiny p) (hh : hi ≤ w.heap.size) (hm : IntsIn w sa ms) (hlen : ms.length ≤ maxLen) :
  Calls Tryz.prog 38 #[.pointer (some ⟨b, 0, none⟩), .slice sa ms.length scap] w fun e w' => ReadySays p ms w e w' := by
 obtain ⟨a, cap, hbh, hc, hok⟩ := hp.ok hs hh
 have HM : Hid _ := hm
 have HOK : Hid _ := hok
 have HL : Hid _ := hlen
 clear hm hok hlen hp hs
 go_enter Tryz.func38, Tryz.ntmps38
 go_wp2_with fail
 refine (follow_any p a cap lo hi ms sa scap _ HOK.out HM.out HL.out).mono ?_
 rintro e w1 hf
 obtain ⟨S', ea, n, ecap, c, rfl, hF, hT⟩ := followSays_form hf
 have hb1 := hf.1
 have HF : Hid (c = false → _) := hF
 have HT : Hid (c = true → _) := hT
 clear hF hT hf
 have HXT : Hid ((w1.alloc (.cells z24 108)).there w1.heap.size 0 (stL S').toArray.size) := new_there w1
 have HX : Hid (∀ j, ((w1.alloc (.cells z24 108)).setCells w1.heap.size 0 (stL S').toArray.toList).cell? ⟨w1.heap.size, j, none⟩ = (stL S')[j]?) := new_all w1 _
 have HXB : Hid (Below w1.heap.size w1 ((w1.alloc (.cells z24 108)).setCells w1.heap.size 0 (stL S').toArray.toList)) := new_below w1 _
 have HXZ : Hid (((w1.alloc (.cells z24 108)).setCells w1.heap.size 0 (stL S').toArray.toList).heap.size = w1.heap.size + 1) := by show _ = _; rw [size_setCells]; simp
 go_upto_region 2 with (first | (refine wpList_store_mid rfl 108 _ _ rfl w1.heap.size 0 (stL S').toArray rfl rfl (by exact HXT.out) Tryz.size108 (all_oneCell_toArray (stL_one _)) ?_; generalize ((w1.alloc (.cells z24 108)).setCells w1.heap.size 0 (stL S').toArray.toList) = X at *))
 have HBX : Hid (Below w.heap.size w X) := hb1.trans (HXB.out.mono hb1.size)
 cases c
 ·have HN : Hid _ := HF.out rfl
  clear HF HT
  go_wp2
  go_ret2
  refine ⟨HBX.out, ?_⟩
  rw [HN.out]; rfl
 ·obtain ⟨es, hfo, rfl, -⟩ := HT.out rfl
  have HFO : Hid _ := hfo
  have hcX : X.cell? ⟨b, 0, none⟩ = some (.slice a p.length cap) := (HBX.out.cell (p := ⟨b, 0, none⟩) (show b < w.heap.size by omega)).trans hc
  have HOX : Hid _ := HOK.out.below HBX.out HOK.out.size
  have HRD : Hid _ := rd_of HX.out
  have lt1 : w1.heap.size < X.heap.size := by have := HXZ.out; omega
  have ltb : b < X.heap.size := by have := HBX.out.size; omega
  clear HF HT hfo HXT HXB hb1 hc
  go_wp2_with fail
  go_region_held3 (fun w' => w'.cell? ⟨b, 0, none⟩ = some (.slice a p.length cap) ∧ okS w' w1.heap.size ∧ rd w' w1.heap.size = (stL S').toArray)
   (first | exact ⟨hcX, rd_of HX.out⟩ | exact ⟨(hw3.cell (p := ⟨b, 0, none⟩) ltb).trans hcX, rd_of (all_below HX.out hw3 lt1)⟩)
   (first | (go_at_call 60; refine (ready_any S' p a cap lo hi _ (HOX.out.below (B := X.heap.size) (Below.refl _ _).drew HOX.out.size)).mono ?_; rintro e w3 ⟨⟨ra, rcap, rfl, ho3⟩, hw3'⟩; have hw3 : Below X.heap.size X w3 := (Below.refl _ _).drew.trans (hw3'.mono (Nat.le_refl _)); have HO3 : Hid _ := ho3; clear ho3))
  go_wp2
  go_ret2
  refine ⟨HBX.out.trans (hw3.mono HBX.out.size), ?_⟩
  rw [HFO.out]
  exact ⟨ra, rcap, rfl, ((ownsRow_in HO3.out).mono (by have := HBX.out.size; simp; omega) (Nat.le_refl _)).1⟩

attribute [local go_sem ↓] Go.wp_at_zero Go.wp_at_succ exec_load_state
attribute [local go_sem] ptrB isPtr0 aggL

/-- A result: how the run stands, and the variables. -/
def resV (e : Nat) (a b c d : Int) : Value := .agg #[.int .u8 (e : Int), .int .i16 a, .int .i16 b, .int .i16 c, .int .i16 d]

def playV (p : List (List Pl.POp)) (ms : List Int) : Value := match follow p (beginTo p 4) [] 0 ms with
 | none => .tuple #[resV 0 0 0 0 0, .int .i64 4]
 | some (S, es) => .tuple #[resV (endOf S p) S.v0 S.v1 S.v2 S.v3, .int .i64 0]

def put5 (X : World) (c : Nat) (v0 v1 v2 v3 v4 : Value) : World := ((((X.setCell ⟨c, 0, none⟩ v0).setCell ⟨c, 1, none⟩ v1).setCell ⟨c, 2, none⟩ v2).setCell ⟨c, 3, none⟩ v3).setCell ⟨c, 4, none⟩ v4

theorem put5_below {X w : World} {B c : Nat} (h : Below B w X) (hc : B ≤ c) (v0 v1 v2 v3 v4 : Value) : Below B w (put5 X c v0 v1 v2 v3 v4) :=
 ((((h.setCell hc _).setCell hc _).setCell hc _).setCell hc _).setCell hc _

theorem put5_range {X : World} {c : Nat} {u0 u1 u2 u3 u4 : Value} (v0 v1 v2 v3 v4 : Value) (h0 : X.cell? ⟨c, 0, none⟩ = some u0) (h1 : X.cell? ⟨c, 1, none⟩ = some u1) (h2 : X.cell? ⟨c, 2, none⟩ = some u2) (h3 : X.cell? ⟨c, 3, none⟩ = some u3) (h4 : X.cell? ⟨c, 4, none⟩ = some u4) :
  (put5 X c v0 v1 v2 v3 v4).rangeAt c 0 [v0, v1, v2, v3, v4] := fun j v hv => by
 rw [Nat.zero_add]
 have hj : j < 5 := by simpa using (List.getElem?_eq_some_iff.1 hv).1
 have : j = 0 ∨ j = 1 ∨ j = 2 ∨ j = 3 ∨ j = 4 := by omega
 unfold put5
 rcases this with rfl | rfl | rfl | rfl | rfl <;> (simp at hv; subst hv; simp [World.cell?_setCell_other, World.cell?_setCell_same', h0, h1, h2, h3, h4])

/-- Two results, the first of them in memory. -/
theorem ret_mid {fn : Func} {p u : Tmp} {ty : TypeId} (h : fn.results = #[.cell p ty, .tmp u]) (tmps : Array Value) (F : World) (b : Nat) (cs : List Value) (d : TypeDesc) (hp : tmps.getD p undef = .pointer (some ⟨b, 0, none⟩)) (hr : F.rangeAt b 0 cs)
  (hu : Tryz.prog.underlying ty = some d) (hd : d.isRow = true) (hi : (Tryz.prog.info? ty).map (·.size) = some cs.length) :
  (results fn tmps).run Tryz.prog F = .ok (.tuple #[.agg cs.toArray, tmps.getD u undef]) F := by
 have hl := run_loadVar_mid (P := Tryz.prog) F b 0 ty _ _ hr hu hd hi
 rw [results_cell_tmp h, hp]
 simp only [asAddr, Sem.run_pure, Result.andThen_ok, hl]

theorem Tryz.size66 : (Tryz.prog.info? 66).map (·.size) = some 5 := by kernel_rfl

/-- What the last region of Play rests on. -/
structure PlayT (b c d : Nat) (v : Value) (S : St) (w : World) : Prop where
 pr : w.cell? ⟨b, 0, none⟩ = some v
 st : ∀ j, w.cell? ⟨c, j, none⟩ = (stL S)[j]?
 there : w.there d 0 5

theorem PlayT.range4 {b c d : Nat} {v : Value} {S : St} {w : World} (h : PlayT b c d v S w) : w.rangeAt c 0 [.int .i16 S.v0, .int .i16 S.v1, .int .i16 S.v2, .int .i16 S.v3] := fun j v hv => by
 have hj : j < 4 := by simpa using (List.getElem?_eq_some_iff.1 hv).1
 have : j = 0 ∨ j = 1 ∨ j = 2 ∨ j = 3 := by omega
 rw [Nat.zero_add, h.st j]
 rcases this with rfl | rfl | rfl | rfl <;> exact hv

theorem PlayT.range1 {b c d : Nat} {v : Value} {S : St} {w : World} (h : PlayT b c d v S w) : w.rangeAt b 0 [v] := fun j u hu => by
 have hj : j < 1 := by simpa using (List.getElem?_eq_some_iff.1 hu).1
 have : j = 0 := by omega
 subst this
 simp at hu
 subst hu
 exact h.pr

theorem PlayT.below {b c d : Nat} {v : Value} {S : St} {w w' : World} {B : Nat} (h : PlayT b c d v S w) (hb : Below B w w') (h1 : b < B) (h2 : c < B) (h3 : d < B) : PlayT b c d v S w' :=
 ⟨(hb.cell (p := ⟨b, 0, none⟩) h1).trans h.pr, fun j => (hb.cell (p := ⟨c, j, none⟩) h2).trans (h.st j), fun j hj => by
   have := h.there j hj
   exact ⟨by rw [hb.cell (p := ⟨d, 0 + j, none⟩) h3]; exact this.1, by rw [hb.frozen (p := ⟨d, 0 + j, none⟩) h3]; exact this.2⟩⟩

theorem PlayT.put {b c d : Nat} {v : Value} {S : St} {w : World} (h : PlayT b c d v S w) (h1 : b ≠ d) (h2 : c ≠ d) (vs : List Value) : PlayT b c d v S (w.setCells d 0 vs) :=
 ⟨(cell_out (Ne.symm h1) _ _ _).trans h.pr, fun j => (cell_out (Ne.symm h2) _ _ _).trans (h.st j), World.there_setCells h.there _ _ _⟩

theorem wpAnyH_call {P : Program} {md : Region.Mode} {ops : Array Oper} {Q : Exit → Act → World → Prop} {S : World → Prop} {fuel : Nat} {listed : Array Bool} {a : Act} {w : World} (i : Nat) (o : Oper) (hr : Region.ready md ops listed = [i]) (ho : ops[i]? = some o) (hg : o.guard = none)
  (f : FuncId) (args : Array Value) (hrun : (execOp a.eval o).run P w = .ok (.enter f args) w) (T : Ending → World → Prop) (hc : Calls P f args w T)
  (h : ∀ e w', T e w' → ∃ v, e = .returned v ∧ S w' ∧ wpAnyH P md ops Q S fuel (listed.setIfInBounds i true) (a.put o.dst v) w') : wpAnyH P md ops Q S (fuel + 1) listed a w := by
 refine wpAnyH_ready hr (by simp) (AllReadyH.cons ho (fun K' hK => ?_) AllReadyH.nil)
 rw [if_pos (by simp [Region.wanted, hg])]
 unfold Oper.wp
 rw [hrun, Oper.upon_enter]
 refine hc.mono fun e w'' hh => ?_
 obtain ⟨v, rfl, hS, hn⟩ := h e w'' hh
 exact hK.out _ _ hS (fun _ => hn)

theorem Tryz.size71 : (Tryz.prog.info? 71).map (·.size) = some 1 := by kernel_rfl
theorem Tryz.size64 : (Tryz.prog.info? 64).map (·.size) = some 4 := by kernel_rfl

theorem ret_one {fn : Func} {p : Tmp} {ty : TypeId} (h : fn.results = #[.cell p ty]) (tmps : Array Value) (F : World) (b : Nat) (cs : List Value) (d : TypeDesc) (hp : tmps.getD p undef = .pointer (some ⟨b, 0, none⟩)) (hr : F.rangeAt b 0 cs)
  (hu : Tryz.prog.underlying ty = some d) (hd : d.isRow = true) (hi : (Tryz.prog.info? ty).map (·.size) = some cs.length) :
  (results fn tmps).run Tryz.prog F = .ok (.agg cs.toArray) F := by
 have hl := run_loadVar_mid (P := Tryz.prog) F b 0 ty _ _ hr hu hd hi
 have hp' : tmps[p]?.getD undef = .pointer (some ⟨b, 0, none⟩) := by simpa using hp
 simp [results, h, hp', asAddr, hl]

theorem result_any (S' : St) (p : List (List Pl.POp)) (a : Option Addr) (cap lo hi : Nat) (w : World) (hp : ProgOk w lo hi a cap p) :
  Calls Tryz.prog 32 #[.agg (stL S').toArray, .agg #[.slice a p.length cap]] w fun e w' => e = .returned (resV (endOf S' p) S'.v0 S'.v1 S'.v2 S'.v3) ∧ Below w.heap.size w w' := by
 have HOK : Hid _ := hp
 clear hp
 go_enter Tryz.func32, Tryz.ntmps32
 go_upto_region 1 with fail
 have HB : Hid (Below w.heap.size w (((w.alloc (.cells (stL S').toArray 108)).alloc (.cells #[.slice a p.length cap] 71)).alloc (.cells #[.int .u8 0, .int .i16 0, .int .i16 0, .int .i16 0, .int .i16 0] 66))) := three_new w _ _ _
 have HZ : Hid ((((w.alloc (.cells (stL S').toArray 108)).alloc (.cells #[.slice a p.length cap] 71)).alloc (.cells #[.int .u8 0, .int .i16 0, .int .i16 0, .int .i16 0, .int .i16 0] 66)).heap.size = w.heap.size + 3) := by show _ = _; simp
 have HT : Hid (PlayT (w.heap.size + 1) w.heap.size (w.heap.size + 2) (.slice a p.length cap) S' (((w.alloc (.cells (stL S').toArray 108)).alloc (.cells #[.slice a p.length cap] 71)).alloc (.cells #[.int .u8 0, .int .i16 0, .int .i16 0, .int .i16 0, .int .i16 0] 66))) := by
  refine ⟨?_, fun j => ?_, fun j hj => ⟨?_, ?_⟩⟩
  ·rw [World.cell?_alloc_past _ _ _ (by simp)]; simp
  ·rw [World.cell?_alloc_past _ _ _ (by simp; omega), World.cell?_alloc_past _ _ _ (by simp)]; exact box_cell w S' j
  ·have : j = 0 ∨ j = 1 ∨ j = 2 ∨ j = 3 ∨ j = 4 := by omega
   rcases this with rfl | rfl | rfl | rfl | rfl <;> simp [go_sem]
  ·exact World.frozen?_alloc_at _ _ _ _ (by simp)
 generalize (((w.alloc (.cells (stL S').toArray 108)).alloc (.cells #[.slice a p.length cap] 71)).alloc (.cells #[.int .u8 0, .int .i16 0, .int .i16 0, .int .i16 0, .int .i16 0] 66)) = X at *
 have HOX : Hid (ProgOk X lo hi a cap p) := HOK.out.below HB.out HOK.out.size
 have hz := HZ.out
 have lt0 : w.heap.size < X.heap.size := by omega
 have lt1 : w.heap.size + 1 < X.heap.size := by omega
 have lt2 : w.heap.size + 2 < X.heap.size := by omega
 clear hz
 refine wp_region_held_drew (S := PlayT (w.heap.size + 1) w.heap.size (w.heap.size + 2) (.slice a p.length cap) S') (by kernel_rfl) ⟨HT.out.pr, HT.out.st, HT.out.there⟩ (fun hHeld => ?_)
 refine takeAt 0 (.agg (stL S').toArray) rfl (yieldsIf_load_mid (by rfl) _ _ rfl w.heap.size 0 rfl _ _ (fun w hw => range_of_all hw.st) Tryz.underlying108 rfl Tryz.size108) hHeld ?_
 refine takeAt 1 (.agg #[.slice a p.length cap]) rfl (yieldsIf_load_mid (by rfl) _ _ rfl (w.heap.size + 1) 0 rfl [.slice a p.length cap] _ (fun w hw => hw.range1) Tryz.underlying71 rfl Tryz.size71) hHeld ?_
 refine takeR 3 (.pointer (some ⟨w.heap.size, 0, none⟩)) rfl hHeld ?_
 refine takeAt 4 (.agg #[.int .i16 S'.v0, .int .i16 S'.v1, .int .i16 S'.v2, .int .i16 S'.v3]) rfl (yieldsIf_load_mid (by rfl) _ _ rfl w.heap.size 0 rfl [.int .i16 S'.v0, .int .i16 S'.v1, .int .i16 S'.v2, .int .i16 S'.v3] _ (fun w hw => hw.range4) Tryz.underlying64 rfl Tryz.size64) hHeld ?_
 refine wpAnyH_call 2 _ (by kernel_rfl) rfl rfl 57 #[.agg (stL S').toArray, .agg #[.slice a p.length cap]] (by go_simp) _ (end_any S' p a cap lo hi _ (HOX.out.below (B := X.heap.size) (Below.refl _ _).drew HOX.out.size)) ?_
 rintro e w3 ⟨rfl, hw3'⟩
 have hw3 : Below X.heap.size X w3 := (Below.refl _ _).drew.trans (hw3'.mono (Nat.le_refl _))
 have hS3 := hHeld.below hw3' lt1 lt0 lt2
 refine ⟨_, rfl, hS3, ?_⟩
 simp only [List.getElem_toArray, List.getElem_cons_zero, List.getElem_cons_succ, Act.put, List.setIfInBounds_toArray, List.set_cons_zero, List.set_cons_succ]
 refine takeAt 5 (.agg #[Value.int .u8 (endOf S' p : Int), .int .i16 S'.v0, .int .i16 S'.v1, .int .i16 S'.v2, .int .i16 S'.v3]) rfl (.inl ⟨by rfl, fun _ _ => by go_simp⟩) hS3 ?_
 have hS4 := hS3.put (by omega) (by omega) #[Value.int .u8 (endOf S' p : Int), .int .i16 S'.v0, .int .i16 S'.v1, .int .i16 S'.v2, .int .i16 S'.v3].toList
 refine wpAnyH_store 6 _ (by kernel_rfl) rfl rfl rfl 66 _ _ rfl (w.heap.size + 2) #[Value.int .u8 (endOf S' p : Int), .int .i16 S'.v0, .int .i16 S'.v1, .int .i16 S'.v2, .int .i16 S'.v3] rfl rfl hS3.there Tryz.size66 (by simp [Value.oneCell']) hS4 ?_
 refine wpAnyH_done (by kernel_rfl) ?_ _
 have xr := World.rangeAt_setCells_same w3 (w.heap.size + 2) 0 #[Value.int .u8 (endOf S' p : Int), .int .i16 S'.v0, .int .i16 S'.v1, .int .i16 S'.v2, .int .i16 S'.v3].toList hS3.there
 have xb := below_setCells (w.heap.size + 2) (by omega) #[Value.int .u8 (endOf S' p : Int), .int .i16 S'.v0, .int .i16 S'.v1, .int .i16 S'.v2, .int .i16 S'.v3].toList 0 _ (HB.out.trans (hw3.mono HB.out.size))
 generalize w3.setCells (w.heap.size + 2) 0 #[Value.int .u8 (endOf S' p : Int), .int .i16 S'.v0, .int .i16 S'.v1, .int .i16 S'.v2, .int .i16 S'.v3].toList = F at *
 go_wp2
 refine bodyPost_ret (v := resV (endOf S' p) S'.v0 S'.v1 S'.v2 S'.v3) (ret_one Tryz.results32 _ F (w.heap.size + 2) _ _ rfl xr Tryz.underlying66 rfl Tryz.size66) rfl ⟨rfl, xb⟩

attribute [local go_sem ↓] Go.wp_at_zero Go.wp_at_succ exec_load_state
attribute [local go_sem] ptrB isPtr0 aggL

theorem play_any (p : List (List Pl.POp)) (lo hi b : Nat) (ms : List Int) (sa : Option Addr) (scap : Nat) (w : World) (hp : ProgIn w lo hi b p) (hs : Tiny p) (hh : hi ≤ w.heap.size) (hm : IntsIn w sa ms) (hlen : ms.length ≤ maxLen) :
  Calls Tryz.prog 14 #[.pointer (some ⟨b, 0, none⟩), .slice sa ms.length scap] w fun e w' => e = .returned (playV p ms) ∧ Below w.heap.size w w' := by
 obtain ⟨a, cap, hbh, hc, hok⟩ := hp.ok hs hh
 have HM : Hid _ := hm
 have HOK : Hid _ := hok
 have HL : Hid _ := hlen
 clear hm hok hlen hp hs
 go_enter Tryz.func14, Tryz.ntmps14
 go_upto_region 1 with fail
 have hwb : Below w.heap.size w (w.alloc (.cells #[.int .u8 0, .int .i16 0, .int .i16 0, .int .i16 0, .int .i16 0] 66)) := (Below.refl _ _).alloc (Nat.le_refl _) _
 have r0 : (w.alloc (.cells #[.int .u8 0, .int .i16 0, .int .i16 0, .int .i16 0, .int .i16 0] 66)).cell? ⟨w.heap.size, 0, none⟩ = some (.int .u8 0) := by simp
 have r1 : (w.alloc (.cells #[.int .u8 0, .int .i16 0, .int .i16 0, .int .i16 0, .int .i16 0] 66)).cell? ⟨w.heap.size, 1, none⟩ = some (.int .i16 0) := by simp
 have r2 : (w.alloc (.cells #[.int .u8 0, .int .i16 0, .int .i16 0, .int .i16 0, .int .i16 0] 66)).cell? ⟨w.heap.size, 2, none⟩ = some (.int .i16 0) := by simp
 have r3 : (w.alloc (.cells #[.int .u8 0, .int .i16 0, .int .i16 0, .int .i16 0, .int .i16 0] 66)).cell? ⟨w.heap.size, 3, none⟩ = some (.int .i16 0) := by simp
 have r4 : (w.alloc (.cells #[.int .u8 0, .int .i16 0, .int .i16 0, .int .i16 0, .int .i16 0] 66)).cell? ⟨w.heap.size, 4, none⟩ = some (.int .i16 0) := by simp
 have rf : ∀ j, (w.alloc (.cells #[.int .u8 0, .int .i16 0, .int .i16 0, .int .i16 0, .int .i16 0] 66)).frozen? ⟨w.heap.size, j, none⟩ = false := fun j => World.frozen?_alloc_at _ _ _ _ rfl
 have hwz : (w.alloc (.cells #[.int .u8 0, .int .i16 0, .int .i16 0, .int .i16 0, .int .i16 0] 66)).heap.size = w.heap.size + 1 := by simp
 generalize w.alloc (.cells #[.int .u8 0, .int .i16 0, .int .i16 0, .int .i16 0, .int .i16 0] 66) = W at *
 have hcW : W.cell? ⟨b, 0, none⟩ = some (.slice a p.length cap) := (hwb.cell (p := ⟨b, 0, none⟩) (show b < w.heap.size by omega)).trans hc
 have HWZ : Hid _ := hwz
 clear hwz hc
 go_wp2_with fail
 refine (follow_any p a cap lo hi ms sa scap _ (HOK.out.below hwb HOK.out.size) (IntsIn.below HM.out hwb) HL.out).mono ?_
 rintro e w1 hf
 obtain ⟨S', ea, n, ecap, c, rfl, hF, hT⟩ := followSays_form hf
 have hb1 := hf.1
 have HF : Hid (c = false → _) := hF
 have HT : Hid (c = true → _) := hT
 clear hF hT hf
 have HXT : Hid ((w1.alloc (.cells z24 108)).there w1.heap.size 0 (stL S').toArray.size) := new_there w1
 have HX : Hid (∀ j, ((w1.alloc (.cells z24 108)).setCells w1.heap.size 0 (stL S').toArray.toList).cell? ⟨w1.heap.size, j, none⟩ = (stL S')[j]?) := new_all w1 _
 have HXB : Hid (Below w1.heap.size w1 ((w1.alloc (.cells z24 108)).setCells w1.heap.size 0 (stL S').toArray.toList)) := new_below w1 _
 have HXZ : Hid (((w1.alloc (.cells z24 108)).setCells w1.heap.size 0 (stL S').toArray.toList).heap.size = w1.heap.size + 1) := by show _ = _; rw [size_setCells]; simp
 go_upto_region 2 with (first | (refine wpList_store_mid rfl 108 _ _ rfl w1.heap.size 0 (stL S').toArray rfl rfl (by exact HXT.out) Tryz.size108 (all_oneCell_toArray (stL_one _)) ?_; generalize ((w1.alloc (.cells z24 108)).setCells w1.heap.size 0 (stL S').toArray.toList) = X at *))
 have HWX : Hid (Below W.heap.size W X) := hb1.trans (HXB.out.mono hb1.size)
 have HBX : Hid (Below w.heap.size w X) := hwb.trans (HWX.out.mono hwb.size)
 have ltr : w.heap.size < W.heap.size := by have := HWZ.out; omega
 have x0 := (HWX.out.cell (p := ⟨w.heap.size, 0, none⟩) ltr).trans r0
 have x1 := (HWX.out.cell (p := ⟨w.heap.size, 1, none⟩) ltr).trans r1
 have x2 := (HWX.out.cell (p := ⟨w.heap.size, 2, none⟩) ltr).trans r2
 have x3 := (HWX.out.cell (p := ⟨w.heap.size, 3, none⟩) ltr).trans r3
 have x4 := (HWX.out.cell (p := ⟨w.heap.size, 4, none⟩) ltr).trans r4
 have xf := fun j => (HWX.out.frozen (p := ⟨w.heap.size, j, none⟩) ltr).trans (rf j)
 clear r0 r1 r2 r3 r4 rf
 cases c
 ·have HN : Hid (playV p ms = .tuple #[resV 0 0 0 0 0, .int .i64 4]) := by show _ = _; unfold playV; rw [HF.out rfl]
  clear HF HT hcW
  go_wp2
  rw [HN.out]
  refine bodyPost_ret (v := .tuple #[resV 0 0 0 0 0, .int .i64 4]) (ret_mid Tryz.results14 _ (put5 X w.heap.size (.int .u8 0) (.int .i16 0) (.int .i16 0) (.int .i16 0) (.int .i16 0)) w.heap.size _ _ rfl (put5_range _ _ _ _ _ x0 x1 x2 x3 x4) Tryz.underlying66 rfl Tryz.size66) rfl ⟨rfl, put5_below HBX.out (Nat.le_refl _) _ _ _ _ _⟩
 ·obtain ⟨es, hfo, rfl, -⟩ := HT.out rfl
  have HN : Hid (playV p ms = .tuple #[resV (endOf S' p) S'.v0 S'.v1 S'.v2 S'.v3, .int .i64 0]) := by show _ = _; unfold playV; rw [hfo]
  have hcX : X.cell? ⟨b, 0, none⟩ = some (.slice a p.length cap) := (HWX.out.cell (p := ⟨b, 0, none⟩) (show b < W.heap.size by omega)).trans hcW
  have HOX : Hid _ := HOK.out.below HBX.out HOK.out.size
  have HRD : Hid _ := rd_of HX.out
  have lt1 : w1.heap.size < X.heap.size := by have := HXZ.out; omega
  have ltb : b < X.heap.size := by have := HBX.out.size; omega
  have ltw : w.heap.size < X.heap.size := by have := HWX.out.size; omega
  have ne1 : w1.heap.size ≠ w.heap.size := by have := hb1.size; omega
  have neb : b ≠ w.heap.size := by omega
  have s0 : X.cell? ⟨w1.heap.size, 0, none⟩ = some (.int .i16 S'.v0) := HX.out 0
  have s1 : X.cell? ⟨w1.heap.size, 1, none⟩ = some (.int .i16 S'.v1) := HX.out 1
  have s2 : X.cell? ⟨w1.heap.size, 2, none⟩ = some (.int .i16 S'.v2) := HX.out 2
  have s3 : X.cell? ⟨w1.heap.size, 3, none⟩ = some (.int .i16 S'.v3) := HX.out 3
  clear HF HT hfo HXT HXB hb1 hcW
  go_wp2_with fail
  have hth5 : X.there w.heap.size 0 5 := fun j hj => by
   have : j = 0 ∨ j = 1 ∨ j = 2 ∨ j = 3 ∨ j = 4 := by omega
   refine ⟨?_, xf _⟩
   rcases this with rfl | rfl | rfl | rfl | rfl
   ·rw [x0]; rfl
   ·rw [x1]; rfl
   ·rw [x2]; rfl
   ·rw [x3]; rfl
   ·rw [x4]; rfl
  refine wp_region_held_drew (S := PlayT b w1.heap.size w.heap.size (.slice a p.length cap) S') (by kernel_rfl) ⟨hcX, HX.out, hth5⟩ (fun hHeld => ?_)
  clear x0 x1 x2 x3 x4 xf s0 s1 s2 s3
  refine takeAt 0 (.agg (stL S').toArray) rfl (yieldsIf_load_mid (by rfl) _ _ rfl w1.heap.size 0 rfl _ _ (fun w hw => range_of_all hw.st) Tryz.underlying108 rfl Tryz.size108) hHeld ?_
  refine takeR 1 (.pointer (some ⟨b, 0, none⟩)) rfl hHeld ?_
  refine takeR 2 (.pointer (some ⟨b, 0, none⟩)) rfl hHeld ?_
  refine takeR 3 (.pointer (some ⟨b, 0, none⟩)) rfl hHeld ?_
  refine takeAt 4 (.agg #[.slice a p.length cap]) rfl (yieldsIf_load_mid (by rfl) _ _ rfl b 0 rfl [.slice a p.length cap] _ (fun w hw => hw.range1) Tryz.underlying71 rfl Tryz.size71) hHeld ?_
  refine wpAnyH_call 5 _ (by kernel_rfl) rfl rfl 32 #[.agg (stL S').toArray, .agg #[.slice a p.length cap]] (by go_simp) _ (result_any S' p a cap lo hi _ (HOX.out.below (B := X.heap.size) (Below.refl _ _).drew HOX.out.size)) ?_
  rintro e w3 ⟨rfl, hw3'⟩
  have hw3 : Below X.heap.size X w3 := (Below.refl _ _).drew.trans (hw3'.mono (Nat.le_refl _))
  have hS3 := hHeld.below hw3' ltb lt1 ltw
  refine ⟨_, rfl, hS3, ?_⟩
  simp only [List.getElem_toArray, List.getElem_cons_zero, List.getElem_cons_succ, Act.put, List.setIfInBounds_toArray, List.set_cons_zero, List.set_cons_succ]
  have hS4 := hS3.put neb ne1 #[Value.int .u8 (endOf S' p : Int), .int .i16 S'.v0, .int .i16 S'.v1, .int .i16 S'.v2, .int .i16 S'.v3].toList
  refine wpAnyH_store 6 _ (by kernel_rfl) rfl rfl rfl 66 _ _ rfl w.heap.size #[Value.int .u8 (endOf S' p : Int), .int .i16 S'.v0, .int .i16 S'.v1, .int .i16 S'.v2, .int .i16 S'.v3] rfl rfl hS3.there Tryz.size66 (by simp [Value.oneCell']) hS4 ?_
  refine takeR 7 (.int .i64 0) rfl hS4 ?_
  refine wpAnyH_done (by kernel_rfl) ?_ _
  have xr := World.rangeAt_setCells_same w3 w.heap.size 0 #[Value.int .u8 (endOf S' p : Int), .int .i16 S'.v0, .int .i16 S'.v1, .int .i16 S'.v2, .int .i16 S'.v3].toList hS3.there
  have xb := below_setCells w.heap.size (Nat.le_refl _) #[Value.int .u8 (endOf S' p : Int), .int .i16 S'.v0, .int .i16 S'.v1, .int .i16 S'.v2, .int .i16 S'.v3].toList 0 _ (HBX.out.trans (hw3.mono HBX.out.size))
  generalize w3.setCells w.heap.size 0 #[Value.int .u8 (endOf S' p : Int), .int .i16 S'.v0, .int .i16 S'.v1, .int .i16 S'.v2, .int .i16 S'.v3].toList = F at *
  go_wp2
  rw [HN.out]
  refine bodyPost_ret (v := .tuple #[resV (endOf S' p) S'.v0 S'.v1 S'.v2 S'.v3, .int .i64 0]) (ret_mid Tryz.results14 _ F w.heap.size _ _ rfl xr Tryz.underlying66 rfl Tryz.size66) rfl ⟨rfl, xb⟩

end Go.Proofs.YtfdafcnfefbcbabGreat
