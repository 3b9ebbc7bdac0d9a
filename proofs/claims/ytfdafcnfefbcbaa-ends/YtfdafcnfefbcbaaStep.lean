/-
  The contract of Step.
-/
import Derived.Test.YtfdafcnfefbcbaaShared2
namespace Go.Proofs.Ytfdafcnfefbcbaa
open Go.RowKit
set_option linter.unusedVariables false
attribute [local go_sem ↓] Go.wp_at_zero Go.wp_at_succ

def Th.withHeld (t : Th) (l x : Nat) : Th := ⟨t.pos, t.failed, t.reg, if l = 0 then x else t.h0, if l = 0 then t.h1 else x⟩

/-- The state and the value behind a shared operation; the thread still stands at it. -/
def shared (S : St) (n : Nat) (o : Pl.POp) : St × Int :=
  if o.kind = 114 then (S.setTh n ⟨(S.th n).pos, (S.th n).failed, S.var (varOf o.name), (S.th n).h0, (S.th n).h1⟩, S.var (varOf o.name))
  else if o.kind = 119 then ((S.setVar (varOf o.name) (S.th n).reg).setTh n (S.th n), (S.th n).reg)
  else if o.kind = 108 then (S.setTh n ((S.th n).withHeld (lockOf o.name) ((S.th n).held (lockOf o.name) + 1)), (((S.th n).held (lockOf o.name) + 1 : Nat) : Int))
  else if 0 < (S.th n).held (lockOf o.name) then (S.setTh n ((S.th n).withHeld (lockOf o.name) ((S.th n).held (lockOf o.name) - 1)), (((S.th n).held (lockOf o.name) - 1 : Nat) : Int))
  else (S.setTh n ⟨(S.th n).pos, true, (S.th n).reg, (S.th n).h0, (S.th n).h1⟩, -1)

theorem behindShared_any (S : St) (n : Nat) (o : Pl.POp) (w : World) (hn : n < 4) (hk : Pl.isShared o.kind = true) (hh : (S.th n).h0 ≤ 1000 ∧ (S.th n).h1 ≤ 1000) :
    Calls Try.prog 105 #[.agg (stL S).toArray, .int .i64 (n : Int), .agg #[.int .u8 (o.kind : Int), .int .u8 (o.name : Int), .int .i64 o.block]] w
      fun e w' => e = .returned (.tuple #[.agg (stL (shared S n o).1).toArray, .int .i16 (shared S n o).2]) ∧ Below w.heap.size w w' := by
  unfold shared
  by_cases h1 : o.kind = 114
  · simp only [if_pos h1]; exact behindShared_read S n o w hn h1
  · by_cases h2 : o.kind = 119
    · simp only [if_neg h1, if_pos h2]; exact behindShared_write S n o _ w hn h2 rfl
    · by_cases h3 : o.kind = 108
      · simp only [if_neg h1, if_neg h2, if_pos h3]
        rcases lockOf_two o.name with hl | hl
        · rw [hl]
          refine (behindShared_lock0 S n o ((S.th n).withHeld 0 ((S.th n).held 0 + 1)) w hn h3 hl hh.1 rfl).mono fun e w' ⟨a, b⟩ => ⟨a, b⟩
        · rw [hl]
          refine (behindShared_lock1 S n o ((S.th n).withHeld 1 ((S.th n).held 1 + 1)) w hn h3 hl hh.2 rfl).mono fun e w' ⟨a, b⟩ => ⟨a, b⟩
      · have h4 : o.kind = 117 := by simp [Pl.isShared, h1, h2, h3] at hk; exact hk
        simp only [if_neg h1, if_neg h2, if_neg h3]
        rcases lockOf_two o.name with hl | hl
        · rw [hl]
          by_cases hp : 0 < (S.th n).held 0
          · simp only [if_pos hp]
            exact (behindShared_unlock0 S n o ((S.th n).withHeld 0 ((S.th n).held 0 - 1)) w hn h4 hl hh.1 hp rfl).mono fun e w' ⟨a, b⟩ => ⟨a, b⟩
          · simp only [if_neg hp]
            exact behindShared_fail0 S n o _ w hn h4 hl (by simpa [Th.held] using hp) rfl
        · rw [hl]
          by_cases hp : 0 < (S.th n).held 1
          · simp only [if_pos hp]
            exact (behindShared_unlock1 S n o ((S.th n).withHeld 1 ((S.th n).held 1 - 1)) w hn h4 hl hh.2 hp rfl).mono fun e w' ⟨a, b⟩ => ⟨a, b⟩
          · simp only [if_neg hp]
            exact behindShared_fail1 S n o _ w hn h4 hl (by simpa [Th.held] using hp) rfl

/-- An event's six values. -/
structure Ev where
  thread : Int
  kind : Nat
  name : Nat
  value : Int
  block : Int
  group : Int

/-- The state behind a step of thread n, which stands at o. -/
def stepSt (S : St) (p : List (List Pl.POp)) (n : Nat) (o : Pl.POp) : St :=
  (shared S n o).1.setTh n (settle (rowOf p n) ((rowOf p n).length + 1) ⟨((shared S n o).1.th n).pos + 1, ((shared S n o).1.th n).failed, ((shared S n o).1.th n).reg, ((shared S n o).1.th n).h0, ((shared S n o).1.th n).h1⟩)

def evL (t : Int) (k n : Nat) (v b g : Int) : List Value := [.int .i64 t, .int .u8 (k : Int), .int .u8 (n : Int), .int .i16 v, .int .i64 b, .int .i64 g]
def evZ : Value := .agg #[.int .i64 0, .int .u8 0, .int .u8 0, .int .i16 0, .int .i64 0, .int .i64 0]

/-- Step's own variables in memory: the state, the program, the two results. -/
structure StepAt (W : World) (b0 b1 b2 b3 : Nat) (S : St) (v : Value) : Prop where
  s : ∀ j, W.cell? ⟨b0, j, none⟩ = (stL S)[j]?
  pr : W.cell? ⟨b1, 0, none⟩ = some v
  r : ∀ j, W.cell? ⟨b2, j, none⟩ = (stL st0)[j]?
  e0 : W.cell? ⟨b3, 0, none⟩ = some (.int .i64 0)
  e1 : W.cell? ⟨b3, 1, none⟩ = some (.int .u8 0)
  e2 : W.cell? ⟨b3, 2, none⟩ = some (.int .u8 0)
  e3 : W.cell? ⟨b3, 3, none⟩ = some (.int .i16 0)
  e4 : W.cell? ⟨b3, 4, none⟩ = some (.int .i64 0)
  e5 : W.cell? ⟨b3, 5, none⟩ = some (.int .i64 0)
  f2 : ∀ j, W.frozen? ⟨b2, j, none⟩ = false
  f3 : ∀ j, W.frozen? ⟨b3, j, none⟩ = false

theorem StepAt.below {w w' : World} {b0 b1 b2 b3 : Nat} {S : St} {v : Value} {B : Nat} (h : StepAt w b0 b1 b2 b3 S v) (hb : Below B w w') (h0 : b0 < B) (h1 : b1 < B) (h2 : b2 < B) (h3 : b3 < B) : StepAt w' b0 b1 b2 b3 S v :=
  ⟨all_below h.s hb h0, (hb.cell (p := ⟨b1, 0, none⟩) h1).trans h.pr, all_below h.r hb h2, (hb.cell (p := ⟨b3, 0, none⟩) h3).trans h.e0, (hb.cell (p := ⟨b3, 1, none⟩) h3).trans h.e1, (hb.cell (p := ⟨b3, 2, none⟩) h3).trans h.e2,
   (hb.cell (p := ⟨b3, 3, none⟩) h3).trans h.e3, (hb.cell (p := ⟨b3, 4, none⟩) h3).trans h.e4, (hb.cell (p := ⟨b3, 5, none⟩) h3).trans h.e5,
   fun j => (hb.frozen (p := ⟨b2, j, none⟩) h2).trans (h.f2 j), fun j => (hb.frozen (p := ⟨b3, j, none⟩) h3).trans (h.f3 j)⟩

def stepW (w : World) (S : St) (v : Value) : World :=
  (((w.alloc (.cells (stL S).toArray 117)).alloc (.cells #[v] 101)).alloc (.cells (stL st0).toArray 117)).alloc (.cells #[.int .i64 0, .int .u8 0, .int .u8 0, .int .i16 0, .int .i64 0, .int .i64 0] 70)

theorem stepW_size (w : World) (S : St) (v : Value) : (stepW w S v).heap.size = w.heap.size + 4 := by simp [stepW]

theorem stepW_at (w : World) (S : St) (v : Value) : StepAt (stepW w S v) w.heap.size (w.heap.size + 1) (w.heap.size + 1 + 1) (w.heap.size + 1 + 1 + 1) S v := by
  unfold stepW
  refine ⟨fun j => ?_, ?_, fun j => ?_, ?_, ?_, ?_, ?_, ?_, ?_, fun j => ?_, fun j => ?_⟩
  · rw [World.cell?_alloc_past _ _ _ (by simp; omega), World.cell?_alloc_past _ _ _ (by simp; omega), World.cell?_alloc_past _ _ _ (by simp), box_cell]
  · rw [World.cell?_alloc_past _ _ _ (by simp), World.cell?_alloc_past _ _ _ (by simp)]; simp [go_sem]
  · rw [World.cell?_alloc_past _ _ _ (by simp)]
    have := box_cell ((w.alloc (.cells (stL S).toArray 117)).alloc (.cells #[v] 101)) st0 j
    simpa using this
  all_goals simp [go_sem]

theorem stepW_below (w : World) (S : St) (v : Value) : Below w.heap.size w (stepW w S v) := (three_new w _ _ _).alloc (by simp; omega) _

theorem ret_step {fn : Func} {p q u : Tmp} (h : fn.results = #[.cell p 117, .cell q 70, .tmp u]) (tmps : Array Value) (F : World) (b c : Nat) (S : St) (hp : tmps.getD p undef = .pointer (some ⟨b, 0, none⟩)) (hr : F.rangeAt b 0 (stL S))
    (hq : tmps.getD q undef = .pointer (some ⟨c, 0, none⟩)) (v0 v1 v2 v3 v4 v5 : Value) (hc : F.rangeAt c 0 [v0, v1, v2, v3, v4, v5]) :
    (results fn tmps).run Try.prog F = .ok (.tuple #[.agg (stL S).toArray, .agg #[v0, v1, v2, v3, v4, v5], tmps.getD u undef]) F := by
  have hl := run_loadVar_mid (P := Try.prog) F b 0 117 _ _ hr Try.underlying117 rfl Try.size117
  have hl2 := run_loadVar_mid (P := Try.prog) F c 0 70 _ _ hc Try.underlying70 rfl (show (Try.prog.info? 70).map (·.size) = some 6 by kernel_rfl)
  have hp' : tmps[p]?.getD undef = .pointer (some ⟨b, 0, none⟩) := by simpa using hp
  have hq' : tmps[q]?.getD undef = .pointer (some ⟨c, 0, none⟩) := by simpa using hq
  simp [results, h, hp', hq', asAddr, hl, hl2]

/-- X with six values laid into block c. -/
def put6 (X : World) (c : Nat) (v0 v1 v2 v3 v4 v5 : Value) : World := (((((X.setCell ⟨c, 0, none⟩ v0).setCell ⟨c, 1, none⟩ v1).setCell ⟨c, 2, none⟩ v2).setCell ⟨c, 3, none⟩ v3).setCell ⟨c, 4, none⟩ v4).setCell ⟨c, 5, none⟩ v5

theorem put6_range {X : World} {c : Nat} {u0 u1 u2 u3 u4 u5 : Value} (v0 v1 v2 v3 v4 v5 : Value) (h0 : X.cell? ⟨c, 0, none⟩ = some u0) (h1 : X.cell? ⟨c, 1, none⟩ = some u1) (h2 : X.cell? ⟨c, 2, none⟩ = some u2) (h3 : X.cell? ⟨c, 3, none⟩ = some u3) (h4 : X.cell? ⟨c, 4, none⟩ = some u4) (h5 : X.cell? ⟨c, 5, none⟩ = some u5) :
    (put6 X c v0 v1 v2 v3 v4 v5).rangeAt c 0 [v0, v1, v2, v3, v4, v5] := fun j v hv => by
  rw [Nat.zero_add]
  have hj : j < 6 := by simpa using (List.getElem?_eq_some_iff.1 hv).1
  have : j = 0 ∨ j = 1 ∨ j = 2 ∨ j = 3 ∨ j = 4 ∨ j = 5 := by omega
  unfold put6
  rcases this with rfl | rfl | rfl | rfl | rfl | rfl <;> (simp at hv; subst hv; simp [World.cell?_setCell_other, World.cell?_setCell_same', h0, h1, h2, h3, h4, h5])

theorem put6_other {X : World} {b c o : Nat} {cs : List Value} (h : X.rangeAt b o cs) (hne : b ≠ c) (v0 v1 v2 v3 v4 v5 : Value) : (put6 X c v0 v1 v2 v3 v4 v5).rangeAt b o cs := fun j v hv => by
  unfold put6
  simp [World.cell?_setCell_other]
  exact h j v hv

theorem put6_below {X w : World} {B c : Nat} (h : Below B w X) (hc : B ≤ c) (v0 v1 v2 v3 v4 v5 : Value) : Below B w (put6 X c v0 v1 v2 v3 v4 v5) :=
  (((((h.setCell hc _).setCell hc _).setCell hc _).setCell hc _).setCell hc _).setCell hc _

set_option maxRecDepth 100000 in
set_option maxHeartbeats 2000000 in
theorem step_no (S : St) (p : List (List Pl.POp)) (a : Option Addr) (cap lo hi : Nat) (m : Int) (w : World) (hp : ProgOk w lo hi a cap p) (hc : canStep S p m = false) :
    Calls Try.prog 85 #[.agg (stL S).toArray, .agg #[.slice a p.length cap], .int .i64 m] w
      fun e w' => e = .returned (.tuple #[.agg (stL st0).toArray, evZ, .bool false]) ∧ Below w.heap.size w w' := by
  have HP : Hid (ProgOk w lo hi a cap p) := hp
  clear hp
  go_enter Try.func85, Try.ntmps85
  go_upto_region 1 with fail
  have hst := stepW_at w S (.slice a p.length cap)
  have hbw := stepW_below w S (.slice a p.length cap)
  have hz := stepW_size w S (.slice a p.length cap)
  change Code.wp _ _ _ _ (stepW w S (.slice a p.length cap))
  generalize stepW w S (.slice a p.length cap) = W at *
  have HST : Hid _ := hst
  have HZ : Hid _ := hz
  clear hz
  have hr := range_of_all hst.s
  obtain ⟨s, pr, r, e0, e1, e2, e3, e4, e5, f2, f3⟩ := hst
  clear s r
  go_wp2_with (first | refine wpList_load_mid rfl 117 _ rfl w.heap.size 0 rfl (stL S) _ hr Try.underlying117 rfl Try.size117 ?_)
  refine (canStep_any S p a cap lo hi m _ (HP.out.below hbw HP.out.size)).mono ?_
  rintro e w1 ⟨rfl, hb1⟩
  have hs1 := HST.out.below hb1 (by have := HZ.out; omega) (by have := HZ.out; omega) (by have := HZ.out; omega) (by have := HZ.out; omega)
  have HS1 : Hid _ := hs1
  clear pr e0 e1 e2 e3 e4 e5 f2 f3 hr
  obtain ⟨s, pr, r, e0, e1, e2, e3, e4, e5, f2, f3⟩ := hs1
  have hth : w1.there (w.heap.size + 1 + 1) 0 (stL st0).toArray.size := fun j hj => by
    rw [Nat.zero_add, r j, List.getElem?_eq_getElem (by simpa using hj)]; exact ⟨rfl, f2 j⟩
  clear s r
  have hth6 : w1.there (w.heap.size + 1 + 1 + 1) 0 (evL 0 0 0 0 0 0).toArray.size := fun j hj => by
    have hj : j < 6 := hj
    have : j = 0 ∨ j = 1 ∨ j = 2 ∨ j = 3 ∨ j = 4 ∨ j = 5 := by omega
    refine ⟨?_, f3 _⟩
    rcases this with rfl | rfl | rfl | rfl | rfl | rfl
    · rw [e0]; rfl
    · rw [e1]; rfl
    · rw [e2]; rfl
    · rw [e3]; rfl
    · rw [e4]; rfl
    · rw [e5]; rfl
  have x6 := World.there_setCells hth6 (w.heap.size + 1 + 1) 0 (stL st0).toArray.toList
  have xr : (w1.setCells (w.heap.size + 1 + 1) 0 (stL st0).toArray.toList).rangeAt (w.heap.size + 1 + 1) 0 (stL st0) := World.rangeAt_setCells_same _ _ _ _ (by simpa using hth)
  have hzz := HZ.out
  have xb : Below w.heap.size w (w1.setCells (w.heap.size + 1 + 1) 0 (stL st0).toArray.toList) := below_setCells _ (by omega) _ _ _ (hbw.trans (hb1.mono hbw.size))
  have x0 : (w1.setCells (w.heap.size + 1 + 1) 0 (stL st0).toArray.toList).cell? ⟨w.heap.size + 1 + 1 + 1, 0, none⟩ = some (.int .i64 0) := (World.cell?_setCells_out _ _ _ _ _ (by simp)).trans e0
  have x1 : (w1.setCells (w.heap.size + 1 + 1) 0 (stL st0).toArray.toList).cell? ⟨w.heap.size + 1 + 1 + 1, 1, none⟩ = some (.int .u8 0) := (World.cell?_setCells_out _ _ _ _ _ (by simp)).trans e1
  have x2 : (w1.setCells (w.heap.size + 1 + 1) 0 (stL st0).toArray.toList).cell? ⟨w.heap.size + 1 + 1 + 1, 2, none⟩ = some (.int .u8 0) := (World.cell?_setCells_out _ _ _ _ _ (by simp)).trans e2
  have x3 : (w1.setCells (w.heap.size + 1 + 1) 0 (stL st0).toArray.toList).cell? ⟨w.heap.size + 1 + 1 + 1, 3, none⟩ = some (.int .i16 0) := (World.cell?_setCells_out _ _ _ _ _ (by simp)).trans e3
  have x4 : (w1.setCells (w.heap.size + 1 + 1) 0 (stL st0).toArray.toList).cell? ⟨w.heap.size + 1 + 1 + 1, 4, none⟩ = some (.int .i64 0) := (World.cell?_setCells_out _ _ _ _ _ (by simp)).trans e4
  have x5 : (w1.setCells (w.heap.size + 1 + 1) 0 (stL st0).toArray.toList).cell? ⟨w.heap.size + 1 + 1 + 1, 5, none⟩ = some (.int .i64 0) := (World.cell?_setCells_out _ _ _ _ _ (by simp)).trans e5
  have xf : ∀ j, (w1.setCells (w.heap.size + 1 + 1) 0 (stL st0).toArray.toList).frozen? ⟨w.heap.size + 1 + 1 + 1, j, none⟩ = false := fun j => (World.frozen?_setCells _ _ _ _ _).trans (f3 j)
  go_upto_region 2 with fail
  clear e0 e1 e2 e3 e4 e5 f2 f3 pr hzz x6 hth6
  go_wp2_with (first | (refine wpList_store_mid rfl 117 _ _ rfl (w.heap.size + 1 + 1) 0 (stL st0).toArray rfl rfl hth Try.size117 (all_oneCell_toArray (stL_one _)) ?_; generalize w1.setCells (w.heap.size + 1 + 1) 0 (stL st0).toArray.toList = X at *))
  refine bodyPost_ret (v := .tuple #[.agg (stL st0).toArray, evZ, .bool false]) (ret_step Try.results85 _ (put6 X (w.heap.size + 1 + 1 + 1) (.int .i64 0) (.int .u8 0) (.int .u8 0) (.int .i16 0) (.int .i64 0) (.int .i64 0)) (w.heap.size + 1 + 1) (w.heap.size + 1 + 1 + 1) _ rfl (put6_other xr (by omega) _ _ _ _ _ _) rfl _ _ _ _ _ _ (put6_range _ _ _ _ _ _ x0 x1 x2 x3 x4 x5)) rfl ⟨rfl, put6_below xb (by omega) _ _ _ _ _ _⟩

end Go.Proofs.Ytfdafcnfefbcbaa
