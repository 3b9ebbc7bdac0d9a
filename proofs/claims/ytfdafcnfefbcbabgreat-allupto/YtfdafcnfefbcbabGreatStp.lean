/-
 Several texts of ours in one: Step, Group, NewState.
-/
import Derived.Test.YtfdafcnfefbcbabGreatShared2
/-
 The contract of Step.
-/
namespace Go.Proofs.YtfdafcnfefbcbabGreat
open Go.RowKit
set_option linter.unusedVariables false
set_option maxRecDepth 100000
set_option maxHeartbeats 2000000
attribute [local go_sem ↓] Go.wp_at_zero Go.wp_at_succ

def Th.withHeld (t : Th) (l x : Nat) : Th := ⟨t.pos, t.failed, t.reg, if l = 0 then x else t.h0, if l = 0 then t.h1 else x⟩

/-- The state and the value behind a shared operation; the thread still stands at it. -/
def shared (S : St) (n : Nat) (o : Pl.POp) : St × Int :=
 if o.kind = 114 then (S.setTh n ⟨(S.th n).pos, (S.th n).failed, S.var (varOf o.name), (S.th n).h0, (S.th n).h1⟩, S.var (varOf o.name))
 else if o.kind = 119 then ((S.setVar (varOf o.name) (S.th n).reg).setTh n (S.th n), (S.th n).reg)
 else if o.kind = 108 then (S.setTh n ((S.th n).withHeld (lockOf o.name) ((S.th n).held (lockOf o.name) + 1)), (((S.th n).held (lockOf o.name) + 1 : Nat) : Int))
 else if 0 < (S.th n).held (lockOf o.name) then (S.setTh n ((S.th n).withHeld (lockOf o.name) ((S.th n).held (lockOf o.name) - 1)), (((S.th n).held (lockOf o.name) - 1 : Nat) : Int))
 else (S.setTh n ⟨(S.th n).pos, true, (S.th n).reg, (S.th n).h0, (S.th n).h1⟩, -1)

theorem behindShared_any (S : St) (n : Nat) (o : Pl.POp) (w : World) (hn : n < 4) (hk : Pl.isShared o.kind = true) (hh : (S.th n).h0 ≤ 1000 ∧ (S.th n).h1 ≤ 1000) :
  Calls Tryz.prog 80 #[.agg (stL S).toArray, .int .i64 (n : Int), .agg #[.int .u8 (o.kind : Int), .int .u8 (o.name : Int), .int .i64 o.block]] w
   fun e w' => e = .returned (.tuple #[.agg (stL (shared S n o).1).toArray, .int .i16 (shared S n o).2]) ∧ Below w.heap.size w w' := by
 unfold shared
 by_cases h1 : o.kind = 114
 ·simp only [if_pos h1]; exact behindShared_read S n o w hn h1
 ·by_cases h2 : o.kind = 119
  ·simp only [if_neg h1, if_pos h2]; exact behindShared_write S n o _ w hn h2 rfl
  ·by_cases h3 : o.kind = 108
   ·simp only [if_neg h1, if_neg h2, if_pos h3]
    rcases lockOf_two o.name with hl | hl
    ·rw [hl]
     refine (behindShared_lock0 S n o ((S.th n).withHeld 0 ((S.th n).held 0 + 1)) w hn h3 hl hh.1 rfl).mono fun e w' ⟨a, b⟩ => ⟨a, b⟩
    ·rw [hl]
     refine (behindShared_lock1 S n o ((S.th n).withHeld 1 ((S.th n).held 1 + 1)) w hn h3 hl hh.2 rfl).mono fun e w' ⟨a, b⟩ => ⟨a, b⟩
   ·have h4 : o.kind = 117 := by simp [Pl.isShared, h1, h2, h3] at hk; exact hk
    simp only [if_neg h1, if_neg h2, if_neg h3]
    rcases lockOf_two o.name with hl | hl
    ·rw [hl]
     by_cases hp : 0 < (S.th n).held 0
     ·simp only [if_pos hp]
      exact (behindShared_unlock0 S n o ((S.th n).withHeld 0 ((S.th n).held 0 - 1)) w hn h4 hl hh.1 hp rfl).mono fun e w' ⟨a, b⟩ => ⟨a, b⟩
     ·simp only [if_neg hp]
      exact behindShared_fail0 S n o _ w hn h4 hl (by simpa [Th.held] using hp) rfl
    ·rw [hl]
     by_cases hp : 0 < (S.th n).held 1
     ·simp only [if_pos hp]
      exact (behindShared_unlock1 S n o ((S.th n).withHeld 1 ((S.th n).held 1 - 1)) w hn h4 hl hh.2 hp rfl).mono fun e w' ⟨a, b⟩ => ⟨a, b⟩
     ·simp only [if_neg hp]
      exact behindShared_fail1 S n o _ w hn h4 hl (by simpa [Th.held] using hp) rfl

/-- An event's six values. -/
structure Ev where
 thread : Int
 kind : Nat
 name : Nat
 value : Int
 block : Int
 group : Int

def evL (t : Int) (k n : Nat) (v b g : Int) : List Value := [.int .i64 t, .int .u8 (k : Int), .int .u8 (n : Int), .int .i16 v, .int .i64 b, .int .i64 g]
def evZ : Value := .agg #[.int .i64 0, .int .u8 0, .int .u8 0, .int .i16 0, .int .i64 0, .int .i64 0]

/-- Step's own variables in memory: the state, the program, the two results. -/
structure StepAt (W : World) (b0 b1 b2 b3 : Nat) (S : St) (v : Value) : Prop where
 s : ∀ j, W.cell? ⟨b0, j, none⟩ = (stL S)[j]?
 pr : W.cell? ⟨b1, 0, none⟩ = some v
 r : ∀ j, W.cell? ⟨b2, j, none⟩ = (stL st0)[j]?
 e0 : W.cell? ⟨b3, 0, none⟩ = some (.int .i64 0)
 e1 : W.cell? ⟨b3, 1, none⟩ = some (.int .u8 0)
 e2 : W.cell? ⟨b3, 2, none⟩ = some (.int .u8 0)
 e3 : W.cell? ⟨b3, 3, none⟩ = some (.int .i16 0)
 e4 : W.cell? ⟨b3, 4, none⟩ = some (.int .i64 0)
 e5 : W.cell? ⟨b3, 5, none⟩ = some (.int .i64 0)
 f2 : ∀ j, W.frozen? ⟨b2, j, none⟩ = false
 f3 : ∀ j, W.frozen? ⟨b3, j, none⟩ = false

theorem StepAt.below {w w' : World} {b0 b1 b2 b3 : Nat} {S : St} {v : Value} {B : Nat} (h : StepAt w b0 b1 b2 b3 S v) (hb : Below B w w') (h0 : b0 < B) (h1 : b1 < B) (h2 : b2 < B) (h3 : b3 < B) : StepAt w' b0 b1 b2 b3 S v :=
 ⟨all_below h.s hb h0, (hb.cell (p := ⟨b1, 0, none⟩) h1).trans h.pr, all_below h.r hb h2, (hb.cell (p := ⟨b3, 0, none⟩) h3).trans h.e0, (hb.cell (p := ⟨b3, 1, none⟩) h3).trans h.e1, (hb.cell (p := ⟨b3, 2, none⟩) h3).trans h.e2,
  (hb.cell (p := ⟨b3, 3, none⟩) h3).trans h.e3, (hb.cell (p := ⟨b3, 4, none⟩) h3).trans h.e4, (hb.cell (p := ⟨b3, 5, none⟩) h3).trans h.e5,
  fun j => (hb.frozen (p := ⟨b2, j, none⟩) h2).trans (h.f2 j), fun j => (hb.frozen (p := ⟨b3, j, none⟩) h3).trans (h.f3 j)⟩

def stepW (w : World) (S : St) (v : Value) : World :=
 (((w.alloc (.cells (stL S).toArray 108)).alloc (.cells #[v] 71)).alloc (.cells (stL st0).toArray 108)).alloc (.cells #[.int .i64 0, .int .u8 0, .int .u8 0, .int .i16 0, .int .i64 0, .int .i64 0] 59)

theorem stepW_size (w : World) (S : St) (v : Value) : (stepW w S v).heap.size = w.heap.size + 4 := by simp [stepW]

theorem stepW_at (w : World) (S : St) (v : Value) : StepAt (stepW w S v) w.heap.size (w.heap.size + 1) (w.heap.size + 1 + 1) (w.heap.size + 1 + 1 + 1) S v := by
 unfold stepW
 refine ⟨fun j => ?_, ?_, fun j => ?_, ?_, ?_, ?_, ?_, ?_, ?_, fun j => ?_, fun j => ?_⟩
 ·rw [World.cell?_alloc_past _ _ _ (by simp; omega), World.cell?_alloc_past _ _ _ (by simp; omega), World.cell?_alloc_past _ _ _ (by simp), box_cell]
 ·rw [World.cell?_alloc_past _ _ _ (by simp), World.cell?_alloc_past _ _ _ (by simp)]; simp [go_sem]
 ·rw [World.cell?_alloc_past _ _ _ (by simp)]
  have := box_cell ((w.alloc (.cells (stL S).toArray 108)).alloc (.cells #[v] 71)) st0 j
  simpa using this
 all_goals simp [go_sem]

theorem stepW_below (w : World) (S : St) (v : Value) : Below w.heap.size w (stepW w S v) := (three_new w _ _ _).alloc (by simp; omega) _

theorem ret_step {fn : Func} {p q u : Tmp} (h : fn.results = #[.cell p 108, .cell q 59, .tmp u]) (tmps : Array Value) (F : World) (b c : Nat) (S : St) (hp : tmps.getD p undef = .pointer (some ⟨b, 0, none⟩)) (hr : F.rangeAt b 0 (stL S))
  (hq : tmps.getD q undef = .pointer (some ⟨c, 0, none⟩)) (v0 v1 v2 v3 v4 v5 : Value) (hc : F.rangeAt c 0 [v0, v1, v2, v3, v4, v5]) :
  (results fn tmps).run Tryz.prog F = .ok (.tuple #[.agg (stL S).toArray, .agg #[v0, v1, v2, v3, v4, v5], tmps.getD u undef]) F := by
 have hl := run_loadVar_mid (P := Tryz.prog) F b 0 108 _ _ hr Tryz.underlying108 rfl Tryz.size108
 have hl2 := run_loadVar_mid (P := Tryz.prog) F c 0 59 _ _ hc Tryz.underlying59 rfl (show (Tryz.prog.info? 59).map (·.size) = some 6 by kernel_rfl)
 have hp' : tmps[p]?.getD undef = .pointer (some ⟨b, 0, none⟩) := by simpa using hp
 have hq' : tmps[q]?.getD undef = .pointer (some ⟨c, 0, none⟩) := by simpa using hq
 simp [results, h, hp', hq', asAddr, hl, hl2]

/-- X with six values laid into block c. -/
def put6 (X : World) (c : Nat) (v0 v1 v2 v3 v4 v5 : Value) : World := (((((X.setCell ⟨c, 0, none⟩ v0).setCell ⟨c, 1, none⟩ v1).setCell ⟨c, 2, none⟩ v2).setCell ⟨c, 3, none⟩ v3).setCell ⟨c, 4, none⟩ v4).setCell ⟨c, 5, none⟩ v5

theorem put6_range {X : World} {c : Nat} {u0 u1 u2 u3 u4 u5 : Value} (v0 v1 v2 v3 v4 v5 : Value) (h0 : X.cell? ⟨c, 0, none⟩ = some u0) (h1 : X.cell? ⟨c, 1, none⟩ = some u1) (h2 : X.cell? ⟨c, 2, none⟩ = some u2) (h3 : X.cell? ⟨c, 3, none⟩ = some u3) (h4 : X.cell? ⟨c, 4, none⟩ = some u4) (h5 : X.cell? ⟨c, 5, none⟩ = some u5) :
  (put6 X c v0 v1 v2 v3 v4 v5).rangeAt c 0 [v0, v1, v2, v3, v4, v5] := fun j v hv => by
 rw [Nat.zero_add]
 have hj : j < 6 := by simpa using (List.getElem?_eq_some_iff.1 hv).1
 have : j = 0 ∨ j = 1 ∨ j = 2 ∨ j = 3 ∨ j = 4 ∨ j = 5 := by omega
 unfold put6
 rcases this with rfl | rfl | rfl | rfl | rfl | rfl <;> (simp at hv; subst hv; simp [World.cell?_setCell_other, World.cell?_setCell_same', h0, h1, h2, h3, h4, h5])

theorem put6_other {X : World} {b c o : Nat} {cs : List Value} (h : X.rangeAt b o cs) (hne : b ≠ c) (v0 v1 v2 v3 v4 v5 : Value) : (put6 X c v0 v1 v2 v3 v4 v5).rangeAt b o cs := fun j v hv => by
 unfold put6
 simp [World.cell?_setCell_other]
 exact h j v hv

theorem put6_below {X w : World} {B c : Nat} (h : Below B w X) (hc : B ≤ c) (v0 v1 v2 v3 v4 v5 : Value) : Below B w (put6 X c v0 v1 v2 v3 v4 v5) :=
 (((((h.setCell hc _).setCell hc _).setCell hc _).setCell hc _).setCell hc _).setCell hc _

theorem step_no (S : St) (p : List (List Pl.POp)) (a : Option Addr) (cap lo hi : Nat) (m : Int) (w : World) (hp : ProgOk w lo hi a cap p) (hc : canStep S p m = false) :
  Calls Tryz.prog 55 #[.agg (stL S).toArray, .agg #[.slice a p.length cap], .int .i64 m] w
   fun e w' => e = .returned (.tuple #[.agg (stL st0).toArray, evZ, .bool false]) ∧ Below w.heap.size w w' := by
 have HP : Hid (ProgOk w lo hi a cap p) := hp
 clear hp
 go_enter Tryz.func55, Tryz.ntmps55
 go_upto_region 1 with fail
 have hst := stepW_at w S (.slice a p.length cap)
 have hbw := stepW_below w S (.slice a p.length cap)
 have hz := stepW_size w S (.slice a p.length cap)
 change Code.wp _ _ _ _ (stepW w S (.slice a p.length cap))
 generalize stepW w S (.slice a p.length cap) = W at *
 have HST : Hid _ := hst
 have HZ : Hid _ := hz
 clear hz
 have hr := range_of_all hst.s
 obtain ⟨s, pr, r, e0, e1, e2, e3, e4, e5, f2, f3⟩ := hst
 clear s r
 go_wp2_with (first | refine wpList_load_mid rfl 108 _ rfl w.heap.size 0 rfl (stL S) _ hr Tryz.underlying108 rfl Tryz.size108 ?_)
 refine (canStep_any S p a cap lo hi m _ (HP.out.below hbw HP.out.size)).mono ?_
 rintro e w1 ⟨rfl, hb1⟩
 have hs1 := HST.out.below hb1 (by have := HZ.out; omega) (by have := HZ.out; omega) (by have := HZ.out; omega) (by have := HZ.out; omega)
 have HS1 : Hid _ := hs1
 clear pr e0 e1 e2 e3 e4 e5 f2 f3 hr
 obtain ⟨s, pr, r, e0, e1, e2, e3, e4, e5, f2, f3⟩ := hs1
 have hth : w1.there (w.heap.size + 1 + 1) 0 (stL st0).toArray.size := fun j hj => by
  rw [Nat.zero_add, r j, List.getElem?_eq_getElem (by simpa using hj)]; exact ⟨rfl, f2 j⟩
 clear s r
 have hth6 : w1.there (w.heap.size + 1 + 1 + 1) 0 (evL 0 0 0 0 0 0).toArray.size := fun j hj => by
  have hj : j < 6 := hj
  have : j = 0 ∨ j = 1 ∨ j = 2 ∨ j = 3 ∨ j = 4 ∨ j = 5 := by omega
  refine ⟨?_, f3 _⟩
  rcases this with rfl | rfl | rfl | rfl | rfl | rfl
  ·rw [e0]; rfl
  ·rw [e1]; rfl
  ·rw [e2]; rfl
  ·rw [e3]; rfl
  ·rw [e4]; rfl
  ·rw [e5]; rfl
 have x6 := World.there_setCells hth6 (w.heap.size + 1 + 1) 0 (stL st0).toArray.toList
 have xr : (w1.setCells (w.heap.size + 1 + 1) 0 (stL st0).toArray.toList).rangeAt (w.heap.size + 1 + 1) 0 (stL st0) := World.rangeAt_setCells_same _ _ _ _ (by simpa using hth)
 have hzz := HZ.out
 have xb : Below w.heap.size w (w1.setCells (w.heap.size + 1 + 1) 0 (stL st0).toArray.toList) := below_setCells _ (by omega) _ _ _ (hbw.trans (hb1.mono hbw.size))
 have x0 : (w1.setCells (w.heap.size + 1 + 1) 0 (stL st0).toArray.toList).cell? ⟨w.heap.size + 1 + 1 + 1, 0, none⟩ = some (.int .i64 0) := (World.cell?_setCells_out _ _ _ _ _ (by simp)).trans e0
 have x1 : (w1.setCells (w.heap.size + 1 + 1) 0 (stL st0).toArray.toList).cell? ⟨w.heap.size + 1 + 1 + 1, 1, none⟩ = some (.int .u8 0) := (World.cell?_setCells_out _ _ _ _ _ (by simp)).trans e1
 have x2 : (w1.setCells (w.heap.size + 1 + 1) 0 (stL st0).toArray.toList).cell? ⟨w.heap.size + 1 + 1 + 1, 2, none⟩ = some (.int .u8 0) := (World.cell?_setCells_out _ _ _ _ _ (by simp)).trans e2
 have x3 : (w1.setCells (w.heap.size + 1 + 1) 0 (stL st0).toArray.toList).cell? ⟨w.heap.size + 1 + 1 + 1, 3, none⟩ = some (.int .i16 0) := (World.cell?_setCells_out _ _ _ _ _ (by simp)).trans e3
 have x4 : (w1.setCells (w.heap.size + 1 + 1) 0 (stL st0).toArray.toList).cell? ⟨w.heap.size + 1 + 1 + 1, 4, none⟩ = some (.int .i64 0) := (World.cell?_setCells_out _ _ _ _ _ (by simp)).trans e4
 have x5 : (w1.setCells (w.heap.size + 1 + 1) 0 (stL st0).toArray.toList).cell? ⟨w.heap.size + 1 + 1 + 1, 5, none⟩ = some (.int .i64 0) := (World.cell?_setCells_out _ _ _ _ _ (by simp)).trans e5
 have xf : ∀ j, (w1.setCells (w.heap.size + 1 + 1) 0 (stL st0).toArray.toList).frozen? ⟨w.heap.size + 1 + 1 + 1, j, none⟩ = false := fun j => (World.frozen?_setCells _ _ _ _ _).trans (f3 j)
 go_upto_region 2 with fail
 clear e0 e1 e2 e3 e4 e5 f2 f3 pr hzz x6 hth6
 go_wp2_with (first | (refine wpList_store_mid rfl 108 _ _ rfl (w.heap.size + 1 + 1) 0 (stL st0).toArray rfl rfl hth Tryz.size108 (all_oneCell_toArray (stL_one _)) ?_; generalize w1.setCells (w.heap.size + 1 + 1) 0 (stL st0).toArray.toList = X at *))
 refine bodyPost_ret (v := .tuple #[.agg (stL st0).toArray, evZ, .bool false]) (ret_step Tryz.results55 _ (put6 X (w.heap.size + 1 + 1 + 1) (.int .i64 0) (.int .u8 0) (.int .u8 0) (.int .i16 0) (.int .i64 0) (.int .i64 0)) (w.heap.size + 1 + 1) (w.heap.size + 1 + 1 + 1) _ rfl (put6_other xr (by omega) _ _ _ _ _ _) rfl _ _ _ _ _ _ (put6_range _ _ _ _ _ _ x0 x1 x2 x3 x4 x5)) rfl ⟨rfl, put6_below xb (by omega) _ _ _ _ _ _⟩

def Ev.cells (e : Ev) : List Value := [.int .i64 e.thread, .int .u8 (e.kind : Int), .int .u8 (e.name : Int), .int .i16 e.value, .int .i64 e.block, .int .i64 e.group]
def evCells : List Ev → List Value
 | [] => []
 | e :: r => e.cells ++ evCells r

theorem evCells_append (a b : List Ev) : evCells (a ++ b) = evCells a ++ evCells b := by
 induction a with
 | nil => rfl
 | cons x xs ih => simp [evCells, ih]
theorem evCells_at : ∀ (a : List Ev) (i : Nat) (e : Ev), a[i]? = some e → (evCells a)[i * 6]? = some (.int .i64 e.thread) ∧ (evCells a)[i * 6 + 1]? = some (.int .u8 (e.kind : Int)) ∧ (evCells a)[i * 6 + 2]? = some (.int .u8 (e.name : Int)) ∧ (evCells a)[i * 6 + 3]? = some (.int .i16 e.value) ∧ (evCells a)[i * 6 + 4]? = some (.int .i64 e.block) ∧ (evCells a)[i * 6 + 5]? = some (.int .i64 e.group)
 | [], i, e, h => by simp at h
 | x :: xs, 0, e, h => by simp at h; subst h; simp [evCells, Ev.cells]
 | x :: xs, i + 1, e, h => by
  have := evCells_at xs i e (by simpa using h)
  rw [show (i + 1) * 6 = i * 6 + 6 by omega, show i * 6 + 6 + 1 = i * 6 + 1 + 6 by omega, show i * 6 + 6 + 2 = i * 6 + 2 + 6 by omega, show i * 6 + 6 + 3 = i * 6 + 3 + 6 by omega, show i * 6 + 6 + 4 = i * 6 + 4 + 6 by omega, show i * 6 + 6 + 5 = i * 6 + 5 + 6 by omega]
  simpa [evCells, Ev.cells] using this

/-- The group of a step of thread t in block b behind the events l. -/
def groupOf (l : List Ev) (t b nx : Int) : Int := if b = -1 then nx else match l with
 | [] => nx
 | e :: r => if e.thread = t ∧ e.block = b then e.group else groupOf r t b nx

theorem groupOf_nil (t b nx : Int) : groupOf [] t b nx = nx := by unfold groupOf; split <;> rfl
theorem groupOf_cons {e : Ev} {r : List Ev} {t b nx : Int} (hb : b ≠ -1) : groupOf (e :: r) t b nx = if e.thread = t ∧ e.block = b then e.group else groupOf r t b nx := by
 rw [groupOf, if_neg hb]

theorem groupOf_any (l : List Ev) (a : Option Addr) (cap lo : Nat) (t : Int) (k n : Nat) (v b g nx : Int) (w : World) (hr : w.ownsRow lo 59 6 (.slice a l.length cap) l.length (evCells l)) (hl : l.length ≤ 1000000) :
  Calls Tryz.prog 56 #[.slice a l.length cap, .agg #[.int .i64 t, .int .u8 (k : Int), .int .u8 (n : Int), .int .i16 v, .int .i64 b, .int .i64 g], .int .i64 nx] w
   fun e w' => e = .returned (.int .i64 (groupOf l t b nx)) ∧ Below w.heap.size w w' := by
 by_cases hb : b = -1
 ·have e : groupOf l t b nx = nx := by unfold groupOf; rw [if_pos hb]
  rw [e]
  have hb' : (b == -1) = true := by simpa using hb
  clear e hb
  go_enter Tryz.func56, Tryz.ntmps56
  go_wp2
  go_ret
  exact ⟨rfl, (Below.refl _ _).alloc (Nat.le_refl _) _⟩
 ·have hb' : (b == -1) = false := by simpa using hb
  have HB : Hid _ := hb
  clear hb
  go_enter Tryz.func56, Tryz.ntmps56
  go_wp2
  go_loopw [15] (fun t' wr => ∃ i : Nat, i ≤ l.length ∧ t' = .int .i64 (i : Int) ∧ Below (w.heap.size + 1) (w.alloc (.cells #[.int .i64 t, .int .u8 (k : Int), .int .u8 (n : Int), .int .i16 v, .int .i64 b, .int .i64 g] 59)) wr ∧ Hid (groupOf l t b nx = groupOf (l.drop i) t b nx)) (fun t' _ => l.length - (intOf t').toNat)
  case atStart => exact ⟨0, Nat.zero_le _, rfl, Below.refl _ _, rfl⟩
  case round =>
   obtain ⟨i, hi, rfl, hbl, HH⟩ := hrel
   have d0 := (hbl.cell (p := ⟨w.heap.size, 0, none⟩) (by simp)).trans (by simp [go_sem] : _ = some (Value.int .i64 t))
   have d4 := (hbl.cell (p := ⟨w.heap.size, 4, none⟩) (by simp)).trans (by simp [go_sem] : _ = some (Value.int .i64 b))
   have hz := hbl.size
   simp only [World.size_alloc] at hz
   have hbw : Below w.heap.size w wr := ((Below.refl _ _).alloc (Nat.le_refl _) _).trans (hbl.mono (by omega))
   by_cases hlt : i < l.length
   ·obtain ⟨gb, rfl, hg0, hg1, hnc, hcm, hcell, hfz⟩ := owns_cells hr (by omega)
    obtain ⟨x0, x1, x2, x3, x4, x5⟩ := evCells_at l i l[i] (by simp [hlt])
    have c0 := (hbw.cell (p := ⟨gb, i * 6, none⟩) hg1).trans (hcell _ _ x0)
    have c1 := (hbw.cell (p := ⟨gb, i * 6 + 1, none⟩) hg1).trans (hcell _ _ x1)
    have c2 := (hbw.cell (p := ⟨gb, i * 6 + 2, none⟩) hg1).trans (hcell _ _ x2)
    have c3 := (hbw.cell (p := ⟨gb, i * 6 + 3, none⟩) hg1).trans (hcell _ _ x3)
    have c4 := (hbw.cell (p := ⟨gb, i * 6 + 4, none⟩) hg1).trans (hcell _ _ x4)
    have c5 := (hbw.cell (p := ⟨gb, i * 6 + 5, none⟩) hg1).trans (hcell _ _ x5)
    have HS : Hid _ := (show groupOf (l.drop i) t b nx = if l[i].thread = t ∧ l[i].block = b then l[i].group else groupOf (l.drop (i + 1)) t b nx by rw [List.drop_eq_getElem_cons hlt]; exact groupOf_cons HB.out)
    clear hcell hfz x0 x1 x2 x3 x4 x5
    generalize l[i] = e at *
    have d0' := fun x => alloc_cell d0 x
    have d4' := fun x => alloc_cell d4 x
    by_cases h1 : e.thread = t
    ·by_cases h2 : e.block = b
     ·have e1 : (e.thread == t) = true := by simpa using h1
      have e2 : (e.block == b) = true := by simpa using h2
      have HV : Hid (groupOf l t b nx = e.group) := HH.out.trans (HS.out.trans (if_pos ⟨h1, h2⟩))
      clear h1 h2
      go_wp2
      go_ret
      exact ⟨ret_int HV.out.symm, hbw.alloc hbw.size _⟩
     ·have e1 : (e.thread == t) = true := by simpa using h1
      have e2 : (e.block == b) = false := by simpa using h2
      have HV : Hid (groupOf l t b nx = groupOf (l.drop (i + 1)) t b nx) := HH.out.trans (HS.out.trans (if_neg (fun h => h2 h.2)))
      clear h1 h2
      go_wp2
      go_roundw
      case rel => exact ⟨i + 1, by omega, by go_num, hbl.alloc (by omega) _, HV.out⟩
      case measure => simp [intOf]; omega
    ·have e1 : (e.thread == t) = false := by simpa using h1
     have HV : Hid (groupOf l t b nx = groupOf (l.drop (i + 1)) t b nx) := HH.out.trans (HS.out.trans (if_neg (fun h => h1 h.1)))
     clear h1
     go_wp2
     go_roundw
     case rel => exact ⟨i + 1, by omega, by go_num, hbl.alloc (by omega) _, HV.out⟩
     case measure => simp [intOf]; omega
   ·have HV : Hid (groupOf l t b nx = nx) := HH.out.trans (by rw [List.drop_eq_nil_of_le (by omega)]; exact groupOf_nil _ _ _)
    go_wp2
    go_ret
    exact ⟨ret_int HV.out.symm, hbw⟩

theorem new_there (w : World) : (w.alloc (.cells (stL st0).toArray 108)).there w.heap.size 0 24 := fun j hj => by
 rw [Nat.zero_add, box_cell, World.frozen?_alloc_at _ _ _ _ rfl, List.getElem?_eq_getElem (by rw [stL_length]; exact hj)]; exact ⟨rfl, rfl⟩

theorem settled_int (t : Th) (x : Int) (hx : x = (t.pos : Int)) (r : List Pl.POp) (a : Option Addr) (cap lo hi : Nat) (w : World) (hr : RowIn w lo hi a cap r) (hh : hi ≤ w.heap.size) (hl : r.length ≤ 1000) (hp : t.pos ≤ 1000) (hby : Bytes r) :
  Calls Tryz.prog 77 #[.agg #[.int .i64 x, .bool t.failed, .int .i16 t.reg, .int .i64 (t.h0 : Int), .int .i64 (t.h1 : Int)], .slice a r.length cap] w
   fun e w' => e = .returned (thV (settle r (r.length + 1) t)) ∧ Below w.heap.size w w' := by
 subst hx; exact settled_any t r a cap lo hi w hr hh hl hp hby

theorem new_all (w : World) (S1 : St) : ∀ j, ((w.alloc (.cells (stL st0).toArray 108)).setCells w.heap.size 0 (stL S1).toArray.toList).cell? ⟨w.heap.size, j, none⟩ = (stL S1)[j]? := fun j => by
 by_cases hj : j < 24
 ·have := World.rangeAt_setCells_same (w.alloc (.cells (stL st0).toArray 108)) w.heap.size 0 (stL S1) (by rw [stL_length]; exact new_there w) j _ (List.getElem?_eq_getElem (by rw [stL_length]; exact hj))
  rw [Nat.zero_add] at this
  rw [List.getElem?_eq_getElem (by rw [stL_length]; exact hj)]
  simpa using this
 ·rw [World.cell?_setCells_out _ _ _ _ _ (by intro _ _; right; simp [stL_length]; omega), box_cell, List.getElem?_eq_none (by rw [stL_length]; omega), List.getElem?_eq_none (by rw [stL_length]; omega)]

theorem new_frozen (w : World) (S1 : St) : ∀ j, ((w.alloc (.cells (stL st0).toArray 108)).setCells w.heap.size 0 (stL S1).toArray.toList).frozen? ⟨w.heap.size, j, none⟩ = false := fun j => by
 rw [World.frozen?_setCells, World.frozen?_alloc_at _ _ _ _ rfl]

theorem new_below (w : World) (S1 : St) : Below w.heap.size w ((w.alloc (.cells (stL st0).toArray 108)).setCells w.heap.size 0 (stL S1).toArray.toList) :=
 below_setCells _ (Nat.le_refl _) _ _ _ ((Below.refl _ _).alloc (Nat.le_refl _) _)

theorem size_setCells (b : Nat) : ∀ (vs : List Value) (o : Nat) (w : World), (w.setCells b o vs).heap.size = w.heap.size
 | [], _, _ => rfl
 | v :: vs, o, w => by show ((w.setCell ⟨b, o, none⟩ v).setCells b (o + 1) vs).heap.size = _; rw [size_setCells b vs, World.size_setCell]

theorem cell_out {w : World} {b c : Nat} (h : b ≠ c) (o j : Nat) (L : List Value) : (w.setCells b o L).cell? ⟨c, j, none⟩ = w.cell? ⟨c, j, none⟩ := World.cell?_setCells_out _ _ _ _ _ (fun e => absurd e.symm h)
end Go.Proofs.YtfdafcnfefbcbabGreat
