/-
  The contracts of a run's state: operation, heldByOther, CanStep, waits.
-/
import Derived.Test.YtfdafcnfefbcbaaSettled
import Derived.Deep.MidRow
namespace Go.Proofs.Ytfdafcnfefbcbaa
open Go.RowKit
set_option linter.unusedVariables false

/-- How a run stands. -/
structure St where
  v0 : Int
  v1 : Int
  v2 : Int
  v3 : Int
  t0 : Th
  t1 : Th
  t2 : Th
  t3 : Th

def St.th (S : St) : Nat → Th
  | 0 => S.t0
  | 1 => S.t1
  | 2 => S.t2
  | _ => S.t3

def stL (S : St) : List Value := [.int .i16 S.v0, .int .i16 S.v1, .int .i16 S.v2, .int .i16 S.v3, .int .i64 (S.t0.pos : Int), .bool S.t0.failed, .int .i16 S.t0.reg, .int .i64 (S.t0.h0 : Int), .int .i64 (S.t0.h1 : Int), .int .i64 (S.t1.pos : Int), .bool S.t1.failed, .int .i16 S.t1.reg, .int .i64 (S.t1.h0 : Int), .int .i64 (S.t1.h1 : Int), .int .i64 (S.t2.pos : Int), .bool S.t2.failed, .int .i16 S.t2.reg, .int .i64 (S.t2.h0 : Int), .int .i64 (S.t2.h1 : Int), .int .i64 (S.t3.pos : Int), .bool S.t3.failed, .int .i16 S.t3.reg, .int .i64 (S.t3.h0 : Int), .int .i64 (S.t3.h1 : Int)]
def thsL (S : St) : List Value := [.int .i64 (S.t0.pos : Int), .bool S.t0.failed, .int .i16 S.t0.reg, .int .i64 (S.t0.h0 : Int), .int .i64 (S.t0.h1 : Int), .int .i64 (S.t1.pos : Int), .bool S.t1.failed, .int .i16 S.t1.reg, .int .i64 (S.t1.h0 : Int), .int .i64 (S.t1.h1 : Int), .int .i64 (S.t2.pos : Int), .bool S.t2.failed, .int .i16 S.t2.reg, .int .i64 (S.t2.h0 : Int), .int .i64 (S.t2.h1 : Int), .int .i64 (S.t3.pos : Int), .bool S.t3.failed, .int .i16 S.t3.reg, .int .i64 (S.t3.h0 : Int), .int .i64 (S.t3.h1 : Int)]

theorem stL_length (S : St) : (stL S).length = 24 := rfl
theorem thsL_length (S : St) : (thsL S).length = 20 := rfl
theorem stL_ths (S : St) (j : Nat) : (stL S)[4 + j]? = (thsL S)[j]? := by
  rw [Nat.add_comm]; rfl

theorem stL_0 (S : St) : (stL S)[0]? = some (Value.int .i16 S.v0) := rfl
theorem stL_1 (S : St) : (stL S)[1]? = some (Value.int .i16 S.v1) := rfl
theorem stL_2 (S : St) : (stL S)[2]? = some (Value.int .i16 S.v2) := rfl
theorem stL_3 (S : St) : (stL S)[3]? = some (Value.int .i16 S.v3) := rfl
theorem stL_4 (S : St) : (stL S)[4]? = some (Value.int .i64 (S.t0.pos : Int)) := rfl
theorem stL_5 (S : St) : (stL S)[5]? = some (Value.bool S.t0.failed) := rfl
theorem stL_6 (S : St) : (stL S)[6]? = some (Value.int .i16 S.t0.reg) := rfl
theorem stL_7 (S : St) : (stL S)[7]? = some (Value.int .i64 (S.t0.h0 : Int)) := rfl
theorem stL_8 (S : St) : (stL S)[8]? = some (Value.int .i64 (S.t0.h1 : Int)) := rfl
theorem stL_9 (S : St) : (stL S)[9]? = some (Value.int .i64 (S.t1.pos : Int)) := rfl
theorem stL_10 (S : St) : (stL S)[10]? = some (Value.bool S.t1.failed) := rfl
theorem stL_11 (S : St) : (stL S)[11]? = some (Value.int .i16 S.t1.reg) := rfl
theorem stL_12 (S : St) : (stL S)[12]? = some (Value.int .i64 (S.t1.h0 : Int)) := rfl
theorem stL_13 (S : St) : (stL S)[13]? = some (Value.int .i64 (S.t1.h1 : Int)) := rfl
theorem stL_14 (S : St) : (stL S)[14]? = some (Value.int .i64 (S.t2.pos : Int)) := rfl
theorem stL_15 (S : St) : (stL S)[15]? = some (Value.bool S.t2.failed) := rfl
theorem stL_16 (S : St) : (stL S)[16]? = some (Value.int .i16 S.t2.reg) := rfl
theorem stL_17 (S : St) : (stL S)[17]? = some (Value.int .i64 (S.t2.h0 : Int)) := rfl
theorem stL_18 (S : St) : (stL S)[18]? = some (Value.int .i64 (S.t2.h1 : Int)) := rfl
theorem stL_19 (S : St) : (stL S)[19]? = some (Value.int .i64 (S.t3.pos : Int)) := rfl
theorem stL_20 (S : St) : (stL S)[20]? = some (Value.bool S.t3.failed) := rfl
theorem stL_21 (S : St) : (stL S)[21]? = some (Value.int .i16 S.t3.reg) := rfl
theorem stL_22 (S : St) : (stL S)[22]? = some (Value.int .i64 (S.t3.h0 : Int)) := rfl
theorem stL_23 (S : St) : (stL S)[23]? = some (Value.int .i64 (S.t3.h1 : Int)) := rfl

theorem box_cell (w : World) (S : St) (j : Nat) : (w.alloc (.cells (stL S).toArray 117)).cell? ⟨w.heap.size, j, none⟩ = (stL S)[j]? := by
  rw [cell_of_row _ w.heap.size j _ 117 (0, 0) (heap_alloc_new w _)]; simp

theorem box_ths (w : World) (S : St) : (w.alloc (.cells (stL S).toArray 117)).rangeAt w.heap.size 4 (thsL S) := fun j v hv => by
  rw [box_cell, stL_ths]; exact hv

theorem box_all (w : World) (S : St) : (w.alloc (.cells (stL S).toArray 117)).rangeAt w.heap.size 0 (stL S) := fun j v hv => by
  rw [Nat.zero_add, box_cell]; exact hv

theorem all_below {w w' : World} {B b : Nat} {cs : List Value} (h : ∀ j, w.cell? ⟨b, j, none⟩ = cs[j]?) (hb : Below B w w') (hB : b < B) : ∀ j, w'.cell? ⟨b, j, none⟩ = cs[j]? := fun j =>
  (hb.cell (p := ⟨b, j, none⟩) hB).trans (h j)
theorem range_of_all {w : World} {b : Nat} {cs : List Value} (h : ∀ j, w.cell? ⟨b, j, none⟩ = cs[j]?) : w.rangeAt b 0 cs := fun j v hv => by rw [Nat.zero_add, h j]; exact hv

/-- A range that was there is there still. -/
theorem range_below {w w' : World} {B b o : Nat} {cs : List Value} (h : w.rangeAt b o cs) (hb : Below B w w') (hB : b < B) : w'.rangeAt b o cs := fun j v hv =>
  (hb.cell (p := ⟨b, o + j, none⟩) hB).trans (h j v hv)
theorem there_below {w w' : World} {B b o n : Nat} (h : w.there b o n) (hb : Below B w w') (hB : b < B) : w'.there b o n := fun j hj => by
  rw [hb.cell (p := ⟨b, o + j, none⟩) hB, hb.frozen (p := ⟨b, o + j, none⟩) hB]; exact h j hj

theorem Try.size115 : (Try.prog.info? 115).map (·.size) = some 20 := by kernel_rfl
theorem Try.size117 : (Try.prog.info? 117).map (·.size) = some 24 := by kernel_rfl

/-- The program in memory, handed over by value. -/
structure ProgOk (w : World) (lo hi : Nat) (a : Option Addr) (cap : Nat) (p : List (List Pl.POp)) : Prop where
  rows : RowsIn w lo hi (.slice a p.length cap) p
  size : hi ≤ w.heap.size
  few : p.length ≤ 1000
  short : ∀ r ∈ p, r.length ≤ 1000
  bytes : ∀ r ∈ p, Bytes r

theorem ProgOk.below {w w' : World} {lo hi : Nat} {a : Option Addr} {cap : Nat} {p : List (List Pl.POp)} (h : ProgOk w lo hi a cap p) {B : Nat} (hb : Below B w w') (hB : hi ≤ B) : ProgOk w' lo hi a cap p :=
  ⟨h.rows.below (hb.mono hB), Nat.le_trans h.size hb.size, h.few, h.short, h.bytes⟩

theorem rowOf_mem (p : List (List Pl.POp)) (m : Int) : rowOf p m = [] ∨ rowOf p m ∈ p := by
  unfold rowOf
  split
  · exact Or.inl rfl
  · cases h : p[m.toNat]? with
    | none => exact Or.inl rfl
    | some r => exact Or.inr (by simpa using List.mem_of_getElem? h)

theorem ProgOk.row {w : World} {lo hi : Nat} {a : Option Addr} {cap : Nat} {p : List (List Pl.POp)} (h : ProgOk w lo hi a cap p) (m : Int) : (rowOf p m).length ≤ 1000 ∧ Bytes (rowOf p m) := by
  rcases rowOf_mem p m with e | e
  · rw [e]; exact ⟨by simp, fun o ho => by cases ho⟩
  · exact ⟨h.short _ e, h.bytes _ e⟩

/-- The operation at which a thread stands. -/
def stOp (S : St) (p : List (List Pl.POp)) (m : Int) : Option Pl.POp := if m < 0 ∨ 4 ≤ m then none else opAt (S.th m.toNat) (rowOf p m)

theorem two_new (w : World) (a b : Obj) : Below w.heap.size w ((w.alloc a).alloc b) := ((Below.refl _ _).alloc (Nat.le_refl _) _).alloc (by simp) _

set_option maxRecDepth 100000 in
set_option maxHeartbeats 1000000 in
theorem stateOp_0 (S : St) (p : List (List Pl.POp)) (a : Option Addr) (cap lo hi : Nat) (w : World) (hp : ProgOk w lo hi a cap p) :
    Calls Try.prog 104 #[.agg (stL S).toArray, .agg #[.slice a p.length cap], .int .i64 0] w
      fun e w' => (∃ (k n : Nat) (b : Int), Stood (opAt S.t0 (rowOf p 0)) k n b ∧ e = .returned (.tuple #[.agg #[.int .u8 (k : Int), .int .u8 (n : Int), .int .i64 b], .bool (opAt S.t0 (rowOf p 0)).isSome])) ∧ Below w.heap.size w w' := by
  have hrow := (hp.row 0).1
  have HP : Hid (ProgOk w lo hi a cap p) := hp
  clear hp
  have hb3 := fun (x y z : Obj) => three_new w x y z
  go_enter Try.func104, Try.ntmps104
  go_wp2_with fail
  refine (thread_any p a cap lo hi _ _ (HP.out.below (hb3 _ _ _) HP.out.size).rows (HP.out.below (hb3 _ _ _) HP.out.size).size HP.out.few).mono ?_
  rintro e w1 ⟨⟨b, c, rfl, hrw⟩, hb1⟩
  have x0 : w1.cell? ⟨w.heap.size, 5 * 0 + 4, none⟩ = some (.int .i64 (S.t0.pos : Int)) := (hb1.cell (p := ⟨w.heap.size, 5 * 0 + 4, none⟩) (by simp; omega)).trans (by rw [World.cell?_alloc_past _ _ _ (by simp; omega), World.cell?_alloc_past _ _ _ (by simp), box_cell]; rfl)
  have x1 : w1.cell? ⟨w.heap.size, 5 * 0 + 5, none⟩ = some (.bool S.t0.failed) := (hb1.cell (p := ⟨w.heap.size, 5 * 0 + 5, none⟩) (by simp; omega)).trans (by rw [World.cell?_alloc_past _ _ _ (by simp; omega), World.cell?_alloc_past _ _ _ (by simp), box_cell]; rfl)
  have x2 : w1.cell? ⟨w.heap.size, 5 * 0 + 6, none⟩ = some (.int .i16 S.t0.reg) := (hb1.cell (p := ⟨w.heap.size, 5 * 0 + 6, none⟩) (by simp; omega)).trans (by rw [World.cell?_alloc_past _ _ _ (by simp; omega), World.cell?_alloc_past _ _ _ (by simp), box_cell]; rfl)
  have x3 : w1.cell? ⟨w.heap.size, 5 * 0 + 7, none⟩ = some (.int .i64 (S.t0.h0 : Int)) := (hb1.cell (p := ⟨w.heap.size, 5 * 0 + 7, none⟩) (by simp; omega)).trans (by rw [World.cell?_alloc_past _ _ _ (by simp; omega), World.cell?_alloc_past _ _ _ (by simp), box_cell]; rfl)
  have x4 : w1.cell? ⟨w.heap.size, 5 * 0 + 8, none⟩ = some (.int .i64 (S.t0.h1 : Int)) := (hb1.cell (p := ⟨w.heap.size, 5 * 0 + 8, none⟩) (by simp; omega)).trans (by rw [World.cell?_alloc_past _ _ _ (by simp; omega), World.cell?_alloc_past _ _ _ (by simp), box_cell]; rfl)
  have y0 : w1.cell? ⟨w.heap.size + 1 + 1, 0, none⟩ = some (.int .u8 0) := (hb1.cell (p := ⟨w.heap.size + 1 + 1, 0, none⟩) (by simp)).trans (by simp [go_sem])
  have y1 : w1.cell? ⟨w.heap.size + 1 + 1, 1, none⟩ = some (.int .u8 0) := (hb1.cell (p := ⟨w.heap.size + 1 + 1, 1, none⟩) (by simp)).trans (by simp [go_sem])
  have y2 : w1.cell? ⟨w.heap.size + 1 + 1, 2, none⟩ = some (.int .i64 0) := (hb1.cell (p := ⟨w.heap.size + 1 + 1, 2, none⟩) (by simp)).trans (by simp [go_sem])
  have yf : ∀ j, w1.frozen? ⟨w.heap.size + 1 + 1, j, none⟩ = false := fun j => (hb1.frozen (p := ⟨w.heap.size + 1 + 1, j, none⟩) (by simp)).trans (by simp [go_sem])
  have hb1' := (hb3 _ _ _).trans (hb1.mono (by simp; omega))
  have hz1 := hb1.size
  simp only [World.size_alloc] at hz1
  have HRW : Hid (RowIn w1 lo hi b c (rowOf p 0)) := hrw
  clear hrw hb1
  simp only [Nat.reduceMul, Nat.reduceAdd] at x0 x1 x2 x3 x4
  go_wp2_with fail
  refine (operation_any S.t0 (rowOf p 0) b c lo hi _ HRW.out hrow).mono ?_
  rintro e w2 ⟨⟨k, n, b2, hst, rfl⟩, hb2⟩
  have z0 := (hb2.cell (p := ⟨w.heap.size + 1 + 1, 0, none⟩) (by simp; omega)).trans y0
  have z1 := (hb2.cell (p := ⟨w.heap.size + 1 + 1, 1, none⟩) (by simp; omega)).trans y1
  have z2 := (hb2.cell (p := ⟨w.heap.size + 1 + 1, 2, none⟩) (by simp; omega)).trans y2
  have zf := fun j => (hb2.frozen (p := ⟨w.heap.size + 1 + 1, j, none⟩) (by simp; omega)).trans (yf j)
  have HST : Hid _ := hst
  clear hst
  go_wp2
  refine bodyPost_ret (v := .tuple #[.agg #[.int .u8 (k : Int), .int .u8 (n : Int), .int .i64 b2], .bool (opAt S.t0 (rowOf p 0)).isSome]) (by simp [results, Try.results104, go_sem, z0, z1, z2]) rfl ⟨⟨k, n, b2, HST.out, rfl⟩, ?_⟩
  exact (((hb1'.trans (hb2.mono hb1'.size)).setCell (by simp; omega) _).setCell (by simp; omega) _).setCell (by simp; omega) _

set_option maxRecDepth 100000 in
set_option maxHeartbeats 1000000 in
theorem stateOp_1 (S : St) (p : List (List Pl.POp)) (a : Option Addr) (cap lo hi : Nat) (w : World) (hp : ProgOk w lo hi a cap p) :
    Calls Try.prog 104 #[.agg (stL S).toArray, .agg #[.slice a p.length cap], .int .i64 1] w
      fun e w' => (∃ (k n : Nat) (b : Int), Stood (opAt S.t1 (rowOf p 1)) k n b ∧ e = .returned (.tuple #[.agg #[.int .u8 (k : Int), .int .u8 (n : Int), .int .i64 b], .bool (opAt S.t1 (rowOf p 1)).isSome])) ∧ Below w.heap.size w w' := by
  have hrow := (hp.row 1).1
  have HP : Hid (ProgOk w lo hi a cap p) := hp
  clear hp
  have hb3 := fun (x y z : Obj) => three_new w x y z
  go_enter Try.func104, Try.ntmps104
  go_wp2_with fail
  refine (thread_any p a cap lo hi _ _ (HP.out.below (hb3 _ _ _) HP.out.size).rows (HP.out.below (hb3 _ _ _) HP.out.size).size HP.out.few).mono ?_
  rintro e w1 ⟨⟨b, c, rfl, hrw⟩, hb1⟩
  have x0 : w1.cell? ⟨w.heap.size, 5 * 1 + 4, none⟩ = some (.int .i64 (S.t1.pos : Int)) := (hb1.cell (p := ⟨w.heap.size, 5 * 1 + 4, none⟩) (by simp; omega)).trans (by rw [World.cell?_alloc_past _ _ _ (by simp; omega), World.cell?_alloc_past _ _ _ (by simp), box_cell]; rfl)
  have x1 : w1.cell? ⟨w.heap.size, 5 * 1 + 5, none⟩ = some (.bool S.t1.failed) := (hb1.cell (p := ⟨w.heap.size, 5 * 1 + 5, none⟩) (by simp; omega)).trans (by rw [World.cell?_alloc_past _ _ _ (by simp; omega), World.cell?_alloc_past _ _ _ (by simp), box_cell]; rfl)
  have x2 : w1.cell? ⟨w.heap.size, 5 * 1 + 6, none⟩ = some (.int .i16 S.t1.reg) := (hb1.cell (p := ⟨w.heap.size, 5 * 1 + 6, none⟩) (by simp; omega)).trans (by rw [World.cell?_alloc_past _ _ _ (by simp; omega), World.cell?_alloc_past _ _ _ (by simp), box_cell]; rfl)
  have x3 : w1.cell? ⟨w.heap.size, 5 * 1 + 7, none⟩ = some (.int .i64 (S.t1.h0 : Int)) := (hb1.cell (p := ⟨w.heap.size, 5 * 1 + 7, none⟩) (by simp; omega)).trans (by rw [World.cell?_alloc_past _ _ _ (by simp; omega), World.cell?_alloc_past _ _ _ (by simp), box_cell]; rfl)
  have x4 : w1.cell? ⟨w.heap.size, 5 * 1 + 8, none⟩ = some (.int .i64 (S.t1.h1 : Int)) := (hb1.cell (p := ⟨w.heap.size, 5 * 1 + 8, none⟩) (by simp; omega)).trans (by rw [World.cell?_alloc_past _ _ _ (by simp; omega), World.cell?_alloc_past _ _ _ (by simp), box_cell]; rfl)
  have y0 : w1.cell? ⟨w.heap.size + 1 + 1, 0, none⟩ = some (.int .u8 0) := (hb1.cell (p := ⟨w.heap.size + 1 + 1, 0, none⟩) (by simp)).trans (by simp [go_sem])
  have y1 : w1.cell? ⟨w.heap.size + 1 + 1, 1, none⟩ = some (.int .u8 0) := (hb1.cell (p := ⟨w.heap.size + 1 + 1, 1, none⟩) (by simp)).trans (by simp [go_sem])
  have y2 : w1.cell? ⟨w.heap.size + 1 + 1, 2, none⟩ = some (.int .i64 0) := (hb1.cell (p := ⟨w.heap.size + 1 + 1, 2, none⟩) (by simp)).trans (by simp [go_sem])
  have yf : ∀ j, w1.frozen? ⟨w.heap.size + 1 + 1, j, none⟩ = false := fun j => (hb1.frozen (p := ⟨w.heap.size + 1 + 1, j, none⟩) (by simp)).trans (by simp [go_sem])
  have hb1' := (hb3 _ _ _).trans (hb1.mono (by simp; omega))
  have hz1 := hb1.size
  simp only [World.size_alloc] at hz1
  have HRW : Hid (RowIn w1 lo hi b c (rowOf p 1)) := hrw
  clear hrw hb1
  simp only [Nat.reduceMul, Nat.reduceAdd] at x0 x1 x2 x3 x4
  go_wp2_with fail
  refine (operation_any S.t1 (rowOf p 1) b c lo hi _ HRW.out hrow).mono ?_
  rintro e w2 ⟨⟨k, n, b2, hst, rfl⟩, hb2⟩
  have z0 := (hb2.cell (p := ⟨w.heap.size + 1 + 1, 0, none⟩) (by simp; omega)).trans y0
  have z1 := (hb2.cell (p := ⟨w.heap.size + 1 + 1, 1, none⟩) (by simp; omega)).trans y1
  have z2 := (hb2.cell (p := ⟨w.heap.size + 1 + 1, 2, none⟩) (by simp; omega)).trans y2
  have zf := fun j => (hb2.frozen (p := ⟨w.heap.size + 1 + 1, j, none⟩) (by simp; omega)).trans (yf j)
  have HST : Hid _ := hst
  clear hst
  go_wp2
  refine bodyPost_ret (v := .tuple #[.agg #[.int .u8 (k : Int), .int .u8 (n : Int), .int .i64 b2], .bool (opAt S.t1 (rowOf p 1)).isSome]) (by simp [results, Try.results104, go_sem, z0, z1, z2]) rfl ⟨⟨k, n, b2, HST.out, rfl⟩, ?_⟩
  exact (((hb1'.trans (hb2.mono hb1'.size)).setCell (by simp; omega) _).setCell (by simp; omega) _).setCell (by simp; omega) _

set_option maxRecDepth 100000 in
set_option maxHeartbeats 1000000 in
theorem stateOp_2 (S : St) (p : List (List Pl.POp)) (a : Option Addr) (cap lo hi : Nat) (w : World) (hp : ProgOk w lo hi a cap p) :
    Calls Try.prog 104 #[.agg (stL S).toArray, .agg #[.slice a p.length cap], .int .i64 2] w
      fun e w' => (∃ (k n : Nat) (b : Int), Stood (opAt S.t2 (rowOf p 2)) k n b ∧ e = .returned (.tuple #[.agg #[.int .u8 (k : Int), .int .u8 (n : Int), .int .i64 b], .bool (opAt S.t2 (rowOf p 2)).isSome])) ∧ Below w.heap.size w w' := by
  have hrow := (hp.row 2).1
  have HP : Hid (ProgOk w lo hi a cap p) := hp
  clear hp
  have hb3 := fun (x y z : Obj) => three_new w x y z
  go_enter Try.func104, Try.ntmps104
  go_wp2_with fail
  refine (thread_any p a cap lo hi _ _ (HP.out.below (hb3 _ _ _) HP.out.size).rows (HP.out.below (hb3 _ _ _) HP.out.size).size HP.out.few).mono ?_
  rintro e w1 ⟨⟨b, c, rfl, hrw⟩, hb1⟩
  have x0 : w1.cell? ⟨w.heap.size, 5 * 2 + 4, none⟩ = some (.int .i64 (S.t2.pos : Int)) := (hb1.cell (p := ⟨w.heap.size, 5 * 2 + 4, none⟩) (by simp; omega)).trans (by rw [World.cell?_alloc_past _ _ _ (by simp; omega), World.cell?_alloc_past _ _ _ (by simp), box_cell]; rfl)
  have x1 : w1.cell? ⟨w.heap.size, 5 * 2 + 5, none⟩ = some (.bool S.t2.failed) := (hb1.cell (p := ⟨w.heap.size, 5 * 2 + 5, none⟩) (by simp; omega)).trans (by rw [World.cell?_alloc_past _ _ _ (by simp; omega), World.cell?_alloc_past _ _ _ (by simp), box_cell]; rfl)
  have x2 : w1.cell? ⟨w.heap.size, 5 * 2 + 6, none⟩ = some (.int .i16 S.t2.reg) := (hb1.cell (p := ⟨w.heap.size, 5 * 2 + 6, none⟩) (by simp; omega)).trans (by rw [World.cell?_alloc_past _ _ _ (by simp; omega), World.cell?_alloc_past _ _ _ (by simp), box_cell]; rfl)
  have x3 : w1.cell? ⟨w.heap.size, 5 * 2 + 7, none⟩ = some (.int .i64 (S.t2.h0 : Int)) := (hb1.cell (p := ⟨w.heap.size, 5 * 2 + 7, none⟩) (by simp; omega)).trans (by rw [World.cell?_alloc_past _ _ _ (by simp; omega), World.cell?_alloc_past _ _ _ (by simp), box_cell]; rfl)
  have x4 : w1.cell? ⟨w.heap.size, 5 * 2 + 8, none⟩ = some (.int .i64 (S.t2.h1 : Int)) := (hb1.cell (p := ⟨w.heap.size, 5 * 2 + 8, none⟩) (by simp; omega)).trans (by rw [World.cell?_alloc_past _ _ _ (by simp; omega), World.cell?_alloc_past _ _ _ (by simp), box_cell]; rfl)
  have y0 : w1.cell? ⟨w.heap.size + 1 + 1, 0, none⟩ = some (.int .u8 0) := (hb1.cell (p := ⟨w.heap.size + 1 + 1, 0, none⟩) (by simp)).trans (by simp [go_sem])
  have y1 : w1.cell? ⟨w.heap.size + 1 + 1, 1, none⟩ = some (.int .u8 0) := (hb1.cell (p := ⟨w.heap.size + 1 + 1, 1, none⟩) (by simp)).trans (by simp [go_sem])
  have y2 : w1.cell? ⟨w.heap.size + 1 + 1, 2, none⟩ = some (.int .i64 0) := (hb1.cell (p := ⟨w.heap.size + 1 + 1, 2, none⟩) (by simp)).trans (by simp [go_sem])
  have yf : ∀ j, w1.frozen? ⟨w.heap.size + 1 + 1, j, none⟩ = false := fun j => (hb1.frozen (p := ⟨w.heap.size + 1 + 1, j, none⟩) (by simp)).trans (by simp [go_sem])
  have hb1' := (hb3 _ _ _).trans (hb1.mono (by simp; omega))
  have hz1 := hb1.size
  simp only [World.size_alloc] at hz1
  have HRW : Hid (RowIn w1 lo hi b c (rowOf p 2)) := hrw
  clear hrw hb1
  simp only [Nat.reduceMul, Nat.reduceAdd] at x0 x1 x2 x3 x4
  go_wp2_with fail
  refine (operation_any S.t2 (rowOf p 2) b c lo hi _ HRW.out hrow).mono ?_
  rintro e w2 ⟨⟨k, n, b2, hst, rfl⟩, hb2⟩
  have z0 := (hb2.cell (p := ⟨w.heap.size + 1 + 1, 0, none⟩) (by simp; omega)).trans y0
  have z1 := (hb2.cell (p := ⟨w.heap.size + 1 + 1, 1, none⟩) (by simp; omega)).trans y1
  have z2 := (hb2.cell (p := ⟨w.heap.size + 1 + 1, 2, none⟩) (by simp; omega)).trans y2
  have zf := fun j => (hb2.frozen (p := ⟨w.heap.size + 1 + 1, j, none⟩) (by simp; omega)).trans (yf j)
  have HST : Hid _ := hst
  clear hst
  go_wp2
  refine bodyPost_ret (v := .tuple #[.agg #[.int .u8 (k : Int), .int .u8 (n : Int), .int .i64 b2], .bool (opAt S.t2 (rowOf p 2)).isSome]) (by simp [results, Try.results104, go_sem, z0, z1, z2]) rfl ⟨⟨k, n, b2, HST.out, rfl⟩, ?_⟩
  exact (((hb1'.trans (hb2.mono hb1'.size)).setCell (by simp; omega) _).setCell (by simp; omega) _).setCell (by simp; omega) _

set_option maxRecDepth 100000 in
set_option maxHeartbeats 1000000 in
theorem stateOp_3 (S : St) (p : List (List Pl.POp)) (a : Option Addr) (cap lo hi : Nat) (w : World) (hp : ProgOk w lo hi a cap p) :
    Calls Try.prog 104 #[.agg (stL S).toArray, .agg #[.slice a p.length cap], .int .i64 3] w
      fun e w' => (∃ (k n : Nat) (b : Int), Stood (opAt S.t3 (rowOf p 3)) k n b ∧ e = .returned (.tuple #[.agg #[.int .u8 (k : Int), .int .u8 (n : Int), .int .i64 b], .bool (opAt S.t3 (rowOf p 3)).isSome])) ∧ Below w.heap.size w w' := by
  have hrow := (hp.row 3).1
  have HP : Hid (ProgOk w lo hi a cap p) := hp
  clear hp
  have hb3 := fun (x y z : Obj) => three_new w x y z
  go_enter Try.func104, Try.ntmps104
  go_wp2_with fail
  refine (thread_any p a cap lo hi _ _ (HP.out.below (hb3 _ _ _) HP.out.size).rows (HP.out.below (hb3 _ _ _) HP.out.size).size HP.out.few).mono ?_
  rintro e w1 ⟨⟨b, c, rfl, hrw⟩, hb1⟩
  have x0 : w1.cell? ⟨w.heap.size, 5 * 3 + 4, none⟩ = some (.int .i64 (S.t3.pos : Int)) := (hb1.cell (p := ⟨w.heap.size, 5 * 3 + 4, none⟩) (by simp; omega)).trans (by rw [World.cell?_alloc_past _ _ _ (by simp; omega), World.cell?_alloc_past _ _ _ (by simp), box_cell]; rfl)
  have x1 : w1.cell? ⟨w.heap.size, 5 * 3 + 5, none⟩ = some (.bool S.t3.failed) := (hb1.cell (p := ⟨w.heap.size, 5 * 3 + 5, none⟩) (by simp; omega)).trans (by rw [World.cell?_alloc_past _ _ _ (by simp; omega), World.cell?_alloc_past _ _ _ (by simp), box_cell]; rfl)
  have x2 : w1.cell? ⟨w.heap.size, 5 * 3 + 6, none⟩ = some (.int .i16 S.t3.reg) := (hb1.cell (p := ⟨w.heap.size, 5 * 3 + 6, none⟩) (by simp; omega)).trans (by rw [World.cell?_alloc_past _ _ _ (by simp; omega), World.cell?_alloc_past _ _ _ (by simp), box_cell]; rfl)
  have x3 : w1.cell? ⟨w.heap.size, 5 * 3 + 7, none⟩ = some (.int .i64 (S.t3.h0 : Int)) := (hb1.cell (p := ⟨w.heap.size, 5 * 3 + 7, none⟩) (by simp; omega)).trans (by rw [World.cell?_alloc_past _ _ _ (by simp; omega), World.cell?_alloc_past _ _ _ (by simp), box_cell]; rfl)
  have x4 : w1.cell? ⟨w.heap.size, 5 * 3 + 8, none⟩ = some (.int .i64 (S.t3.h1 : Int)) := (hb1.cell (p := ⟨w.heap.size, 5 * 3 + 8, none⟩) (by simp; omega)).trans (by rw [World.cell?_alloc_past _ _ _ (by simp; omega), World.cell?_alloc_past _ _ _ (by simp), box_cell]; rfl)
  have y0 : w1.cell? ⟨w.heap.size + 1 + 1, 0, none⟩ = some (.int .u8 0) := (hb1.cell (p := ⟨w.heap.size + 1 + 1, 0, none⟩) (by simp)).trans (by simp [go_sem])
  have y1 : w1.cell? ⟨w.heap.size + 1 + 1, 1, none⟩ = some (.int .u8 0) := (hb1.cell (p := ⟨w.heap.size + 1 + 1, 1, none⟩) (by simp)).trans (by simp [go_sem])
  have y2 : w1.cell? ⟨w.heap.size + 1 + 1, 2, none⟩ = some (.int .i64 0) := (hb1.cell (p := ⟨w.heap.size + 1 + 1, 2, none⟩) (by simp)).trans (by simp [go_sem])
  have yf : ∀ j, w1.frozen? ⟨w.heap.size + 1 + 1, j, none⟩ = false := fun j => (hb1.frozen (p := ⟨w.heap.size + 1 + 1, j, none⟩) (by simp)).trans (by simp [go_sem])
  have hb1' := (hb3 _ _ _).trans (hb1.mono (by simp; omega))
  have hz1 := hb1.size
  simp only [World.size_alloc] at hz1
  have HRW : Hid (RowIn w1 lo hi b c (rowOf p 3)) := hrw
  clear hrw hb1
  simp only [Nat.reduceMul, Nat.reduceAdd] at x0 x1 x2 x3 x4
  go_wp2_with fail
  refine (operation_any S.t3 (rowOf p 3) b c lo hi _ HRW.out hrow).mono ?_
  rintro e w2 ⟨⟨k, n, b2, hst, rfl⟩, hb2⟩
  have z0 := (hb2.cell (p := ⟨w.heap.size + 1 + 1, 0, none⟩) (by simp; omega)).trans y0
  have z1 := (hb2.cell (p := ⟨w.heap.size + 1 + 1, 1, none⟩) (by simp; omega)).trans y1
  have z2 := (hb2.cell (p := ⟨w.heap.size + 1 + 1, 2, none⟩) (by simp; omega)).trans y2
  have zf := fun j => (hb2.frozen (p := ⟨w.heap.size + 1 + 1, j, none⟩) (by simp; omega)).trans (yf j)
  have HST : Hid _ := hst
  clear hst
  go_wp2
  refine bodyPost_ret (v := .tuple #[.agg #[.int .u8 (k : Int), .int .u8 (n : Int), .int .i64 b2], .bool (opAt S.t3 (rowOf p 3)).isSome]) (by simp [results, Try.results104, go_sem, z0, z1, z2]) rfl ⟨⟨k, n, b2, HST.out, rfl⟩, ?_⟩
  exact (((hb1'.trans (hb2.mono hb1'.size)).setCell (by simp; omega) _).setCell (by simp; omega) _).setCell (by simp; omega) _


set_option maxRecDepth 100000 in
theorem stateOp_out (S : St) (p : List (List Pl.POp)) (a : Option Addr) (cap : Nat) (m : Int) (w : World) (hm : m < 0 ∨ 4 ≤ m) :
    Calls Try.prog 104 #[.agg (stL S).toArray, .agg #[.slice a p.length cap], .int .i64 m] w
      fun e w' => e = .returned (.tuple #[.agg #[.int .u8 0, .int .u8 0, .int .i64 0], .bool false]) ∧ Below w.heap.size w w' := by
  rcases hm with hm | hm
  · go_enter Try.func104, Try.ntmps104
    go_wp2
    exact bodyPost_ret (v := .tuple #[.agg #[.int .u8 0, .int .u8 0, .int .i64 0], .bool false]) (by simp [results, Try.results104, go_sem]) rfl ⟨rfl, three_new _ _ _ _⟩
  · have h0 : ¬ m < 0 := by omega
    go_enter Try.func104, Try.ntmps104
    go_wp2
    exact bodyPost_ret (v := .tuple #[.agg #[.int .u8 0, .int .u8 0, .int .i64 0], .bool false]) (by simp [results, Try.results104, go_sem]) rfl ⟨rfl, three_new _ _ _ _⟩

theorem stateOp_any (S : St) (p : List (List Pl.POp)) (a : Option Addr) (cap lo hi : Nat) (m : Int) (w : World) (hp : ProgOk w lo hi a cap p) :
    Calls Try.prog 104 #[.agg (stL S).toArray, .agg #[.slice a p.length cap], .int .i64 m] w
      fun e w' => (∃ (k n : Nat) (b : Int), Stood (stOp S p m) k n b ∧ e = .returned (.tuple #[.agg #[.int .u8 (k : Int), .int .u8 (n : Int), .int .i64 b], .bool (stOp S p m).isSome])) ∧ Below w.heap.size w w' := by
  by_cases hm : m < 0 ∨ 4 ≤ m
  · have e : stOp S p m = none := by unfold stOp; rw [if_pos hm]
    rw [e]
    exact (stateOp_out S p a cap m w hm).mono fun e w' ⟨h1, h2⟩ => ⟨⟨0, 0, 0, trivial, h1⟩, h2⟩
  · have e : stOp S p m = opAt (S.th m.toNat) (rowOf p m) := by unfold stOp; rw [if_neg hm]
    rw [e]
    have : m = 0 ∨ m = 1 ∨ m = 2 ∨ m = 3 := by omega
    rcases this with rfl | rfl | rfl | rfl
    · exact stateOp_0 S p a cap lo hi w hp
    · exact stateOp_1 S p a cap lo hi w hp
    · exact stateOp_2 S p a cap lo hi w hp
    · exact stateOp_3 S p a cap lo hi w hp

/-- How often a thread holds a lock. -/
def Th.held (t : Th) (l : Nat) : Nat := if l = 0 then t.h0 else t.h1

/-- Does another thread than m hold the lock? -/
def heldTo (S : St) (l : Nat) (m : Int) : Nat → Bool
  | 0 => false
  | k + 1 => heldTo S l m k || (decide ((k : Int) ≠ m) && decide (0 < (S.th k).held l))

end Go.Proofs.Ytfdafcnfefbcbaa
