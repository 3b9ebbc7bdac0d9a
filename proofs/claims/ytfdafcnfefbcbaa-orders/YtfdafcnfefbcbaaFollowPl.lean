/-
  Follow in plain terms, and how its variables lie in memory.
-/
import Derived.Test.YtfdafcnfefbcbaaInv
namespace Go.Proofs.Ytfdafcnfefbcbaa
open Go.RowKit
set_option linter.unusedVariables false

/-- The run behind a schedule: the state, the events so far, the number of groups so far. -/
def follow (p : List (List Pl.POp)) : St → List Ev → Nat → List Int → Option (St × List Ev)
  | S, es, _, [] => some (S, es)
  | S, es, g, m :: ms => match step S p m with
    | none => none
    | some (S', e) => follow p S' (es ++ [⟨e.thread, e.kind, e.name, e.value, e.block, groupOf es e.thread e.block g⟩]) (if groupOf es e.thread e.block g = (g : Int) then g + 1 else g) ms

def posSum (S : St) : Nat := (S.th 0).pos + (S.th 1).pos + (S.th 2).pos + (S.th 3).pos

theorem settle_pos (r : List Pl.POp) : ∀ (k : Nat) (t : Th), t.pos ≤ (settle r k t).pos
  | 0, t => Nat.le_refl _
  | k + 1, t => by
    cases h : opAt t r with
    | none => rw [settle_none h]; exact Nat.le_refl _
    | some o =>
      cases hs : Pl.isShared o.kind with
      | true => rw [settle_shared h hs]; exact Nat.le_refl _
      | false =>
        rw [settle_own h hs]
        have := settle_pos r k (ownStep t r o)
        have := ownStep_pos (o := o) (opAt_lt h).1
        omega

theorem step_pos {S S' : St} {p : List (List Pl.POp)} {m : Int} {e : Ev} (h : step S p m = some (S', e)) : posSum S + 1 ≤ posSum S' := by
  unfold step at h
  split at h
  · cases h
  · rename_i o ho
    split at h
    · obtain ⟨n, rfl, hn, hop⟩ := stOp_some ho
      simp only [Option.some.injEq, Prod.mk.injEq, Int.toNat_natCast] at h
      obtain ⟨rfl, -⟩ := h
      obtain ⟨h1, -, h3⟩ := shared_th S n o hn
      have hp := settle_pos (rowOf p n) ((rowOf p n).length + 1) ⟨((shared S n o).1.th n).pos + 1, ((shared S n o).1.th n).failed, ((shared S n o).1.th n).reg, ((shared S n o).1.th n).h0, ((shared S n o).1.th n).h1⟩
      simp only [h1] at hp
      unfold goneTo posSum
      rw [th_setTh _ _ _ hn 0 (by omega), th_setTh _ _ _ hn 1 (by omega), th_setTh _ _ _ hn 2 (by omega), th_setTh _ _ _ hn 3 (by omega)]
      have hh : n = 0 ∨ n = 1 ∨ n = 2 ∨ n = 3 := by omega
      rcases hh with rfl | rfl | rfl | rfl
      · simp only [h3 1 (by omega) (by omega), h3 2 (by omega) (by omega), h3 3 (by omega) (by omega)] at hp ⊢
        simp [h1] at hp ⊢
        omega
      · simp only [h3 0 (by omega) (by omega), h3 2 (by omega) (by omega), h3 3 (by omega) (by omega)] at hp ⊢
        simp [h1] at hp ⊢
        omega
      · simp only [h3 0 (by omega) (by omega), h3 1 (by omega) (by omega), h3 3 (by omega) (by omega)] at hp ⊢
        simp [h1] at hp ⊢
        omega
      · simp only [h3 0 (by omega) (by omega), h3 1 (by omega) (by omega), h3 2 (by omega) (by omega)] at hp ⊢
        simp [h1] at hp ⊢
        omega
    · cases h

theorem posSum_le {w : World} {lo hi : Nat} {a : Option Addr} {cap : Nat} {p : List (List Pl.POp)} {S : St} (hp : ProgOk w lo hi a cap p) (hS : StOk S p) : posSum S ≤ 4000 := by
  have h0 := (hS 0 (by omega)).pos
  have h1 := (hS 1 (by omega)).pos
  have h2 := (hS 2 (by omega)).pos
  have h3 := (hS 3 (by omega)).pos
  have g0 := (hp.row ((0 : Nat) : Int)).1
  have g1 := (hp.row ((1 : Nat) : Int)).1
  have g2 := (hp.row ((2 : Nat) : Int)).1
  have g3 := (hp.row ((3 : Nat) : Int)).1
  unfold posSum
  omega

/-- A list of ints behind a slice. -/
def IntsIn (w : World) (a : Option Addr) (ms : List Int) : Prop :=
  0 < ms.length → ∃ g, a = some ⟨g, 0, none⟩ ∧ g < w.heap.size ∧ ∀ i m, ms[i]? = some m → w.cell? ⟨g, i, none⟩ = some (.int .i64 m)

theorem IntsIn.below {w w' : World} {a : Option Addr} {ms : List Int} (h : IntsIn w a ms) (hb : Below w.heap.size w w') : IntsIn w' a ms := fun h0 => by
  obtain ⟨g, e, hg, hc⟩ := h h0
  exact ⟨g, e, Nat.lt_of_lt_of_le hg hb.size, fun i m hm => (hb.cell (p := ⟨g, i, none⟩) hg).trans (hc i m hm)⟩

def intCells (l : List Int) : List Value := l.map fun m => .int .i64 m

theorem ints_of_owns {w : World} {lo : Nat} {a : Option Addr} {cap : Nat} {ms : List Int} (h : w.ownsRow lo 3 1 (.slice a ms.length cap) ms.length (intCells ms)) : IntsIn w a ms := fun h0 => by
  obtain ⟨g, rfl, -, hg, -, -, hc, -⟩ := owns_cells h h0
  exact ⟨g, rfl, hg, fun i m hm => hc i _ (by simp [intCells, hm])⟩

/-- How Follow's variables lie: the program, the result, the state; nothing before turned. -/
structure FolAt (w wr : World) (b : Nat) (S : St) (v : Value) : Prop where
  pr : wr.cell? ⟨w.heap.size, 0, none⟩ = some v
  r : ∀ j, wr.cell? ⟨w.heap.size + 1, j, none⟩ = (stL st0)[j]?
  rf : ∀ j, wr.frozen? ⟨w.heap.size + 1, j, none⟩ = false
  s : ∀ j, wr.cell? ⟨b, j, none⟩ = (stL S)[j]?
  sf : ∀ j, wr.frozen? ⟨b, j, none⟩ = false
  bl : Below w.heap.size w wr
  b0 : w.heap.size + 1 < b
  b1 : b < wr.heap.size

theorem FolAt.below {w wr wr' : World} {b : Nat} {S : St} {v : Value} {B : Nat} (h : FolAt w wr b S v) (hb : Below B wr wr') (hB : b < B) : FolAt w wr' b S v := by
  have hs := hb.size
  have h0 := h.b0
  exact ⟨(hb.cell (p := ⟨w.heap.size, 0, none⟩) (by show w.heap.size < B; omega)).trans h.pr, fun j => (hb.cell (p := ⟨w.heap.size + 1, j, none⟩) (by show w.heap.size + 1 < B; omega)).trans (h.r j),
    fun j => (hb.frozen (p := ⟨w.heap.size + 1, j, none⟩) (by show w.heap.size + 1 < B; omega)).trans (h.rf j), fun j => (hb.cell (p := ⟨b, j, none⟩) hB).trans (h.s j), fun j => (hb.frozen (p := ⟨b, j, none⟩) hB).trans (h.sf j),
    h.bl.trans (hb.mono (by omega)), h0, Nat.lt_of_lt_of_le h.b1 hb.size⟩

/-- A new state is laid into the state's variable. -/
theorem FolAt.put {w wr : World} {b : Nat} {S : St} {v : Value} (h : FolAt w wr b S v) (S' : St) : FolAt w (wr.setCells b 0 (stL S').toArray.toList) b S' v := by
  have h0 := h.b0
  have hth : wr.there b 0 24 := fun j hj => by
    rw [Nat.zero_add, h.s j, List.getElem?_eq_getElem (by rw [stL_length]; exact hj)]; exact ⟨rfl, h.sf j⟩
  refine ⟨(World.cell?_setCells_out _ _ _ _ _ (by intro e; simp at e; omega)).trans h.pr, fun j => (World.cell?_setCells_out _ _ _ _ _ (by intro e; simp at e; omega)).trans (h.r j), fun j => (World.frozen?_setCells _ _ _ _ _).trans (h.rf j), fun j => ?_, fun j => (World.frozen?_setCells _ _ _ _ _).trans (h.sf j),
    below_setCells _ (by omega) _ _ _ h.bl, h0, by rw [size_setCells]; exact h.b1⟩
  by_cases hj : j < 24
  · have := World.rangeAt_setCells_same wr b 0 (stL S') (by rw [stL_length]; exact hth) j _ (List.getElem?_eq_getElem (by rw [stL_length]; exact hj))
    rw [Nat.zero_add] at this
    rw [List.getElem?_eq_getElem (by rw [stL_length]; exact hj)]
    simpa using this
  · rw [World.cell?_setCells_out _ _ _ _ _ (by intro _ _; right; simp [stL_length]; omega), h.s j, List.getElem?_eq_none (by rw [stL_length]; omega), List.getElem?_eq_none (by rw [stL_length]; omega)]

/-- A row stays where blocks below it turn. -/
theorem owns_setCells {w : World} {lo : Nat} {e : TypeId} {size : Nat} {v : Value} {n : Nat} {xs : List Value} (h : w.ownsRow lo e size v n xs) (b : Nat) (hb : b < lo) : ∀ (vs : List Value) (o : Nat) (w' : World), (w'.ownsRow lo e size v n xs) → (w'.setCells b o vs).ownsRow lo e size v n xs
  | [], _, _, h' => h'
  | x :: vs, o, w', h' => owns_setCells h b hb vs (o + 1) _ (ownsRow_setCell_below h' (a := ⟨b, o, none⟩) hb x)

/-- What the two new variables of a round hold behind Step's answer. -/
def outW (w1 : World) (S' : St) : World := ((w1.alloc (.cells #[.int .i16 0, .int .i16 0, .int .i16 0, .int .i16 0, .int .i64 0, .bool false, .int .i16 0, .int .i64 0, .int .i64 0, .int .i64 0, .bool false, .int .i16 0, .int .i64 0, .int .i64 0, .int .i64 0, .bool false, .int .i16 0, .int .i64 0, .int .i64 0, .int .i64 0, .bool false, .int .i16 0, .int .i64 0, .int .i64 0] 117)).alloc (.cells #[.int .i64 0, .int .u8 0, .int .u8 0, .int .i16 0, .int .i64 0, .int .i64 0] 70)).setCells w1.heap.size 0 (stL S').toArray.toList

theorem outW_there (w1 : World) (S' : St) : ((w1.alloc (.cells #[.int .i16 0, .int .i16 0, .int .i16 0, .int .i16 0, .int .i64 0, .bool false, .int .i16 0, .int .i64 0, .int .i64 0, .int .i64 0, .bool false, .int .i16 0, .int .i64 0, .int .i64 0, .int .i64 0, .bool false, .int .i16 0, .int .i64 0, .int .i64 0, .int .i64 0, .bool false, .int .i16 0, .int .i64 0, .int .i64 0] 117)).alloc (.cells #[.int .i64 0, .int .u8 0, .int .u8 0, .int .i16 0, .int .i64 0, .int .i64 0] 70)).there w1.heap.size 0 (stL S').toArray.size := fun j hj => by
  have := new_there w1 j hj
  refine ⟨?_, ?_⟩
  · rw [World.cell?_alloc_past _ _ _ (by simp)]; exact this.1
  · rw [World.frozen?_of_block (w := w1.alloc (.cells #[.int .i16 0, .int .i16 0, .int .i16 0, .int .i16 0, .int .i64 0, .bool false, .int .i16 0, .int .i64 0, .int .i64 0, .int .i64 0, .bool false, .int .i16 0, .int .i64 0, .int .i64 0, .int .i64 0, .bool false, .int .i16 0, .int .i64 0, .int .i64 0, .int .i64 0, .bool false, .int .i16 0, .int .i64 0, .int .i64 0] 117)) (Below.heap_alloc _ _ _ (by simp))]; exact this.2

theorem outW_facts (w1 : World) (S' : St) : (∀ j, (outW w1 S').cell? ⟨w1.heap.size, j, none⟩ = (stL S')[j]?) ∧ (outW w1 S').cell? ⟨w1.heap.size + 1, 0, none⟩ = some (.int .i64 0) ∧ (outW w1 S').cell? ⟨w1.heap.size + 1, 1, none⟩ = some (.int .u8 0) ∧ (outW w1 S').cell? ⟨w1.heap.size + 1, 2, none⟩ = some (.int .u8 0)
    ∧ (outW w1 S').cell? ⟨w1.heap.size + 1, 3, none⟩ = some (.int .i16 0) ∧ (outW w1 S').cell? ⟨w1.heap.size + 1, 4, none⟩ = some (.int .i64 0) ∧ (outW w1 S').cell? ⟨w1.heap.size + 1, 5, none⟩ = some (.int .i64 0) ∧ (∀ j, (outW w1 S').frozen? ⟨w1.heap.size + 1, j, none⟩ = false) ∧ Below w1.heap.size w1 (outW w1 S') ∧ (outW w1 S').heap.size = w1.heap.size + 2 := by
  have hout : ∀ j, (outW w1 S').cell? ⟨w1.heap.size + 1, j, none⟩ = ((w1.alloc (.cells #[.int .i16 0, .int .i16 0, .int .i16 0, .int .i16 0, .int .i64 0, .bool false, .int .i16 0, .int .i64 0, .int .i64 0, .int .i64 0, .bool false, .int .i16 0, .int .i64 0, .int .i64 0, .int .i64 0, .bool false, .int .i16 0, .int .i64 0, .int .i64 0, .int .i64 0, .bool false, .int .i16 0, .int .i64 0, .int .i64 0] 117)).alloc (.cells #[.int .i64 0, .int .u8 0, .int .u8 0, .int .i16 0, .int .i64 0, .int .i64 0] 70)).cell? ⟨w1.heap.size + 1, j, none⟩ := fun j => World.cell?_setCells_out _ _ _ _ _ (by simp)
  refine ⟨fun j => ?_, ?_, ?_, ?_, ?_, ?_, ?_, fun j => ?_, ?_, ?_⟩
  · unfold outW
    by_cases hj : j < 24
    · have := World.rangeAt_setCells_same _ w1.heap.size 0 (stL S') (by have := outW_there w1 S'; simpa using this) j _ (List.getElem?_eq_getElem (by rw [stL_length]; exact hj))
      rw [Nat.zero_add] at this
      rw [List.getElem?_eq_getElem (by rw [stL_length]; exact hj)]
      simpa using this
    · rw [World.cell?_setCells_out _ _ _ _ _ (by intro _ _; right; simp [stL_length]; omega), World.cell?_alloc_past _ _ _ (by simp), List.getElem?_eq_none (by rw [stL_length]; omega)]
      have := box_cell w1 st0 j
      rw [List.getElem?_eq_none (by rw [stL_length]; omega)] at this
      exact this
  · rw [hout]; simp [go_sem]
  · rw [hout]; simp [go_sem]
  · rw [hout]; simp [go_sem]
  · rw [hout]; simp [go_sem]
  · rw [hout]; simp [go_sem]
  · rw [hout]; simp [go_sem]
  · unfold outW; rw [World.frozen?_setCells, World.frozen?_alloc_at _ _ _ _ (by simp)]
  · exact below_setCells _ (Nat.le_refl _) _ _ _ (two_new w1 _ _)
  · unfold outW; rw [size_setCells]; simp

theorem outW_there2 (w1 : World) (S' : St) : (outW w1 S').there (w1.heap.size + 1) 0 6 := fun j hj => by
  obtain ⟨-, x0, x1, x2, x3, x4, x5, xf, -, -⟩ := outW_facts w1 S'
  have : j = 0 ∨ j = 1 ∨ j = 2 ∨ j = 3 ∨ j = 4 ∨ j = 5 := by omega
  refine ⟨?_, xf _⟩
  rcases this with rfl | rfl | rfl | rfl | rfl | rfl
  · rw [x0]; rfl
  · rw [x1]; rfl
  · rw [x2]; rfl
  · rw [x3]; rfl
  · rw [x4]; rfl
  · rw [x5]; rfl

theorem outE_facts (w1 : World) (S' : St) (vs : List Value) (hv : vs.length = 6) : (∀ j, ((outW w1 S').setCells (w1.heap.size + 1) 0 vs).cell? ⟨w1.heap.size, j, none⟩ = (stL S')[j]?) ∧ ((outW w1 S').setCells (w1.heap.size + 1) 0 vs).rangeAt (w1.heap.size + 1) 0 vs ∧
    (∀ j, ((outW w1 S').setCells (w1.heap.size + 1) 0 vs).frozen? ⟨w1.heap.size + 1, j, none⟩ = false) ∧ Below w1.heap.size w1 ((outW w1 S').setCells (w1.heap.size + 1) 0 vs) ∧ ((outW w1 S').setCells (w1.heap.size + 1) 0 vs).heap.size = w1.heap.size + 2 := by
  obtain ⟨ho, x0, x1, x2, x3, x4, x5, xf, xb, xz⟩ := outW_facts w1 S'
  refine ⟨fun j => ?_, World.rangeAt_setCells_same _ _ _ _ (by rw [hv]; exact outW_there2 w1 S'), fun j => ?_, below_setCells _ (by omega) _ _ _ xb, by rw [size_setCells]; exact xz⟩
  · rw [cell_out (by omega)]; exact ho j
  · rw [World.frozen?_setCells]; exact xf j

theorem put6_size (X : World) (c : Nat) (v0 v1 v2 v3 v4 v5 : Value) : (put6 X c v0 v1 v2 v3 v4 v5).heap.size = X.heap.size := by simp [put6]

theorem put6_frozen (X : World) (c : Nat) (v0 v1 v2 v3 v4 v5 : Value) (a : Addr) : (put6 X c v0 v1 v2 v3 v4 v5).frozen? a = X.frozen? a := by simp [put6, World.frozen?_setCell]

end Go.Proofs.Ytfdafcnfefbcbaa
