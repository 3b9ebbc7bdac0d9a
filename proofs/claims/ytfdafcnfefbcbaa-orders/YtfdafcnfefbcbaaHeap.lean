/-
  How what the program has read lies in memory: rows of operations, a row of such rows, the reader's draft; and that they stay while other memory turns.
-/
import Derived.Test.YtfdafcnfefbcbaaLeaf
import Derived.Deep.AppendLies
namespace Go.Proofs.Ytfdafcnfefbcbaa
open Go.RowKit
set_option linter.unusedVariables false

def opCells (o : Pl.POp) : List Value := [.int .u8 (o.kind : Int), .int .u8 (o.name : Int), .int .i64 o.block]
def rowCells : List Pl.POp → List Value
  | [] => []
  | o :: r => opCells o ++ rowCells r

theorem rowCells_append (a b : List Pl.POp) : rowCells (a ++ b) = rowCells a ++ rowCells b := by
  induction a with
  | nil => rfl
  | cons x xs ih => simp [rowCells, ih]
theorem rowCells_length (a : List Pl.POp) : (rowCells a).length = a.length * 3 := by
  induction a with
  | nil => rfl
  | cons x xs ih => simp [rowCells, ih, opCells]; omega
theorem rowCells_at : ∀ (a : List Pl.POp) (i : Nat) (o : Pl.POp), a[i]? = some o → (rowCells a)[i * 3]? = some (.int .u8 (o.kind : Int)) ∧ (rowCells a)[i * 3 + 1]? = some (.int .u8 (o.name : Int)) ∧ (rowCells a)[i * 3 + 2]? = some (.int .i64 o.block)
  | [], i, o, h => by simp at h
  | x :: xs, 0, o, h => by simp at h; subst h; simp [rowCells, opCells]
  | x :: xs, i + 1, o, h => by
    have := rowCells_at xs i o (by simpa using h)
    rw [show (i + 1) * 3 = i * 3 + 3 by omega, show i * 3 + 3 + 1 = i * 3 + 1 + 3 by omega, show i * 3 + 3 + 2 = i * 3 + 2 + 3 by omega]
    simpa [rowCells, opCells] using this

/-- A row of the call's own whose block lies below 'hi'. -/
def OwnsIn (w : World) (lo hi : Nat) (e : TypeId) (size : Nat) (v : Value) (n : Nat) (xs : List Value) : Prop :=
  w.ownsRow lo e size v n xs ∧ ∀ g, v.ownBlock = some g → g < hi

theorem ownsRow_of_block {w w' : World} {lo : Nat} {e : TypeId} {size : Nat} {v : Value} {n : Nat} {xs : List Value} (h : w.ownsRow lo e size v n xs)
    (hb : ∀ g, v.ownBlock = some g → w'.heap[g]? = w.heap[g]?) : w'.ownsRow lo e size v n xs := by
  refine ⟨h.1, ?_⟩
  rcases h.2 with h2 | ⟨g, cap, cur, hv, hg, hh, r⟩
  · exact .inl h2
  · exact .inr ⟨g, cap, cur, hv, hg, by rw [hb g (by rw [hv]; rfl)]; exact hh, r⟩

theorem OwnsIn.of_block {w w' : World} {lo hi : Nat} {e : TypeId} {size : Nat} {v : Value} {n : Nat} {xs : List Value} (h : OwnsIn w lo hi e size v n xs)
    (hb : ∀ g, v.ownBlock = some g → w'.heap[g]? = w.heap[g]?) : OwnsIn w' lo hi e size v n xs := ⟨ownsRow_of_block h.1 hb, h.2⟩

theorem OwnsIn.below {w w' : World} {lo hi : Nat} {e : TypeId} {size : Nat} {v : Value} {n : Nat} {xs : List Value} (h : OwnsIn w lo hi e size v n xs)
    (hb : Below hi w w') : OwnsIn w' lo hi e size v n xs := h.of_block fun g hg => hb.block g (h.2 g hg)

theorem OwnsIn.mono {w : World} {lo lo' hi hi' : Nat} {e : TypeId} {size : Nat} {v : Value} {n : Nat} {xs : List Value} (h : OwnsIn w lo hi e size v n xs)
    (h1 : lo' ≤ lo) (h2 : hi ≤ hi') : OwnsIn w lo' hi' e size v n xs := by
  refine ⟨⟨h.1.1, ?_⟩, fun g hg => Nat.lt_of_lt_of_le (h.2 g hg) h2⟩
  rcases h.1.2 with h2 | ⟨g, cap, cur, hv, hg, hh, r⟩
  · exact .inl h2
  · exact .inr ⟨g, cap, cur, hv, by omega, hh, r⟩

theorem ownsRow_in {w : World} {lo : Nat} {e : TypeId} {size : Nat} {v : Value} {n : Nat} {xs : List Value} (h : w.ownsRow lo e size v n xs) : OwnsIn w lo w.heap.size e size v n xs :=
  ⟨h, fun g hg => (h.lt g hg).2⟩

/-- Rows of two types lie in two blocks. -/
theorem owns_apart {w : World} {lo lo' : Nat} {e e' : TypeId} {size size' : Nat} {v v' : Value} {n n' : Nat} {xs xs' : List Value} (h : w.ownsRow lo e size v n xs) (h' : w.ownsRow lo' e' size' v' n' xs') (hne : e ≠ e')
    {g : Nat} (hg : v.ownBlock = some g) : v'.ownBlock ≠ some g := by
  intro hg'
  rcases h.2 with ⟨rfl, _⟩ | ⟨g1, _, _, rfl, _, hh, _⟩
  · simp [Value.ownBlock] at hg
  · rcases h'.2 with ⟨rfl, _⟩ | ⟨g2, _, _, rfl, _, hh', _⟩
    · simp [Value.ownBlock] at hg'
    · simp [Value.ownBlock] at hg hg'
      subst hg; subst hg'
      rw [hh] at hh'
      simp at hh'
      exact hne hh'.2

theorem owns_form {w : World} {lo : Nat} {e : TypeId} {size : Nat} {v : Value} {n : Nat} {xs : List Value} (h : w.ownsRow lo e size v n xs) : ∃ a cap, v = .slice a n cap := by
  rcases h.2 with ⟨rfl, rfl⟩ | ⟨g, cap, _, rfl, _⟩
  · exact ⟨none, 0, rfl⟩
  · exact ⟨_, cap, rfl⟩

/-- The rows of operations 'p', behind the value v, all in blocks from lo up to hi. -/
def RowsIn (w : World) (lo hi : Nat) (v : Value) (p : List (List Pl.POp)) : Prop :=
  ∃ vs : List Value, OwnsIn w lo hi 134 1 v p.length vs ∧ ∀ (i : Nat) r, p[i]? = some r → ∃ u, vs[i]? = some u ∧ OwnsIn w lo hi 141 3 u r.length (rowCells r)

theorem RowsIn.below {w w' : World} {lo hi : Nat} {v : Value} {p : List (List Pl.POp)} (h : RowsIn w lo hi v p) (hb : Below hi w w') : RowsIn w' lo hi v p := by
  obtain ⟨vs, h1, h2⟩ := h
  exact ⟨vs, h1.below hb, fun i r hr => by obtain ⟨u, hu, ho⟩ := h2 i r hr; exact ⟨u, hu, ho.below hb⟩⟩

theorem RowsIn.mono {w : World} {lo lo' hi hi' : Nat} {v : Value} {p : List (List Pl.POp)} (h : RowsIn w lo hi v p) (h1 : lo' ≤ lo) (h2 : hi ≤ hi') : RowsIn w lo' hi' v p := by
  obtain ⟨vs, g1, g2⟩ := h
  exact ⟨vs, g1.mono h1 h2, fun i r hr => by obtain ⟨u, hu, ho⟩ := g2 i r hr; exact ⟨u, hu, ho.mono h1 h2⟩⟩

theorem RowsIn.setCell {w : World} {lo hi : Nat} {v : Value} {p : List (List Pl.POp)} (h : RowsIn w lo hi v p) {a : Addr} (ha : a.block < lo) (x : Value) : RowsIn (w.setCell a x) lo hi v p := by
  obtain ⟨vs, g1, g2⟩ := h
  exact ⟨vs, ⟨ownsRow_setCell_below g1.1 ha x, g1.2⟩, fun i r hr => by obtain ⟨u, hu, ho⟩ := g2 i r hr; exact ⟨u, hu, ownsRow_setCell_below ho.1 ha x, ho.2⟩⟩

/-- How the reader's draft lies in memory: its four cells in block sb; the finished rows in blocks from lo up to hi; the row that is being read from hi on. -/
structure DraftAt (w : World) (sb lo hi : Nat) (D : Pl.Draft) : Prop where
  order : sb < lo ∧ lo ≤ hi ∧ hi ≤ w.heap.size
  at0 : ∃ v, w.cell? ⟨sb, 0, none⟩ = some v ∧ RowsIn w lo hi v D.threads
  at1 : ∃ u, w.cell? ⟨sb, 1, none⟩ = some u ∧ w.ownsRow hi 141 3 u D.ops.length (rowCells D.ops)
  at2 : w.cell? ⟨sb, 2, none⟩ = some (.int .i64 (D.blocks : Int))
  at3 : w.cell? ⟨sb, 3, none⟩ = some (.int .i64 D.block)
  free : ∀ o, w.frozen? ⟨sb, o, none⟩ = false

theorem Try.info141 : (Try.prog.info? 141).map (fun i => (i.zero, i.size, i.bytes)) = some (some (.agg #[.int .u8 0, .int .u8 0, .int .i64 0]), 3, 16) := by kernel_rfl
theorem Try.info134 : (Try.prog.info? 134).map (fun i => (i.zero, i.size, i.bytes)) = some (some (.slice none 0 0), 1, 24) := by kernel_rfl

/-- What endThread's append does to the rows: the finished ones stay, the one that was being read joins them. -/
theorem rows_append {w w1 : World} {lo hi g cap : Nat} {v u : Value} {p : List (List Pl.POp)} {r : List Pl.POp} {vs : List Value}
    (h1 : OwnsIn w lo hi 134 1 v p.length vs) (h2 : ∀ (i : Nat) r, p[i]? = some r → ∃ u, vs[i]? = some u ∧ OwnsIn w lo hi 141 3 u r.length (rowCells r))
    (hu : w.ownsRow hi 141 3 u r.length (rowCells r)) (hlh : lo ≤ hi) (hh : hi ≤ w.heap.size) (hw : w.heap.size ≤ w1.heap.size)
    (hown : w1.ownsRow lo 134 1 (.slice (some ⟨g, 0, none⟩) (p.length + 1) cap) (p.length + 1) (vs ++ [u]))
    (hgrow : ∀ k, k < w.heap.size → v.ownBlock ≠ some k → w1.heap[k]? = w.heap[k]?) :
    RowsIn w1 lo w1.heap.size (.slice (some ⟨g, 0, none⟩) (p.length + 1) cap) (p ++ [r]) := by
  have hl : vs.length = p.length := by have := h1.1.1; omega
  refine ⟨vs ++ [u], by simpa using ownsRow_in hown, fun i q hq => ?_⟩
  have keep : ∀ {u q}, w.ownsRow lo 141 3 u q.length (rowCells q) → OwnsIn w1 lo w1.heap.size 141 3 u q.length (rowCells q) := fun {u q} ho => by
    refine ownsRow_in (ownsRow_of_block ho fun k hk => hgrow k (ho.lt k hk).2 ?_)
    exact owns_apart ho h1.1 (by decide) hk
  by_cases hi' : i < p.length
  · rw [List.getElem?_append_left hi'] at hq
    obtain ⟨u', hu', ho⟩ := h2 i q hq
    exact ⟨u', by rw [List.getElem?_append_left (by omega)]; exact hu', keep ho.1⟩
  · have e : i = p.length := by
      have := (List.getElem?_eq_some_iff.1 hq).1
      simp at this; omega
    subst e
    simp at hq
    subst hq
    refine ⟨u, by rw [← hl]; simp, keep ?_⟩
    exact (OwnsIn.mono (ownsRow_in hu) hlh (Nat.le_refl _)).1

/-- The two worlds part in block sb alone. -/
structure Off (sb : Nat) (w w' : World) : Prop where
  os : w'.os = w.os
  tape : w'.tape = w.tape
  output : w'.output = w.output
  size : w'.heap.size = w.heap.size
  block : ∀ k, k ≠ sb → w'.heap[k]? = w.heap[k]?
  frozen : ∀ o, w'.frozen? ⟨sb, o, none⟩ = w.frozen? ⟨sb, o, none⟩

theorem Off.refl (sb : Nat) (w : World) : Off sb w w := ⟨rfl, rfl, rfl, rfl, fun _ _ => rfl, fun _ => rfl⟩
theorem Off.setCell {sb : Nat} {w w' : World} (h : Off sb w w') (o : Nat) (x : Value) : Off sb w (w'.setCell ⟨sb, o, none⟩ x) :=
  ⟨h.os, h.tape, h.output, by rw [World.size_setCell]; exact h.size, fun k hk => by rw [Below.heap_setCell _ _ _ _ (by simpa using hk)]; exact h.block k hk, fun o => by rw [World.frozen?_setCell]; exact h.frozen o⟩
theorem Off.below {sb B : Nat} {w0 w w' : World} (h : Off sb w w') (hb : Below B w0 w) (hB : B ≤ sb) : Below B w0 w' :=
  hb.trans ⟨h.os, h.tape, h.output, by rw [h.size]; exact Nat.le_refl _, fun k hk => h.block k (by omega)⟩

/-- The draft behind an append to the row that is being read, and stores into its own cells. -/
theorem draft_row {w w1 W : World} {sb lo hi : Nat} {D : Pl.Draft} {v u : Value} (h1 : sb < lo) (h2 : lo ≤ hi) (h3 : hi ≤ w.heap.size) (hr : RowsIn w lo hi v D.threads) (hb : Below hi w w1) (off : Off sb w1 W)
    (c0 : W.cell? ⟨sb, 0, none⟩ = some v) (c1 : W.cell? ⟨sb, 1, none⟩ = some u) (hu : w1.ownsRow hi 141 3 u D.ops.length (rowCells D.ops))
    (c2 : W.cell? ⟨sb, 2, none⟩ = some (.int .i64 (D.blocks : Int))) (c3 : W.cell? ⟨sb, 3, none⟩ = some (.int .i64 D.block)) (free : ∀ o, w.frozen? ⟨sb, o, none⟩ = false) : DraftAt W sb lo hi D := by
  refine ⟨⟨h1, h2, by rw [off.size]; have := hb.size; omega⟩, ⟨v, c0, ?_⟩, ⟨u, c1, ?_⟩, c2, c3, fun o => ?_⟩
  · obtain ⟨vs, g1, g2⟩ := hr.below hb
    refine ⟨vs, g1.of_block fun g hg => off.block g ?_, fun i r hi => ?_⟩
    · have := (g1.1.lt g hg).1; omega
    · obtain ⟨x, hx, ho⟩ := g2 i r hi
      exact ⟨x, hx, ho.of_block fun g hg => off.block g (by have := (ho.1.lt g hg).1; omega)⟩
  · exact ownsRow_of_block hu fun g hg => off.block g (by have := (hu.lt g hg).1; omega)
  · rw [off.frozen o, hb.frozen (p := ⟨sb, o, none⟩) (show sb < hi by omega)]; exact free o

/-- The draft behind a thread's end. -/
theorem draft_end {w w1 W : World} {sb lo hi : Nat} {D : Pl.Draft} {v : Value} (h1 : sb < lo) (h2 : lo ≤ hi) (h3 : hi ≤ w1.heap.size) (hr : RowsIn w1 lo w1.heap.size v (D.threads ++ [D.ops])) (hb : Below lo w w1) (off : Off sb w1 W)
    (c0 : W.cell? ⟨sb, 0, none⟩ = some v) (c1 : W.cell? ⟨sb, 1, none⟩ = some (.slice none 0 0))
    (c2 : W.cell? ⟨sb, 2, none⟩ = some (.int .i64 0)) (c3 : W.cell? ⟨sb, 3, none⟩ = some (.int .i64 D.block)) (free : ∀ o, w.frozen? ⟨sb, o, none⟩ = false) : DraftAt W sb lo W.heap.size (Pl.endThread D) := by
  refine ⟨⟨h1, by rw [off.size]; omega, Nat.le_refl _⟩, ⟨v, c0, ?_⟩, ⟨_, c1, World.ownsRow_nil _ _ _ _⟩, c2, c3, fun o => ?_⟩
  · obtain ⟨vs, g1, g2⟩ := hr
    rw [off.size]
    refine ⟨vs, g1.of_block fun g hg => off.block g ?_, fun i r hi => ?_⟩
    · have := (g1.1.lt g hg).1; omega
    · obtain ⟨x, hx, ho⟩ := g2 i r hi
      exact ⟨x, hx, ho.of_block fun g hg => off.block g (by have := (ho.1.lt g hg).1; omega)⟩
  · rw [off.frozen o, hb.frozen (p := ⟨sb, o, none⟩) h1]; exact free o

/-- A cell that was there, behind a new block, a draw and an append to another row. -/
theorem grow_cell {w w1 : World} {o : Obj} {row : Option Nat} {a : Addr} {v : Value} (hg : (w.alloc o).drew.grownBy w1 row) (h : w.cell? a = some v) (hne : row ≠ some a.block) : w1.cell? a = some v := by
  have hb := World.block_lt_of_cell? w a h
  rw [World.cell?_of_block (w := w) ((hg.block a.block (by simp; omega) (Ne.symm hne)).trans (Below.heap_alloc w o a.block hb))]
  exact h
theorem grow_frozen {w w1 : World} {o : Obj} {row : Option Nat} {a : Addr} {f : Bool} (hg : (w.alloc o).drew.grownBy w1 row) (hb : a.block < w.heap.size) (h : w.frozen? a = f) (hne : row ≠ some a.block) : w1.frozen? a = f := by
  rw [World.frozen?_of_block (w := w) ((hg.block a.block (by simp; omega) (Ne.symm hne)).trans (Below.heap_alloc w o a.block hb))]
  exact h
theorem alloc_cell {w : World} {a : Addr} {v : Value} (h : w.cell? a = some v) (o : Obj) : (w.alloc o).cell? a = some v := by
  rw [World.cell?_of_block (w := w) (Below.heap_alloc w o a.block (World.block_lt_of_cell? w a h))]; exact h
theorem alloc_frozen {w : World} {a : Addr} {f : Bool} (hb : a.block < w.heap.size) (h : w.frozen? a = f) (o : Obj) : (w.alloc o).frozen? a = f := by
  rw [World.frozen?_of_block (w := w) (Below.heap_alloc w o a.block hb)]; exact h
theorem grow_below {w w1 : World} {o : Obj} {row : Option Nat} {B : Nat} (hg : (w.alloc o).drew.grownBy w1 row) (hB : B ≤ w.heap.size) (hr : ∀ k, row = some k → B ≤ k) : Below B w w1 :=
  (((Below.refl _ _).alloc hB o).drew).grown hg (by simp; omega) hr

end Go.Proofs.Ytfdafcnfefbcbaa
