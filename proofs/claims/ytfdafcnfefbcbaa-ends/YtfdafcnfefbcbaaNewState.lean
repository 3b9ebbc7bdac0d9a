/-
  A new variable that holds a state; whole states loaded and stored as one operation; settled with its place as a number.
-/
import Derived.Test.YtfdafcnfefbcbaaGroup
namespace Go.Proofs.Ytfdafcnfefbcbaa
open Go.RowKit
set_option linter.unusedVariables false

theorem wp_load_state {a : Act} {x : Operand} {dst : Option Tmp} {ty : TypeId} {pos : String} {after : Array Edge} {guard : Option (Nat × Bool)} {w : World} {K : Act → World → Prop} {Q : Exit → Act → World → Prop} (h1 : isPtr0 (a.eval x) = true) (h2 : okS w (ptrB (a.eval x))) :
    Oper.wp Try.prog ⟨dst, .load 117 x, ty, pos, after, guard⟩ a w K Q = K (a.put dst (.agg (rd w (ptrB (a.eval x))))) w := by
  unfold Oper.wp
  rw [exec_load_state h1 h2]
  simp [Oper.upon]

theorem wp_store_state {a : Act} {x y : Operand} {dst : Option Tmp} {ty : TypeId} {pos : String} {after : Array Edge} {guard : Option (Nat × Bool)} {w : World} {K : Act → World → Prop} {Q : Exit → Act → World → Prop} (h1 : isPtr0 (a.eval x) = true) (h2 : isSt (a.eval y)) (h3 : thS w (ptrB (a.eval x))) :
    Oper.wp Try.prog ⟨dst, .store 117 x y, ty, pos, after, guard⟩ a w K Q = K (a.put dst undef) (w.setCells (ptrB (a.eval x)) 0 (aggL (a.eval y))) := by
  unfold Oper.wp
  rw [exec_store_state h1 h2 h3]
  simp [Oper.upon]

theorem wp_store_ev {a : Act} {x y : Operand} {dst : Option Tmp} {ty : TypeId} {pos : String} {after : Array Edge} {guard : Option (Nat × Bool)} {w : World} {K : Act → World → Prop} {Q : Exit → Act → World → Prop} (h1 : isPtr0 (a.eval x) = true) (h2 : isEv (a.eval y) = true) (h3 : thE w (ptrB (a.eval x))) :
    Oper.wp Try.prog ⟨dst, .store 70 x y, ty, pos, after, guard⟩ a w K Q = K (a.put dst undef) (w.setCells (ptrB (a.eval x)) 0 (aggL (a.eval y))) := by
  unfold Oper.wp
  rw [exec_store_ev h1 h2 h3]
  simp [Oper.upon]

theorem new_there (w : World) : (w.alloc (.cells (stL st0).toArray 117)).there w.heap.size 0 24 := fun j hj => by
  rw [Nat.zero_add, box_cell, World.frozen?_alloc_at _ _ _ _ rfl, List.getElem?_eq_getElem (by rw [stL_length]; exact hj)]; exact ⟨rfl, rfl⟩

theorem settled_int (t : Th) (x : Int) (hx : x = (t.pos : Int)) (r : List Pl.POp) (a : Option Addr) (cap lo hi : Nat) (w : World) (hr : RowIn w lo hi a cap r) (hh : hi ≤ w.heap.size) (hl : r.length ≤ 1000) (hp : t.pos ≤ 1000) (hby : Bytes r) :
    Calls Try.prog 103 #[.agg #[.int .i64 x, .bool t.failed, .int .i16 t.reg, .int .i64 (t.h0 : Int), .int .i64 (t.h1 : Int)], .slice a r.length cap] w
      fun e w' => e = .returned (thV (settle r (r.length + 1) t)) ∧ Below w.heap.size w w' := by
  subst hx; exact settled_any t r a cap lo hi w hr hh hl hp hby

theorem new_all (w : World) (S1 : St) : ∀ j, ((w.alloc (.cells (stL st0).toArray 117)).setCells w.heap.size 0 (stL S1).toArray.toList).cell? ⟨w.heap.size, j, none⟩ = (stL S1)[j]? := fun j => by
  by_cases hj : j < 24
  · have := World.rangeAt_setCells_same (w.alloc (.cells (stL st0).toArray 117)) w.heap.size 0 (stL S1) (by rw [stL_length]; exact new_there w) j _ (List.getElem?_eq_getElem (by rw [stL_length]; exact hj))
    rw [Nat.zero_add] at this
    rw [List.getElem?_eq_getElem (by rw [stL_length]; exact hj)]
    simpa using this
  · rw [World.cell?_setCells_out _ _ _ _ _ (by intro _ _; right; simp [stL_length]; omega), box_cell, List.getElem?_eq_none (by rw [stL_length]; omega), List.getElem?_eq_none (by rw [stL_length]; omega)]

theorem new_frozen (w : World) (S1 : St) : ∀ j, ((w.alloc (.cells (stL st0).toArray 117)).setCells w.heap.size 0 (stL S1).toArray.toList).frozen? ⟨w.heap.size, j, none⟩ = false := fun j => by
  rw [World.frozen?_setCells, World.frozen?_alloc_at _ _ _ _ rfl]

theorem new_below (w : World) (S1 : St) : Below w.heap.size w ((w.alloc (.cells (stL st0).toArray 117)).setCells w.heap.size 0 (stL S1).toArray.toList) :=
  below_setCells _ (Nat.le_refl _) _ _ _ ((Below.refl _ _).alloc (Nat.le_refl _) _)

theorem size_setCells (b : Nat) : ∀ (vs : List Value) (o : Nat) (w : World), (w.setCells b o vs).heap.size = w.heap.size
  | [], _, _ => rfl
  | v :: vs, o, w => by show ((w.setCell ⟨b, o, none⟩ v).setCells b (o + 1) vs).heap.size = _; rw [size_setCells b vs, World.size_setCell]

theorem cell_out {w : World} {b c : Nat} (h : b ≠ c) (o j : Nat) (L : List Value) : (w.setCells b o L).cell? ⟨c, j, none⟩ = w.cell? ⟨c, j, none⟩ := World.cell?_setCells_out _ _ _ _ _ (fun e => absurd e.symm h)
theorem okS_out {w : World} {b c : Nat} (h : b ≠ c) (o : Nat) (L : List Value) : okS (w.setCells b o L) c = okS w c := by
  unfold okS; simp only [cell_out h]
theorem rd_out {w : World} {b c : Nat} (h : b ≠ c) (o : Nat) (L : List Value) : rd (w.setCells b o L) c = rd w c := by
  unfold rd; simp only [cell_out h]

theorem loadAt_state {v : Value} {w : World} (h1 : isPtr0 v = true) (h2 : okS w (ptrB v)) : (Instr.loadAt 117 v).run Try.prog w = .ok (.agg (rd w (ptrB v))) w := by
  have hx := isPtr0_form h1
  generalize ptrB v = b at *
  subst hx
  have hl := run_loadAt_mid (P := Try.prog) w b 0 117 (rd w b).toList _ (rd_range h2) Try.underlying117 rfl (by rw [rd_size]; exact Try.size117)
  rw [hl]

theorem storeAt_state {v u : Value} {w : World} (h1 : isPtr0 v = true) (h2 : isSt u) (h3 : thS w (ptrB v)) : (Instr.storeAt 117 v u).run Try.prog w = .ok () (w.setCells (ptrB v) 0 (aggL u)) := by
  have hx := isPtr0_form h1
  obtain ⟨S, rfl⟩ := h2
  generalize ptrB v = b at *
  subst hx
  exact run_storeAt_mid (P := Try.prog) w b 0 117 (stL S).toArray h3 Try.size117 (all_oneCell_toArray (stL_one S))

theorem storeAt_ev {v u : Value} {w : World} (h1 : isPtr0 v = true) (h2 : isEv u = true) (h3 : thE w (ptrB v)) : (Instr.storeAt 70 v u).run Try.prog w = .ok () (w.setCells (ptrB v) 0 (aggL u)) := by
  have hx := isPtr0_form h1
  obtain ⟨c, rfl, hc, hall⟩ : ∃ c : Array Value, u = .agg c ∧ c.size = 6 ∧ c.all (·.oneCell') = true := by
    unfold isEv at h2
    split at h2
    · rename_i c
      simp only [Bool.and_eq_true, beq_iff_eq] at h2
      exact ⟨c, rfl, h2.1, h2.2⟩
    · cases h2
  generalize ptrB v = b at *
  subst hx
  exact run_storeAt_mid (P := Try.prog) w b 0 70 c (by rw [hc]; exact h3) (by rw [hc]; exact Try.size70) hall

end Go.Proofs.Ytfdafcnfefbcbaa
