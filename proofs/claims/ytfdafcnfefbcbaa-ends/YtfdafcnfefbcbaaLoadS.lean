/-
  A whole state read out of a variable, as one operation: for regions that draw their order.
-/
import Derived.Test.YtfdafcnfefbcbaaHeld
import Derived.Laws.ResultCell
namespace Go.Proofs.Ytfdafcnfefbcbaa
open Go.RowKit
set_option linter.unusedVariables false

/-- What a block's first 24 cells hold. -/
def rd (w : World) (b : Nat) : Array Value := ((List.range 24).map fun j => (w.cell? ⟨b, j, none⟩).getD undef).toArray
def okS (w : World) (b : Nat) : Prop := ∀ j, j < 24 → (w.cell? ⟨b, j, none⟩).isSome = true
def ptrB : Value → Nat
  | .pointer (some a) => a.block
  | _ => 0
def isPtr0 : Value → Bool
  | .pointer (some ⟨_, 0, none⟩) => true
  | _ => false

theorem isPtr0_form {v : Value} (h : isPtr0 v = true) : v = .pointer (some ⟨ptrB v, 0, none⟩) := by
  unfold isPtr0 at h
  split at h
  · rfl
  · cases h

theorem rd_range {w : World} {b : Nat} (h : okS w b) : w.rangeAt b 0 (rd w b).toList := fun j v hv => by
  have hj : j < 24 := by
    have := (List.getElem?_eq_some_iff.1 hv).1
    simpa [rd] using this
  obtain ⟨u, hu⟩ := Option.isSome_iff_exists.1 (h j hj)
  have e : (rd w b).toList[j]? = some u := by simp [rd, hj, hu]
  rw [e] at hv
  cases hv
  rw [Nat.zero_add]; exact hu

theorem rd_size (w : World) (b : Nat) : (rd w b).toList.length = 24 := by simp [rd]

theorem exec_load_state {a : Act} {x : Operand} {dst : Option Tmp} {ty : TypeId} {pos : String} {after : Array Edge} {guard : Option (Nat × Bool)} {w : World} (h1 : isPtr0 (a.eval x) = true) (h2 : okS w (ptrB (a.eval x))) :
    (execOp a.eval ⟨dst, .load 117 x, ty, pos, after, guard⟩).run Try.prog w = .ok (.value (.agg (rd w (ptrB (a.eval x))))) w := by
  have hx := isPtr0_form h1
  generalize ptrB (a.eval x) = b at *
  have hl := run_loadVar_mid (P := Try.prog) w b 0 117 _ _ (rd_range h2) Try.underlying117 rfl (by rw [rd_size]; exact Try.size117)
  unfold execOp
  simp only [hx, Instr.loadAt, Instr.sureAddr, Sem.run_bind, Sem.run_pure, Result.andThen_ok, hl]

def aggL : Value → List Value
  | .agg c => c.toList
  | _ => []
/-- It is a whole state. -/
def isSt (v : Value) : Prop := ∃ S, v = .agg (stL S).toArray
def isEv : Value → Bool
  | .agg c => c.size == 6 && c.all (·.oneCell')
  | _ => false
def thS (w : World) (b : Nat) : Prop := w.there b 0 24
def thE (w : World) (b : Nat) : Prop := w.there b 0 6

theorem stL_one (S : St) : ∀ v ∈ stL S, v.oneCell' = true := by
  intro v hv
  simp only [stL, List.mem_cons, List.not_mem_nil, or_false] at hv
  rcases hv with rfl | rfl | rfl | rfl | rfl | rfl | rfl | rfl | rfl | rfl | rfl | rfl | rfl | rfl | rfl | rfl | rfl | rfl | rfl | rfl | rfl | rfl | rfl | rfl <;> rfl

theorem Try.size70 : (Try.prog.info? 70).map (·.size) = some 6 := by kernel_rfl

theorem exec_store_state {a : Act} {x y : Operand} {dst : Option Tmp} {ty : TypeId} {pos : String} {after : Array Edge} {guard : Option (Nat × Bool)} {w : World} (h1 : isPtr0 (a.eval x) = true) (h2 : isSt (a.eval y)) (h3 : thS w (ptrB (a.eval x))) :
    (execOp a.eval ⟨dst, .store 117 x y, ty, pos, after, guard⟩).run Try.prog w = .ok .skip (w.setCells (ptrB (a.eval x)) 0 (aggL (a.eval y))) := by
  have hx := isPtr0_form h1
  obtain ⟨S, hy⟩ := h2
  generalize ptrB (a.eval x) = b at *
  have hs := run_storeVar_mid (P := Try.prog) w b 0 117 (stL S).toArray h3 Try.size117 (all_oneCell_toArray (stL_one S))
  unfold execOp
  simp only [hx, hy, Instr.storeAt, Instr.sureAddr, Sem.run_bind, Sem.run_pure, Result.andThen_ok, hs, aggL]

theorem exec_store_ev {a : Act} {x y : Operand} {dst : Option Tmp} {ty : TypeId} {pos : String} {after : Array Edge} {guard : Option (Nat × Bool)} {w : World} (h1 : isPtr0 (a.eval x) = true) (h2 : isEv (a.eval y) = true) (h3 : thE w (ptrB (a.eval x))) :
    (execOp a.eval ⟨dst, .store 70 x y, ty, pos, after, guard⟩).run Try.prog w = .ok .skip (w.setCells (ptrB (a.eval x)) 0 (aggL (a.eval y))) := by
  have hx := isPtr0_form h1
  obtain ⟨c, hy, hc, hall⟩ : ∃ c : Array Value, a.eval y = .agg c ∧ c.size = 6 ∧ c.all (·.oneCell') = true := by
    unfold isEv at h2
    split at h2
    · rename_i c hc
      simp only [Bool.and_eq_true, beq_iff_eq] at h2
      exact ⟨c, hc, h2.1, h2.2⟩
    · cases h2
  generalize ptrB (a.eval x) = b at *
  have hs := run_storeVar_mid (P := Try.prog) w b 0 70 c (by rw [hc]; exact h3) (by rw [hc]; exact Try.size70) hall
  unfold execOp
  simp only [hx, hy, Instr.storeAt, Instr.sureAddr, Sem.run_bind, Sem.run_pure, Result.andThen_ok, hs, aggL]

theorem rd_of {w : World} {b : Nat} {S : St} (h : ∀ j, w.cell? ⟨b, j, none⟩ = (stL S)[j]?) : okS w b ∧ rd w b = (stL S).toArray := by
  refine ⟨fun j hj => ?_, ?_⟩
  · rw [h j, List.getElem?_eq_getElem (by rw [stL_length]; exact hj)]; rfl
  · unfold rd
    simp only [h]
    rfl

theorem below_setCells {B : Nat} {a : World} (b : Nat) (hB : B ≤ b) : ∀ (vs : List Value) (o : Nat) (w : World), Below B a w → Below B a (w.setCells b o vs)
  | [], _, _, h => h
  | v :: vs, o, w, h => below_setCells b hB vs (o + 1) _ (h.setCell (p := ⟨b, o, none⟩) hB v)

/-- Two results, the first of them a state in memory. -/
theorem ret_state {fn : Func} {p u : Tmp} (h : fn.results = #[.cell p 117, .tmp u]) (tmps : Array Value) (F : World) (b : Nat) (S : St) (hp : tmps.getD p undef = .pointer (some ⟨b, 0, none⟩)) (hr : F.rangeAt b 0 (stL S)) :
    (results fn tmps).run Try.prog F = .ok (.tuple #[.agg (stL S).toArray, tmps.getD u undef]) F := by
  have hl := run_loadVar_mid (P := Try.prog) F b 0 117 _ _ hr Try.underlying117 rfl Try.size117
  rw [results_cell_tmp h, hp]
  simp only [asAddr, Sem.run_pure, Result.andThen_ok, hl]

/-- One result, a state in memory. -/
theorem ret_state1 {fn : Func} {p : Tmp} (h : fn.results = #[.cell p 117]) (tmps : Array Value) (F : World) (b : Nat) (S : St) (hp : tmps.getD p undef = .pointer (some ⟨b, 0, none⟩)) (hr : F.rangeAt b 0 (stL S)) :
    (results fn tmps).run Try.prog F = .ok (.agg (stL S).toArray) F := by
  have hl := run_loadVar_mid (P := Try.prog) F b 0 117 _ _ hr Try.underlying117 rfl Try.size117
  have hp' : tmps[p]?.getD undef = .pointer (some ⟨b, 0, none⟩) := by simpa using hp
  simp [results, h, hp', asAddr, hl]

end Go.Proofs.Ytfdafcnfefbcbaa
