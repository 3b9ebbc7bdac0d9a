/-
  Plain, for Counted: what Play and Events answer.
-/
import Derived.Test.YtfdafcnfefbcbaaCountedPl
namespace Go.Proofs.Ytfdafcnfefbcbaa
open Go.RowKit
set_option linter.unusedVariables false

theorem c_th (ps : List (Nat × Nat)) (hps : ∀ o ∈ ps, COk o) :
    ((ps.foldl cStep ⟨0, false, 0⟩).dead = false → settle (cRow ps) ((cRow ps).length + 1) th0 = ⟨min (ps.length + (ps.foldl cStep ⟨0, false, 0⟩).over) (ps.length + 1), false, (ps.foldl cStep ⟨0, false, 0⟩).v, 0, 0⟩) ∧
    ((ps.foldl cStep ⟨0, false, 0⟩).dead = true → (settle (cRow ps) ((cRow ps).length + 1) th0).failed = true) := by
  have h := c_run ps hps ps [] 0 0 ((cRow ps).length + 1) rfl (by rw [cRow_length]; simp)
  simpa [th0] using h

theorem c_dead (ps : List (Nat × Nat)) (hps : ∀ o ∈ ps, COk o) (h : (ps.foldl cStep ⟨0, false, 0⟩).dead = true) : playV [cRow ps] [] = .tuple #[resV 2 0 0 0 0, .int .i64 0] := by
  have ht := (c_th ps hps).2 h
  unfold playV
  rw [begin_one]
  show Value.tuple #[resV (endOf (oneSt (settle (cRow ps) ((cRow ps).length + 1) th0) 0 0 0 0) [cRow ps]) 0 0 0 0, .int .i64 0] = _
  generalize settle (cRow ps) ((cRow ps).length + 1) th0 = t at *
  rw [end_one t 0 0 0 0 _ (by unfold opAt; rw [ht]; rfl), ht]
  rfl

theorem c_over (ps : List (Nat × Nat)) (hps : ∀ o ∈ ps, COk o) (h : (ps.foldl cStep ⟨0, false, 0⟩).dead = false) (ho : 0 < (ps.foldl cStep ⟨0, false, 0⟩).over) : playV [cRow ps] [] = .tuple #[resV 1 0 0 0 0, .int .i64 0] := by
  have ht := (c_th ps hps).1 h
  unfold playV
  rw [begin_one]
  show Value.tuple #[resV (endOf (oneSt (settle (cRow ps) ((cRow ps).length + 1) th0) 0 0 0 0) [cRow ps]) 0 0 0 0, .int .i64 0] = _
  rw [ht]
  rw [end_one _ 0 0 0 0 _ (by unfold opAt; simp only [Bool.false_eq_true, if_false]; exact List.getElem?_eq_none (by rw [cRow_length]; omega))]
  rfl

theorem c_at (ps : List (Nat × Nat)) (v : Int) : opAt ⟨ps.length, false, v, 0, 0⟩ (cRow ps) = some ⟨119, 100, -1⟩ := by unfold opAt cRow; simp

theorem c_open (ps : List (Nat × Nat)) (hps : ∀ o ∈ ps, COk o) (h : (ps.foldl cStep ⟨0, false, 0⟩).dead = false) (ho : (ps.foldl cStep ⟨0, false, 0⟩).over = 0) (v : Int) (hv : (ps.foldl cStep ⟨0, false, 0⟩).v = v) :
    playV [cRow ps] [] = .tuple #[resV 0 0 0 0 0, .int .i64 0] ∧ playV [cRow ps] [0] = .tuple #[resV 1 0 0 0 v, .int .i64 0] ∧ ∃ S, follow [cRow ps] (beginTo [cRow ps] 4) [] 0 [0] = some (S, [⟨0, 119, 100, v, -1, 0⟩]) := by
  have ht := (c_th ps hps).1 h
  rw [ho, hv] at ht
  have e : min (ps.length + 0) (ps.length + 1) = ps.length := by omega
  rw [e] at ht
  have hb : beginTo [cRow ps] 4 = oneSt ⟨ps.length, false, v, 0, 0⟩ 0 0 0 0 := by rw [begin_one, ht]; rfl
  have hat := c_at ps v
  have hst : stOp (oneSt ⟨ps.length, false, v, 0, 0⟩ 0 0 0 0) [cRow ps] 0 = some ⟨119, 100, -1⟩ := by rw [(stOp_one _ 0 0 0 0 _).1]; exact hat
  have hcan : canStep (oneSt ⟨ps.length, false, v, 0, 0⟩ 0 0 0 0) [cRow ps] 0 = true := by unfold canStep; rw [hst]; rfl
  have hgone : goneTo [cRow ps] 0 (oneSt ⟨ps.length, false, v, 0, 0⟩ 0 0 0 v) = oneSt ⟨ps.length + 1, false, v, 0, 0⟩ 0 0 0 v := by
    have hs : settle (cRow ps) ((cRow ps).length + 1) ⟨ps.length + 1, false, v, 0, 0⟩ = ⟨ps.length + 1, false, v, 0, 0⟩ := settle_none (by unfold opAt; simp only [Bool.false_eq_true, if_false]; exact List.getElem?_eq_none (by rw [cRow_length]; exact Nat.le_refl _)) _
    show (oneSt ⟨ps.length, false, v, 0, 0⟩ 0 0 0 v).setTh 0 (settle (cRow ps) ((cRow ps).length + 1) ⟨ps.length + 1, false, v, 0, 0⟩) = _
    rw [hs]
    rfl
  have hstep : step (oneSt ⟨ps.length, false, v, 0, 0⟩ 0 0 0 0) [cRow ps] 0 = some (oneSt ⟨ps.length + 1, false, v, 0, 0⟩ 0 0 0 v, ⟨0, 119, 100, v, -1, 0⟩) := by
    unfold step
    rw [hst]
    simp only [hcan, if_true]
    show some (goneTo [cRow ps] 0 (oneSt ⟨ps.length, false, v, 0, 0⟩ 0 0 0 v), _) = _
    rw [hgone]
    rfl
  have hfol : follow [cRow ps] (beginTo [cRow ps] 4) [] 0 [0] = some (oneSt ⟨ps.length + 1, false, v, 0, 0⟩ 0 0 0 v, [⟨0, 119, 100, v, -1, 0⟩]) := by
    rw [hb, follow, hstep]
    rfl
  refine ⟨?_, ?_, _, hfol⟩
  · unfold playV
    rw [hb]
    show Value.tuple #[resV (endOf (oneSt ⟨ps.length, false, v, 0, 0⟩ 0 0 0 0) [cRow ps]) 0 0 0 0, .int .i64 0] = _
    have : endOf (oneSt ⟨ps.length, false, v, 0, 0⟩ 0 0 0 0) [cRow ps] = 0 := by
      unfold endOf
      exact endFrom_yes hcan
    rw [this]
  · unfold playV
    rw [hfol]
    show Value.tuple #[resV (endOf (oneSt ⟨ps.length + 1, false, v, 0, 0⟩ 0 0 0 v) [cRow ps]) 0 0 0 v, .int .i64 0] = _
    rw [end_one _ 0 0 0 v _ (by unfold opAt; simp only [Bool.false_eq_true, if_false]; exact List.getElem?_eq_none (by rw [cRow_length]; exact Nat.le_refl _))]
    rfl

end Go.Proofs.Ytfdafcnfefbcbaa
