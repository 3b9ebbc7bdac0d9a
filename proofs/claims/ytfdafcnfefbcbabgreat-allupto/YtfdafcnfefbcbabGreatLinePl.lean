/-
 Plain: runs step by step; no run has more steps than the program has shared operations.
-/
import Derived.Test.YtfdafcnfefbcbabGreatCal
namespace Go.Proofs.YtfdafcnfefbcbabGreat
open Go.RowKit
set_option linter.unusedVariables false

theorem follow_append (p : List (List Pl.POp)) : ∀ (ms : List Int) (S : St) (es : List Ev) (g : Nat) (S1 : St) (es1 : List Ev), follow p S es g ms = some (S1, es1) → ∃ g1, ∀ ms', follow p S es g (ms ++ ms') = follow p S1 es1 g1 ms'
 | [], S, es, g, S1, es1, h => by
  simp only [follow, Option.some.injEq, Prod.mk.injEq] at h
  obtain ⟨rfl, rfl⟩ := h
  exact ⟨g, fun _ => rfl⟩
 | m :: ms, S, es, g, S1, es1, h => by
  rw [follow] at h
  cases hs : step S p m with
  | none => rw [hs] at h; cases h
  | some x =>
   obtain ⟨S', e⟩ := x
   rw [hs] at h
   obtain ⟨g1, h1⟩ := follow_append p ms _ _ _ _ _ h
   exact ⟨g1, fun ms' => by rw [List.cons_append, follow, hs]; exact h1 ms'⟩

/-- Behind one step more. -/
theorem follow_snoc {p : List (List Pl.POp)} {ms : List Int} {S1 : St} {es1 : List Ev} (h : follow p (beginTo p 4) [] 0 ms = some (S1, es1)) (m : Int) :
  (step S1 p m = none → follow p (beginTo p 4) [] 0 (ms ++ [m]) = none) ∧
  (∀ S2 e, step S1 p m = some (S2, e) → ∃ gr, follow p (beginTo p 4) [] 0 (ms ++ [m]) = some (S2, es1 ++ [⟨e.thread, e.kind, e.name, e.value, e.block, gr⟩])) := by
 obtain ⟨g1, h1⟩ := follow_append p ms _ _ _ _ _ h
 refine ⟨fun hs => ?_, fun S2 e hs => ?_⟩
 ·rw [h1, follow, hs]
 ·rw [h1, follow, hs]
  exact ⟨_, rfl⟩

theorem step_iff (S : St) (p : List (List Pl.POp)) (m : Int) : (step S p m).isSome = canStep S p m := by
 unfold step
 cases ho : stOp S p m with
 | none => unfold canStep; rw [ho]; rfl
 | some o => cases hc : canStep S p m <;> simp

/-- The shared operations that are still ahead. -/
def remTh (p : List (List Pl.POp)) (S : St) (n : Nat) : Nat := Pl.sharedOf ((rowOf p n).drop (S.th n).pos)
def remS (p : List (List Pl.POp)) (S : St) : Nat := remTh p S 0 + remTh p S 1 + remTh p S 2 + remTh p S 3

theorem shared_drop (r : List Pl.POp) (i j : Nat) (h : i ≤ j) : Pl.sharedOf (r.drop j) ≤ Pl.sharedOf (r.drop i) := by
 obtain ⟨k, rfl⟩ : ∃ k, j = i + k := ⟨j - i, by omega⟩
 rw [← List.drop_drop]
 unfold Pl.sharedOf
 exact List.Sublist.length_le (List.Sublist.filter _ (List.drop_sublist _ _))

theorem shared_at {r : List Pl.POp} {i : Nat} {o : Pl.POp} (h : r[i]? = some o) (hs : Pl.isShared o.kind = true) : Pl.sharedOf (r.drop (i + 1)) + 1 = Pl.sharedOf (r.drop i) := by
 obtain ⟨hi, rfl⟩ := List.getElem?_eq_some_iff.1 h
 rw [List.drop_eq_getElem_cons hi]
 unfold Pl.sharedOf
 rw [List.filter_cons_of_pos (by simpa using hs)]
 rfl

theorem opAt_at {r : List Pl.POp} {t : Th} {o : Pl.POp} (h : opAt t r = some o) : r[t.pos]? = some o := by
 unfold opAt at h
 split at h
 ·cases h
 ·exact h

theorem step_rem {S S' : St} {p : List (List Pl.POp)} {m : Int} {e : Ev} (hS : StOk S p) (h : step S p m = some (S', e)) : remS p S' + 1 ≤ remS p S := by
 unfold step at h
 split at h
 ·cases h
 ·rename_i o ho
  split at h
  ·obtain ⟨n, rfl, hn, hop⟩ := stOp_some ho
   simp only [Option.some.injEq, Prod.mk.injEq, Int.toNat_natCast] at h
   obtain ⟨rfl, -⟩ := h
   obtain ⟨h1, -, h3⟩ := shared_th S n o hn
   have hat := shared_at (opAt_at hop) ((hS n hn).stands o hop)
   have hp := settle_pos (rowOf p n) ((rowOf p n).length + 1) ⟨((shared S n o).1.th n).pos + 1, ((shared S n o).1.th n).failed, ((shared S n o).1.th n).reg, ((shared S n o).1.th n).h0, ((shared S n o).1.th n).h1⟩
   simp only [h1] at hp
   have hd := shared_drop (rowOf p n) _ _ hp
   have hself : remTh p (goneTo p n (shared S n o).1) n + 1 ≤ remTh p S n := by
    unfold remTh goneTo
    rw [th_setTh _ _ _ hn n hn, if_pos rfl, h1]
    omega
   have hoth : ∀ k, k < 4 → k ≠ n → remTh p (goneTo p n (shared S n o).1) k = remTh p S k := fun k hk hne => by
    unfold remTh goneTo
    rw [th_setTh _ _ _ hn k hk, if_neg hne, h3 k hk hne]
   unfold remS
   have hh : n = 0 ∨ n = 1 ∨ n = 2 ∨ n = 3 := by omega
   rcases hh with rfl | rfl | rfl | rfl
   ·rw [hoth 1 (by omega) (by omega), hoth 2 (by omega) (by omega), hoth 3 (by omega) (by omega)]; omega
   ·rw [hoth 0 (by omega) (by omega), hoth 2 (by omega) (by omega), hoth 3 (by omega) (by omega)]; omega
   ·rw [hoth 0 (by omega) (by omega), hoth 1 (by omega) (by omega), hoth 3 (by omega) (by omega)]; omega
   ·rw [hoth 0 (by omega) (by omega), hoth 1 (by omega) (by omega), hoth 2 (by omega) (by omega)]; omega
  ·cases h

theorem rem_count (p : List (List Pl.POp)) (S : St) : remS p S ≤ Pl.countShared p := by
 have h1 : ∀ n, remTh p S n ≤ Pl.sharedOf (rowOf p (n : Int)) := fun n => by
  have := shared_drop (rowOf p n) 0 (S.th n).pos (Nat.zero_le _)
  rw [List.drop_zero] at this
  exact this
 have h2 : Pl.sharedOf (rowOf p ((0 : Nat) : Int)) + Pl.sharedOf (rowOf p ((1 : Nat) : Int)) + Pl.sharedOf (rowOf p ((2 : Nat) : Int)) + Pl.sharedOf (rowOf p ((3 : Nat) : Int)) ≤ Pl.countShared p := by
  have e0 : Pl.sharedOf [] = 0 := rfl
  match p with
  | [] => simp [rowOf, e0]
  | [a] => simp [rowOf, Pl.countShared, e0]
  | [a, b] => simp [rowOf, Pl.countShared, e0]
  | [a, b, c] => simp [rowOf, Pl.countShared, e0]; omega
  | a :: b :: c :: d :: r => simp [rowOf, Pl.countShared]; omega
 have a0 := h1 0
 have a1 := h1 1
 have a2 := h1 2
 have a3 := h1 3
 unfold remS
 omega

/-- What keeps along a run. -/
theorem follow_inv (p : List (List Pl.POp)) : ∀ (ms : List Int) (S : St) (es : List Ev) (g : Nat) (S1 : St) (es1 : List Ev), StOk S p → follow p S es g ms = some (S1, es1) → StOk S1 p ∧ es1.length = es.length + ms.length ∧ ms.length + remS p S1 ≤ remS p S
 | [], S, es, g, S1, es1, hS, h => by
  simp only [follow, Option.some.injEq, Prod.mk.injEq] at h
  obtain ⟨rfl, rfl⟩ := h
  exact ⟨hS, by simp, by simp⟩
 | m :: ms, S, es, g, S1, es1, hS, h => by
  rw [follow] at h
  cases hs : step S p m with
  | none => rw [hs] at h; cases h
  | some x =>
   obtain ⟨S', e⟩ := x
   rw [hs] at h
   obtain ⟨a, b, c⟩ := follow_inv p ms _ _ _ _ _ (step_ok hS hs) h
   have := step_rem hS hs
   exact ⟨a, by rw [b]; simp; omega, by simp; omega⟩

theorem follow_len {p : List (List Pl.POp)} {ms : List Int} {S1 : St} {es1 : List Ev} (h : follow p (beginTo p 4) [] 0 ms = some (S1, es1)) : StOk S1 p ∧ es1.length = ms.length ∧ ms.length + remS p S1 ≤ Pl.countShared p := by
 obtain ⟨a, b, c⟩ := follow_inv p ms _ _ _ _ _ (begin_ok p) h
 have := rem_count p (beginTo p 4)
 exact ⟨a, by simpa using b, by omega⟩

theorem new_count {s : List Nat} {p : List (List Pl.POp)} (h : Pl.new s = .inr p) : Pl.countShared p ≤ 10 := by
 unfold Pl.new at h
 split at h
 ·cases h
 ·split at h
  ·cases h
  ·split at h
   ·cases h
   ·simp at h
    subst h
    omega

/-! The threads that can step. -/

theorem mem_ready (S : St) (p : List (List Pl.POp)) (m : Int) : ∀ k, m ∈ readyTo S p k ↔ canStep S p m = true ∧ 0 ≤ m ∧ m < k
 | 0 => by
  constructor
  ·intro h; simp [readyTo] at h
  ·rintro ⟨-, a, b⟩; omega
 | k + 1 => by
  have ih := mem_ready S p m k
  unfold readyTo
  split
  ·rename_i hc
   rw [List.mem_append, ih, List.mem_singleton]
   constructor
   ·rintro (⟨a, b, c⟩ | rfl)
    ·exact ⟨a, b, by omega⟩
    ·exact ⟨hc, by omega, by omega⟩
   ·rintro ⟨a, b, c⟩
    by_cases hm : m = (k : Int)
    ·exact .inr hm
    ·exact .inl ⟨a, b, by omega⟩
  ·rename_i hc
   rw [ih]
   constructor
   ·rintro ⟨a, b, c⟩; exact ⟨a, b, by omega⟩
   ·rintro ⟨a, b, c⟩
    refine ⟨a, b, ?_⟩
    by_cases hm : m = (k : Int)
    ·subst hm; exact absurd a hc
    ·omega

theorem can_bound {S : St} {p : List (List Pl.POp)} {m : Int} (h : canStep S p m = true) : 0 ≤ m ∧ m < 4 ∧ m < p.length := by
 unfold canStep at h
 cases ho : stOp S p m with
 | none => rw [ho] at h; cases h
 | some o =>
  obtain ⟨n, rfl, hn, hop⟩ := stOp_some ho
  refine ⟨by omega, by omega, ?_⟩
  have hlt := (opAt_lt hop).1
  have : (rowOf p (n : Int)) ≠ [] := fun e => by rw [e] at hlt; simp at hlt
  unfold rowOf at this
  rw [if_neg (by omega)] at this
  simp only [Int.toNat_natCast] at this
  have h2 : n < p.length := by
   rcases Nat.lt_or_ge n p.length with h' | h'
   ·exact h'
   ·rw [List.getElem?_eq_none h'] at this; exact absurd rfl this
  omega

theorem mem_ready4 (S : St) (p : List (List Pl.POp)) (m : Int) : m ∈ readyTo S p 4 ↔ canStep S p m = true := by
 rw [mem_ready]
 exact ⟨fun h => h.1, fun h => by have := can_bound h; exact ⟨h, this.1, by omega⟩⟩

end Go.Proofs.YtfdafcnfefbcbabGreat
