/-
  One step in plain terms, and what keeps from step to step.
-/
import Derived.Test.YtfdafcnfefbcbaaStep2
import Derived.Test.YtfdafcnfefbcbaaBegin
namespace Go.Proofs.Ytfdafcnfefbcbaa
open Go.RowKit
set_option linter.unusedVariables false

/-- A thread between steps: its place lies in its row, it holds no more than it has gone, and it stands at a shared operation or at none. -/
structure ThOk (r : List Pl.POp) (t : Th) : Prop where
  pos : t.pos ≤ r.length
  holds : t.h0 + t.h1 ≤ t.pos
  stands : ∀ o, opAt t r = some o → Pl.isShared o.kind = true

def StOk (S : St) (p : List (List Pl.POp)) : Prop := ∀ n : Nat, n < 4 → ThOk (rowOf p n) (S.th n)

theorem ownStep_holds (t : Th) (r : List Pl.POp) (o : Pl.POp) : (ownStep t r o).h0 = t.h0 ∧ (ownStep t r o).h1 = t.h1 := by
  unfold ownStep
  repeat' split
  all_goals exact ⟨rfl, rfl⟩

theorem settle_ok (r : List Pl.POp) : ∀ (k : Nat) (t : Th), t.pos ≤ r.length → t.h0 + t.h1 ≤ t.pos → r.length + 1 - t.pos ≤ k → ThOk r (settle r k t)
  | 0, t, h1, _, h3 => by omega
  | k + 1, t, h1, h2, h3 => by
    cases h : opAt t r with
    | none => rw [settle_none h]; exact ⟨h1, h2, fun o ho => by rw [h] at ho; cases ho⟩
    | some o =>
      cases hs : Pl.isShared o.kind with
      | true => rw [settle_shared h hs]; exact ⟨h1, h2, fun o' ho => by rw [h] at ho; cases ho; exact hs⟩
      | false =>
        rw [settle_own h hs]
        have hp := ownStep_pos (o := o) (opAt_lt h).1
        have hh := ownStep_holds t r o
        exact settle_ok r k _ hp.2 (by omega) (by omega)

theorem th_setTh (S : St) (n : Nat) (t : Th) (hn : n < 4) (m : Nat) (hm : m < 4) : (S.setTh n t).th m = if m = n then t else S.th m := by
  have h1 : n = 0 ∨ n = 1 ∨ n = 2 ∨ n = 3 := by omega
  have h2 : m = 0 ∨ m = 1 ∨ m = 2 ∨ m = 3 := by omega
  rcases h1 with rfl | rfl | rfl | rfl <;> rcases h2 with rfl | rfl | rfl | rfl <;> rfl
theorem th_setVar (S : St) (v : Nat) (x : Int) (m : Nat) : (S.setVar v x).th m = S.th m := by
  unfold St.setVar
  split <;> (unfold St.th; split <;> rfl)

theorem held_le (t : Th) (l : Nat) (hl : l = 0 ∨ l = 1) (x : Nat) : (t.withHeld l x).pos = t.pos ∧ (t.withHeld l x).failed = t.failed ∧ (t.withHeld l x).h0 + (t.withHeld l x).h1 + t.held l = t.h0 + t.h1 + x := by
  rcases hl with rfl | rfl <;> simp [Th.withHeld, Th.held] <;> omega

theorem shared_th (S : St) (n : Nat) (o : Pl.POp) (hn : n < 4) : ((shared S n o).1.th n).pos = (S.th n).pos ∧ ((shared S n o).1.th n).h0 + ((shared S n o).1.th n).h1 ≤ (S.th n).h0 + (S.th n).h1 + 1 ∧ ∀ m, m < 4 → m ≠ n → (shared S n o).1.th m = S.th m := by
  have hl := lockOf_two o.name
  unfold shared
  split
  · simp only [th_setTh _ _ _ hn _ hn, if_true]
    exact ⟨trivial, by omega, fun m hm hne => by rw [th_setTh _ _ _ hn _ hm, if_neg hne]⟩
  split
  · simp only [th_setTh _ _ _ hn _ hn, if_true]
    exact ⟨trivial, by omega, fun m hm hne => by rw [th_setTh _ _ _ hn _ hm, if_neg hne, th_setVar]⟩
  split
  · simp only [th_setTh _ _ _ hn _ hn, if_true]
    have := held_le (S.th n) _ hl ((S.th n).held (lockOf o.name) + 1)
    exact ⟨this.1, by omega, fun m hm hne => by rw [th_setTh _ _ _ hn _ hm, if_neg hne]⟩
  split
  · simp only [th_setTh _ _ _ hn _ hn, if_true]
    have := held_le (S.th n) _ hl ((S.th n).held (lockOf o.name) - 1)
    exact ⟨this.1, by omega, fun m hm hne => by rw [th_setTh _ _ _ hn _ hm, if_neg hne]⟩
  · simp only [th_setTh _ _ _ hn _ hn, if_true]
    exact ⟨trivial, by omega, fun m hm hne => by rw [th_setTh _ _ _ hn _ hm, if_neg hne]⟩

/-- The thread behind its step, and the state. -/
def goneTo (p : List (List Pl.POp)) (n : Nat) (S1 : St) : St :=
  S1.setTh n (settle (rowOf p n) ((rowOf p n).length + 1) ⟨(S1.th n).pos + 1, (S1.th n).failed, (S1.th n).reg, (S1.th n).h0, (S1.th n).h1⟩)

/-- A step of thread m: none if it cannot. -/
def step (S : St) (p : List (List Pl.POp)) (m : Int) : Option (St × Ev) :=
  match stOp S p m with
  | none => none
  | some o => if canStep S p m then some (goneTo p m.toNat (shared S m.toNat o).1, ⟨m, o.kind, o.name, (shared S m.toNat o).2, o.block, 0⟩) else none

theorem stOp_some {S : St} {p : List (List Pl.POp)} {m : Int} {o : Pl.POp} (h : stOp S p m = some o) : ∃ n : Nat, m = (n : Int) ∧ n < 4 ∧ opAt (S.th n) (rowOf p n) = some o := by
  unfold stOp at h
  split at h
  · cases h
  · refine ⟨m.toNat, by omega, by omega, ?_⟩
    rw [show ((m.toNat : Nat) : Int) = m by omega]; exact h

theorem step_ok {S S' : St} {p : List (List Pl.POp)} {m : Int} {e : Ev} (hS : StOk S p) (h : step S p m = some (S', e)) : StOk S' p := by
  unfold step at h
  split at h
  · cases h
  · rename_i o ho
    split at h
    · obtain ⟨n, rfl, hn, hop⟩ := stOp_some ho
      simp only [Option.some.injEq, Prod.mk.injEq] at h
      obtain ⟨rfl, -⟩ := h
      intro j hj
      have ht := shared_th S n o hn
      have hk := hS n hn
      have hlt := (opAt_lt hop).1
      unfold goneTo
      simp only [Int.toNat_natCast]
      rw [th_setTh _ _ _ hn _ hj]
      by_cases hjn : j = n
      · subst hjn
        rw [if_pos rfl]
        have := hk.holds
        exact settle_ok _ _ _ (by simp only; omega) (by simp only; omega) (by simp only; omega)
      · rw [if_neg hjn, ht.2.2 j hj hjn]; exact hS j hj
    · cases h

theorem begin_ok (p : List (List Pl.POp)) : StOk (beginTo p 4) p := by
  intro n hn
  have e : (beginTo p 4).th n = settle (rowOf p n) ((rowOf p n).length + 1) th0 := by
    have h2 : n = 0 ∨ n = 1 ∨ n = 2 ∨ n = 3 := by omega
    rcases h2 with rfl | rfl | rfl | rfl <;> rfl
  rw [e]
  exact settle_ok _ _ _ (Nat.zero_le _) (Nat.le_refl _) (by simp [th0])

def stepV (x : Option (St × Ev)) : Value := match x with
  | none => .tuple #[.agg (stL st0).toArray, evZ, .bool false]
  | some (S', e) => .tuple #[.agg (stL S').toArray, .agg e.cells.toArray, .bool true]

theorem step_any (S : St) (p : List (List Pl.POp)) (a : Option Addr) (cap lo hi : Nat) (m : Int) (w : World) (hp : ProgOk w lo hi a cap p) (hS : StOk S p) :
    Calls Try.prog 85 #[.agg (stL S).toArray, .agg #[.slice a p.length cap], .int .i64 m] w
      fun e w' => e = .returned (stepV (step S p m)) ∧ Below w.heap.size w w' := by
  unfold step
  cases ho : stOp S p m with
  | none =>
    have hc : canStep S p m = false := by unfold canStep; rw [ho]
    exact step_no S p a cap lo hi m w hp hc
  | some o =>
    obtain ⟨n, rfl, hn, hop⟩ := stOp_some ho
    cases hc : canStep S p (n : Int) with
    | false => simp only [Bool.false_eq_true, if_false]; exact step_no S p a cap lo hi _ w hp hc
    | true =>
      simp only [if_true, Int.toNat_natCast]
      have hk := hS n hn
      have ht := shared_th S n o hn
      have hlt := (opAt_lt hop).1
      have hle := (hp.row n).1
      have := hk.holds
      have hpos := hk.pos
      exact step_yes S p a cap lo hi n o w hp hn hc ho (hk.stands o hop) ⟨by omega, by omega⟩ (shared S n o).1 (shared S n o).2 rfl (by have := ht.1; omega) _ rfl

end Go.Proofs.Ytfdafcnfefbcbaa
