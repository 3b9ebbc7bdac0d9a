/-
  The contract of pick, and what New answers, in short.
-/
import Derived.Test.YtfdafcnfefbcbabSure
import Derived.Test.YtfdafcnfefbcbabSpellPl
namespace Go.Proofs.Ytfdafcnfefbcbab
open Go.RowKit
set_option linter.unusedVariables false

def pickOf (c n : Int) : Int := (if c < 0 then -(c + 1) else c) % n

theorem pickOf_lt (c n : Int) (hn : 0 < n) : 0 ≤ pickOf c n ∧ pickOf c n < n := ⟨Int.emod_nonneg _ (by omega), Int.emod_lt_of_pos _ hn⟩

set_option maxRecDepth 100000 in
theorem pick_any (c n : Int) (w : World) (hc : -9223372036854775808 ≤ c ∧ c ≤ 9223372036854775807) (hn : 0 < n) (hn2 : n ≤ 9223372036854775807) : Calls Try.prog 26 #[.int .i64 c, .int .i64 n] w fun e w' => e = .returned (.int .i64 (pickOf c n)) ∧ w' = w := by
  obtain ⟨hc1, hc2⟩ := hc
  have hne : (n == 0) = false := by simp; omega
  by_cases h : c < 0
  · have e1 : Hid (pickOf c n = (-(c + 1)) % n) := by show _ = _; unfold pickOf; rw [if_pos h]
    have hw : IntKind.i64.wrap (c + 1) = c + 1 := by simp [IntKind.wrap, IntKind.bits, IntKind.signed]; omega
    have hw2 : IntKind.i64.wrap (-(c + 1)) = -(c + 1) := by simp [IntKind.wrap, IntKind.bits, IntKind.signed]; omega
    go_enter Try.func26, Try.ntmps26
    go_wp2
    go_ret
    exact ⟨ret_int (by rw [e1.out, ← Int.tmod_eq_emod_of_nonneg (by omega), Int.neg_tmod]), rfl⟩
  · have e1 : Hid (pickOf c n = c % n) := by show _ = _; unfold pickOf; rw [if_neg h]
    go_enter Try.func26, Try.ntmps26
    go_wp2
    go_ret
    exact ⟨ret_int e1.out.symm, rfl⟩

/-- New's error and place. -/
def errOf : Sum (Nat × Nat) (List (List Pl.POp)) → Nat
  | .inl (k, _) => k
  | .inr _ => 0
def atOf : Sum (Nat × Nat) (List (List Pl.POp)) → Nat
  | .inl (_, n) => n
  | .inr _ => 0

theorem new_cases (s : List Nat) (h : s.length ≤ 100) : (∃ n : Nat, Pl.place false 1 0 0 s = (n : Int) ∧ Pl.new s = .inl (2, n)) ∨ (Pl.place false 1 0 0 s = -1 ∧ (Pl.new s = .inl (3, 0) ∨ ∃ p, Pl.new s = .inr p)) := by
  have hb := Pl.place_bound s false 1 0 0
  rcases Pl.new_ref s with ⟨e, n, h1, h2⟩ | ⟨p, h1, h2⟩
  · unfold Pl.refNew at h2
    rw [if_neg (by omega)] at h2
    split at h2
    · simp at h2
      obtain ⟨rfl, h3⟩ := h2
      exact .inl ⟨n, h3, h1⟩
    · split at h2
      · simp at h2
        obtain ⟨rfl, h3⟩ := h2
        have : n = 0 := by omega
        subst this
        exact .inr ⟨by omega, .inl h1⟩
      · cases h2
  · unfold Pl.refNew at h2
    rw [if_neg (by omega)] at h2
    split at h2
    · cases h2
    · exact .inr ⟨by omega, .inr ⟨p, h1⟩⟩

theorem new_long (s : List Nat) (h : 100 < s.length) : Pl.new s = .inl (1, 0) := by unfold Pl.new; rw [if_pos h]

theorem new_of_place {s : List Nat} {n : Nat} (h : s.length ≤ 100) (hp : Pl.place false 1 0 0 s = (n : Int)) : Pl.new s = .inl (2, n) := by
  rcases new_cases s h with ⟨m, h1, h2⟩ | ⟨h1, -⟩
  · rw [hp] at h1; have : n = m := by omega
    subst this; exact h2
  · omega

/-- What New answers of a text that is a program text or ends too early. -/
theorem new_early {s : List Nat} {n : Nat} (h : s.length ≤ 100) (hp : Pl.place false 1 0 0 s = -1 ∨ Pl.place false 1 0 0 s = (n : Int)) : Pl.new s = .inl (2, n) ∨ Pl.new s = .inl (3, 0) ∨ ∃ p, Pl.new s = .inr p := by
  rcases new_cases s h with ⟨m, h1, h2⟩ | ⟨h1, h2⟩
  · rcases hp with hp | hp
    · omega
    · have : n = m := by omega
      subst this; exact .inl h2
  · exact .inr h2

theorem bytesOf_take (s : ByteArray) (n : Nat) : bytesOf (s.extract 0 n) = (bytesOf s).take n := by
  unfold bytesOf
  simp [ByteArray.data_extract]
theorem bytesOf_append (s t : ByteArray) : bytesOf (s ++ t) = bytesOf s ++ bytesOf t := by
  unfold bytesOf
  simp [ByteArray.data_append]

end Go.Proofs.Ytfdafcnfefbcbab
