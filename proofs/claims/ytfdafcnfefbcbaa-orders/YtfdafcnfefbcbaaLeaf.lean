/-
  The contracts of the small functions that only reckon: package code's and package interleaveref's.
-/
import Derived.Test.YtfdafcnfefbcbaaRows
import Derived.Test.YtfdafcnfefbcbaaPlain
import Derived.WalkKit
import Derived.WalkLawsBesides
import Derived.Outline
namespace Go.Proofs.Ytfdafcnfefbcbaa
open Go.RowKit
set_option linter.unusedVariables false

theorem ret_bool {a b : Bool} (h : a = b) : Ending.returned (.bool a) = .returned (.bool b) := by rw [h]
theorem ret_int {k : IntKind} {a b : Int} (h : a = b) : Ending.returned (.int k a) = .returned (.int k b) := by rw [h]
theorem ret_string {a b : ByteArray} (h : a = b) : Ending.returned (.string a) = .returned (.string b) := by rw [h]

theorem takesName_any (k : Nat) (w : World) : Calls Try.prog 74 #[.int .u8 (k : Int)] w fun e w' => e = .returned (.bool (Pl.takesName k)) ∧ w' = w := by
  go_enter Try.func74, Try.ntmps74
  go_wp2
  all_goals go_ret
  all_goals refine ⟨ret_bool ?_, rfl⟩
  all_goals (simp only [beq_iff_eq, beq_eq_false_iff_ne] at *; simp [Pl.takesName]; omega)

theorem isShared_any (k n : Nat) (b : Int) (w : World) : Calls Try.prog 78 #[.agg #[.int .u8 (k : Int), .int .u8 (n : Int), .int .i64 b]] w fun e w' => e = .returned (.bool (Pl.isShared k)) ∧ Below w.heap.size w w' := by
  go_enter Try.func78, Try.ntmps78
  go_wp2
  all_goals go_ret
  all_goals refine ⟨ret_bool ?_, (Below.refl _ _).alloc (Nat.le_refl _) _⟩
  all_goals (simp only [beq_iff_eq, beq_eq_false_iff_ne] at *; simp [Pl.isShared]; omega)

theorem nat_beq (k m : Nat) : ((k : Int) == (m : Int)) = (k == m) := by
  rw [Bool.eq_iff_iff]; simp; omega

theorem isName_any (k n : Nat) (w : World) : Calls Try.prog 75 #[.int .u8 (k : Int), .int .u8 (n : Int)] w fun e w' => e = .returned (.bool (Pl.isName k n)) ∧ w' = w := by
  go_enter Try.func75, Try.ntmps75
  go_wp2
  all_goals go_ret
  all_goals refine ⟨ret_bool ?_, rfl⟩
  all_goals (rw [Bool.eq_iff_iff])
  all_goals (simp [Pl.isName] at *)
  all_goals first | omega | (repeat' split) <;> first | omega | (simp; omega)

theorem num_any (x : Int) (w : World) (h0 : -9223372036854775808 ≤ x) (h1 : x ≤ 9223372036854775807) : Calls Try.prog 47 #[.int .i64 x] w fun e w' => e = .returned (.int .i64 x) ∧ w' = w := by
  go_enter Try.func47, Try.ntmps47
  go_wp2
  go_ret
  exact ⟨rfl, rfl⟩

/-- The second bytes that an operation can have. -/
def wantsB (k : Nat) : ByteArray :=
  if k == 114 || k == 119 then ⟨#[97, 98, 99, 100]⟩
  else if k == 108 || k == 117 then ⟨#[80, 81]⟩
  else if k == 43 || k == 45 || k == 42 || k == 94 || k == 60 then ⟨#[48, 49, 50, 51, 52, 53, 54, 55, 56, 57]⟩
  else if k == 63 then ⟨#[49, 50, 51, 52, 53, 54, 55, 56, 57]⟩
  else ⟨#[]⟩

theorem wants_any (k : Nat) (w : World) : Calls Try.prog 100 #[.int .u8 (k : Int)] w fun e w' => e = .returned (.string (wantsB k)) ∧ w' = w := by
  go_enter Try.func100, Try.ntmps100
  go_wp2
  all_goals go_ret
  all_goals refine ⟨ret_string ?_, rfl⟩
  all_goals (simp only [beq_iff_eq, beq_eq_false_iff_ne] at *)
  all_goals unfold wantsB
  all_goals repeat (first | rfl | rw [if_pos (by simp; omega)] | rw [if_neg (by simp; omega)])

def amongB (c : Nat) (s : ByteArray) : Bool := s.data.toList.any fun b => b.toNat == c

theorem amongTo_succ (c : Nat) (s : ByteArray) (k : Nat) (h : k < s.size) (h0 : (s.data.toList.take k).any (fun b => b.toNat == c) = false) :
    (s.data.toList.take (k + 1)).any (fun b => b.toNat == c) = (s[k].toNat == c) := by
  rw [List.take_succ_eq_append_getElem (by simpa using h), List.any_append, h0]
  simp; rfl

theorem among_any (c : Nat) (s : ByteArray) (w : World) (hs : s.size ≤ maxLen) : Calls Try.prog 72 #[.int .u8 (c : Int), .string s] w fun e w' => e = .returned (.bool (amongB c s)) ∧ w' = w := by
  unfold maxLen at hs
  go_enter Try.func72, Try.ntmps72
  go_wp2
  go_loop [5] (fun i => ∃ k : Nat, k ≤ s.size ∧ i = .int .i64 k ∧ Hid ((s.data.toList.take k).any (fun b => b.toNat == c) = false)) (fun i => s.size - (intOf i).toNat)
  case atStart => exact ⟨0, Nat.zero_le _, rfl, rfl⟩
  case round =>
    obtain ⟨k, hk, rfl, hh⟩ := hrel
    by_cases hlt : k < s.size
    · have hsn : Hid _ := amongTo_succ c s k hlt hh.out
      go_wp2
      · go_ret
        refine ⟨ret_bool ?_, rfl⟩
        have e : (s[k].toNat == c) = true := by rw [← nat_beq]; assumption
        have h2 := hsn.out
        rw [e] at h2
        unfold amongB
        rw [← List.take_append_drop (k + 1) s.data.toList, List.any_append, h2]; rfl
      · go_round
        case rel => exact ⟨k + 1, by omega, by go_num, by
          have e : (s[k].toNat == c) = false := by rw [← nat_beq]; assumption
          exact hsn.out.trans e⟩
        case measure => simp [intOf]; omega
    · go_wp2
      go_ret
      refine ⟨ret_bool ?_, rfl⟩
      have h2 := hh.out
      rw [List.take_of_length_le (by simp; omega)] at h2
      exact h2.symm

end Go.Proofs.Ytfdafcnfefbcbaa
