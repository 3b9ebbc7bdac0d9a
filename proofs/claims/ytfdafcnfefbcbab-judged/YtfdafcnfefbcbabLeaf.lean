/-
  The contracts of the small functions that only reckon: package code's and package interleaveref's.
-/
import Derived.Test.YtfdafcnfefbcbabRows
import Derived.Test.YtfdafcnfefbcbabPlain
import Derived.WalkKit
import Derived.WalkLawsBesides
import Derived.Outline
namespace Go.Proofs.Ytfdafcnfefbcbab
open Go.RowKit
set_option linter.unusedVariables false

theorem ret_bool {a b : Bool} (h : a = b) : Ending.returned (.bool a) = .returned (.bool b) := by rw [h]
theorem ret_int {k : IntKind} {a b : Int} (h : a = b) : Ending.returned (.int k a) = .returned (.int k b) := by rw [h]
theorem ret_string {a b : ByteArray} (h : a = b) : Ending.returned (.string a) = .returned (.string b) := by rw [h]

theorem takesName_any (k : Nat) (w : World) : Calls Try.prog 42 #[.int .u8 (k : Int)] w fun e w' => e = .returned (.bool (Pl.takesName k)) ∧ w' = w := by
  go_enter Try.func42, Try.ntmps42
  go_wp2
  all_goals go_ret
  all_goals refine ⟨ret_bool ?_, rfl⟩
  all_goals (simp only [beq_iff_eq, beq_eq_false_iff_ne] at *; simp [Pl.takesName]; omega)

theorem isShared_any (k n : Nat) (b : Int) (w : World) : Calls Try.prog 46 #[.agg #[.int .u8 (k : Int), .int .u8 (n : Int), .int .i64 b]] w fun e w' => e = .returned (.bool (Pl.isShared k)) ∧ Below w.heap.size w w' := by
  go_enter Try.func46, Try.ntmps46
  go_wp2
  all_goals go_ret
  all_goals refine ⟨ret_bool ?_, (Below.refl _ _).alloc (Nat.le_refl _) _⟩
  all_goals (simp only [beq_iff_eq, beq_eq_false_iff_ne] at *; simp [Pl.isShared]; omega)

theorem nat_beq (k m : Nat) : ((k : Int) == (m : Int)) = (k == m) := by
  rw [Bool.eq_iff_iff]; simp; omega

theorem isName_any (k n : Nat) (w : World) : Calls Try.prog 43 #[.int .u8 (k : Int), .int .u8 (n : Int)] w fun e w' => e = .returned (.bool (Pl.isName k n)) ∧ w' = w := by
  go_enter Try.func43, Try.ntmps43
  go_wp2
  all_goals go_ret
  all_goals refine ⟨ret_bool ?_, rfl⟩
  all_goals (rw [Bool.eq_iff_iff])
  all_goals (simp [Pl.isName] at *)
  all_goals first | omega | (repeat' split) <;> first | omega | (simp; omega)

/-- The second bytes that an operation can have. -/
def wantsB (k : Nat) : ByteArray :=
  if k == 114 || k == 119 then ⟨#[97, 98, 99, 100]⟩
  else if k == 108 || k == 117 then ⟨#[80, 81]⟩
  else if k == 43 || k == 45 || k == 42 || k == 94 || k == 60 then ⟨#[48, 49, 50, 51, 52, 53, 54, 55, 56, 57]⟩
  else if k == 63 then ⟨#[49, 50, 51, 52, 53, 54, 55, 56, 57]⟩
  else ⟨#[]⟩

def amongB (c : Nat) (s : ByteArray) : Bool := s.data.toList.any fun b => b.toNat == c

theorem amongTo_succ (c : Nat) (s : ByteArray) (k : Nat) (h : k < s.size) (h0 : (s.data.toList.take k).any (fun b => b.toNat == c) = false) :
    (s.data.toList.take (k + 1)).any (fun b => b.toNat == c) = (s[k].toNat == c) := by
  rw [List.take_succ_eq_append_getElem (by simpa using h), List.any_append, h0]
  simp; rfl

end Go.Proofs.Ytfdafcnfefbcbab
