/-
  The contracts of the program's operations that are not shared.
-/
import Derived.Test.YtfdafcnfefbcbaaNew
namespace Go.Proofs.Ytfdafcnfefbcbaa
open Go.RowKit
set_option linter.unusedVariables false

theorem bcell {W w1 : World} (hb : Below W.heap.size W w1) : (∀ b o, b < W.heap.size → w1.cell? ⟨b, o, none⟩ = W.cell? ⟨b, o, none⟩) ∧ (∀ b o, b < W.heap.size → w1.frozen? ⟨b, o, none⟩ = W.frozen? ⟨b, o, none⟩) :=
  ⟨fun b o h => hb.cell (p := ⟨b, o, none⟩) h, fun b o h => hb.frozen (p := ⟨b, o, none⟩) h⟩

/-- The number that stands in an operation. -/
def digitOf (n : Nat) : Nat := if n < 48 ∨ 57 < n then 0 else n - 48

theorem digitOf_le (n : Nat) : digitOf n ≤ 9 := by unfold digitOf; split <;> omega

theorem digit_any (k n : Nat) (b : Int) (w : World) (hn : n < 256) : Calls Try.prog 125 #[.agg #[.int .u8 (k : Int), .int .u8 (n : Int), .int .i64 b]] w fun e w' => e = .returned (.int .i64 (digitOf n : Int)) ∧ Below w.heap.size w w' := by
  by_cases h : n < 48 ∨ 57 < n
  · have e : (digitOf n : Int) = 0 := by unfold digitOf; rw [if_pos h]; rfl
    rw [e]
    go_enter Try.func125, Try.ntmps125
    go_wp2
    all_goals go_ret
    all_goals exact ⟨rfl, (Below.refl _ _).alloc (Nat.le_refl _) _⟩
  · have e : (digitOf n : Int) = (n : Int) - 48 := by unfold digitOf; rw [if_neg h]; omega
    rw [e]
    have h1 : (48 : Int) ≤ n := by omega
    have h2 : (n : Int) ≤ 57 := by omega
    clear h e
    go_enter Try.func125, Try.ntmps125
    go_wp2
    all_goals go_ret
    all_goals exact ⟨rfl, (Below.refl _ _).alloc (Nat.le_refl _) _⟩

/-- A register behind an operation of kind k with the digit d. -/
def reck (k : Nat) (x : Int) (d : Nat) : Int :=
  if k = 43 then IntKind.i16.wrap (x + d)
  else if k = 45 then IntKind.i16.wrap (x - d)
  else if k = 42 then IntKind.i16.wrap (x * d)
  else if k = 94 then bits BinOp.xor IntKind.i16 x d
  else if k = 60 then IntKind.i16.wrap (x * 2 ^ d)
  else x

theorem reckoned_any (x : Int) (k n : Nat) (b : Int) (w : World) (hn : n < 256) : Calls Try.prog 126 #[.int .i16 x, .agg #[.int .u8 (k : Int), .int .u8 (n : Int), .int .i64 b]] w fun e w' => e = .returned (.int .i16 (reck k x (digitOf n))) ∧ Below w.heap.size w w' := by
  have hd9 := digitOf_le n
  go_enter Try.func126, Try.ntmps126
  go_wp2_with (go_at_call 125; refine (digit_any _ _ _ _ hn).mono ?_; rintro e w1 ⟨rfl, hb1⟩; obtain ⟨hc1, hf1⟩ := bcell hb1)
  all_goals go_ret
  all_goals refine ⟨ret_int ?_, ((Below.refl _ _).alloc (Nat.le_refl _) _).trans (hb1.mono (by simp))⟩
  all_goals (simp only [beq_iff_eq, beq_eq_false_iff_ne] at *)
  all_goals unfold reck
  all_goals repeat (first | rfl | rw [if_pos (by omega)] | rw [if_neg (by omega)])

def isBound (k : Nat) : Bool := k == 91 || k == 93

theorem isBound_any (k n : Nat) (b : Int) (w : World) : Calls Try.prog 128 #[.agg #[.int .u8 (k : Int), .int .u8 (n : Int), .int .i64 b]] w fun e w' => e = .returned (.bool (isBound k)) ∧ Below w.heap.size w w' := by
  by_cases h1 : k = 91
  · subst h1
    go_enter Try.func128, Try.ntmps128
    go_wp2
    go_ret
    exact ⟨rfl, (Below.refl _ _).alloc (Nat.le_refl _) _⟩
  · have e1 : ((k : Int) == 91) = false := by simp; omega
    have e2 : Hid (isBound k = ((k : Int) == 93)) := by
      show isBound k = _
      unfold isBound; rw [show (k == 91) = false by simpa using h1, Bool.false_or, ← nat_beq]; rfl
    go_enter Try.func128, Try.ntmps128
    go_wp2
    go_ret
    exact ⟨ret_bool e2.out.symm, (Below.refl _ _).alloc (Nat.le_refl _) _⟩

def varOf (n : Nat) : Nat := if n = 98 then 1 else if n = 99 then 2 else if n = 100 then 3 else 0
def lockOf (n : Nat) : Nat := if n = 81 then 1 else 0

theorem variable_any (k n : Nat) (b : Int) (w : World) : Calls Try.prog 119 #[.agg #[.int .u8 (k : Int), .int .u8 (n : Int), .int .i64 b]] w fun e w' => e = .returned (.int .i64 (varOf n : Int)) ∧ Below w.heap.size w w' := by
  go_enter Try.func119, Try.ntmps119
  go_wp2
  all_goals go_ret
  all_goals refine ⟨ret_int ?_, (Below.refl _ _).alloc (Nat.le_refl _) _⟩
  all_goals (simp only [beq_iff_eq, beq_eq_false_iff_ne] at *)
  all_goals unfold varOf
  all_goals repeat (first | rfl | rw [if_pos (by omega)] | rw [if_neg (by omega)])

theorem lock_any (k n : Nat) (b : Int) (w : World) : Calls Try.prog 107 #[.agg #[.int .u8 (k : Int), .int .u8 (n : Int), .int .i64 b]] w fun e w' => e = .returned (.int .i64 (lockOf n : Int)) ∧ Below w.heap.size w w' := by
  go_enter Try.func107, Try.ntmps107
  go_wp2
  all_goals go_ret
  all_goals refine ⟨ret_int ?_, (Below.refl _ _).alloc (Nat.le_refl _) _⟩
  all_goals (simp only [beq_iff_eq, beq_eq_false_iff_ne] at *)
  all_goals unfold lockOf
  all_goals repeat (first | rfl | rw [if_pos (by omega)] | rw [if_neg (by omega)])

/-- A row behind a value, in blocks from lo up to hi. -/
def RowIn (w : World) (lo hi : Nat) (a : Option Addr) (cap : Nat) (r : List Pl.POp) : Prop := OwnsIn w lo hi 141 3 (.slice a r.length cap) r.length (rowCells r)

theorem RowIn.below {w w' : World} {lo hi : Nat} {a : Option Addr} {cap : Nat} {r : List Pl.POp} (h : RowIn w lo hi a cap r) (hb : Below hi w w') : RowIn w' lo hi a cap r := OwnsIn.below h hb

/-- The row of a thread; of a number that is no thread's: none. -/
def rowOf (p : List (List Pl.POp)) (m : Int) : List Pl.POp := if m < 0 then [] else (p[m.toNat]?).getD []

theorem thread_any (p : List (List Pl.POp)) (a : Option Addr) (cap lo hi : Nat) (m : Int) (w : World) (hr : RowsIn w lo hi (.slice a p.length cap) p) (hh : hi ≤ w.heap.size) (hp : p.length ≤ 1000) :
    Calls Try.prog 102 #[.agg #[.slice a p.length cap], .int .i64 m] w fun e w' => (∃ b c, e = .returned (.slice b (rowOf p m).length c) ∧ RowIn w' lo hi b c (rowOf p m)) ∧ Below w.heap.size w w' := by
  obtain ⟨vs, ho, hrows⟩ := hr
  have hb : Below w.heap.size w (w.alloc (.cells #[.slice a p.length cap] 101)) := (Below.refl _ _).alloc (Nat.le_refl _) _
  by_cases h0 : m < 0
  · have e : rowOf p m = [] := by unfold rowOf; rw [if_pos h0]
    rw [e]
    clear hrows
    go_enter Try.func102, Try.ntmps102
    go_wp2
    go_ret
    exact ⟨⟨none, 0, rfl, World.ownsRow_nil _ _ _ _, by simp [Value.ownBlock]⟩, hb⟩
  · obtain ⟨i, rfl⟩ := Int.eq_ofNat_of_zero_le (show 0 ≤ m by omega)
    by_cases hi' : i < p.length
    · have e : rowOf p i = p[i] := by unfold rowOf; rw [if_neg (by omega)]; simp [hi']
      rw [e]
      obtain ⟨g, rfl, hg0, hg1, hnc, hcm, hcell, hfz⟩ := owns_cells ho.1 (by omega)
      obtain ⟨u, hu, hou⟩ := hrows i p[i] (by simp [hi'])
      obtain ⟨b, capr, hv⟩ := owns_form hou.1
      subst hv
      have c0 := hcell i _ hu
      have c1 := fun o => alloc_cell c0 o
      have HO : Hid (RowIn w lo hi b capr p[i]) := hou
      clear hrows hcell e hou
      have q1 : (0 : Int) ≤ (i : Int) := by omega
      have q2 : (i : Int) < (p.length : Int) := by omega
      go_enter Try.func102, Try.ntmps102
      go_wp2
      go_ret
      exact ⟨⟨b, capr, rfl, HO.out.below (hb.mono hh)⟩, hb⟩
    · have e : rowOf p i = [] := by unfold rowOf; rw [if_neg (by omega)]; simp [show p.length ≤ i by omega]
      rw [e]
      clear hrows
      have q1 : (0 : Int) ≤ (i : Int) := by omega
      have q2 : (p.length : Int) ≤ (i : Int) := by omega
      go_enter Try.func102, Try.ntmps102
      go_wp2
      go_ret
      exact ⟨⟨none, 0, rfl, World.ownsRow_nil _ _ _ _, by simp [Value.ownBlock]⟩, hb⟩

end Go.Proofs.Ytfdafcnfefbcbaa
