/-
 Several texts of ours in one: Own, Settle.
-/
import Derived.Test.YtfdafcnfefbcbabGreatNew
import Derived.BigQuiet
import Derived.Deep.QuietTactic
/-
 The contracts of the program's operations that are not shared.
-/
namespace Go.Proofs.YtfdafcnfefbcbabGreat
open Go.RowKit
set_option linter.unusedVariables false
set_option maxHeartbeats 1000000

theorem bcell {W w1 : World} (hb : Below W.heap.size W w1) : (∀ b o, b < W.heap.size → w1.cell? ⟨b, o, none⟩ = W.cell? ⟨b, o, none⟩) ∧ (∀ b o, b < W.heap.size → w1.frozen? ⟨b, o, none⟩ = W.frozen? ⟨b, o, none⟩) :=
 ⟨fun b o h => hb.cell (p := ⟨b, o, none⟩) h, fun b o h => hb.frozen (p := ⟨b, o, none⟩) h⟩

/-- The number that stands in an operation. -/
def digitOf (n : Nat) : Nat := if n < 48 ∨ 57 < n then 0 else n - 48

theorem digitOf_le (n : Nat) : digitOf n ≤ 9 := by unfold digitOf; split <;> omega

theorem digit_any (k n : Nat) (b : Int) (w : World) (hn : n < 256) : Calls Tryz.prog 103 #[.agg #[.int .u8 (k : Int), .int .u8 (n : Int), .int .i64 b]] w fun e w' => e = .returned (.int .i64 (digitOf n : Int)) ∧ Below w.heap.size w w' := by
 by_cases h : n < 48 ∨ 57 < n
 ·have e : (digitOf n : Int) = 0 := by unfold digitOf; rw [if_pos h]; rfl
  rw [e]
  go_enter Tryz.func103, Tryz.ntmps103
  go_wp2
  all_goals go_ret
  all_goals exact ⟨rfl, (Below.refl _ _).alloc (Nat.le_refl _) _⟩
 ·have e : (digitOf n : Int) = (n : Int) - 48 := by unfold digitOf; rw [if_neg h]; omega
  rw [e]
  have h1 : (48 : Int) ≤ n := by omega
  have h2 : (n : Int) ≤ 57 := by omega
  clear h e
  go_enter Tryz.func103, Tryz.ntmps103
  go_wp2
  all_goals go_ret
  all_goals exact ⟨rfl, (Below.refl _ _).alloc (Nat.le_refl _) _⟩

/-- A register behind an operation of kind k with the digit d. -/
def reck (k : Nat) (x : Int) (d : Nat) : Int :=
 if k = 43 then IntKind.i16.wrap (x + d)
 else if k = 45 then IntKind.i16.wrap (x - d)
 else if k = 42 then IntKind.i16.wrap (x * d)
 else if k = 94 then bits BinOp.xor IntKind.i16 x d
 else if k = 60 then IntKind.i16.wrap (x * 2 ^ d)
 else x

theorem reckoned_any (x : Int) (k n : Nat) (b : Int) (w : World) (hn : n < 256) : Calls Tryz.prog 104 #[.int .i16 x, .agg #[.int .u8 (k : Int), .int .u8 (n : Int), .int .i64 b]] w fun e w' => e = .returned (.int .i16 (reck k x (digitOf n))) ∧ Below w.heap.size w w' := by
 have hd9 := digitOf_le n
 go_enter Tryz.func104, Tryz.ntmps104
 go_wp2_with (go_at_call 103; refine (digit_any _ _ _ _ hn).mono ?_; rintro e w1 ⟨rfl, hb1⟩; obtain ⟨hc1, hf1⟩ := bcell hb1)
 all_goals go_ret
 all_goals refine ⟨ret_int ?_, ((Below.refl _ _).alloc (Nat.le_refl _) _).trans (hb1.mono (by simp))⟩
 all_goals (simp only [beq_iff_eq, beq_eq_false_iff_ne] at *)
 all_goals unfold reck
 all_goals repeat (first | rfl | rw [if_pos (by omega)] | rw [if_neg (by omega)])

def isBound (k : Nat) : Bool := k == 91 || k == 93

theorem isBound_any (k n : Nat) (b : Int) (w : World) : Calls Tryz.prog 107 #[.agg #[.int .u8 (k : Int), .int .u8 (n : Int), .int .i64 b]] w fun e w' => e = .returned (.bool (isBound k)) ∧ Below w.heap.size w w' := by
 by_cases h1 : k = 91
 ·subst h1
  go_enter Tryz.func107, Tryz.ntmps107
  go_wp2
  go_ret
  exact ⟨rfl, (Below.refl _ _).alloc (Nat.le_refl _) _⟩
 ·have e1 : ((k : Int) == 91) = false := by simp; omega
  have e2 : Hid (isBound k = ((k : Int) == 93)) := by
   show isBound k = _
   unfold isBound; rw [show (k == 91) = false by simpa using h1, Bool.false_or, ← nat_beq]; rfl
  go_enter Tryz.func107, Tryz.ntmps107
  go_wp2
  go_ret
  exact ⟨ret_bool e2.out.symm, (Below.refl _ _).alloc (Nat.le_refl _) _⟩

def varOf (n : Nat) : Nat := if n = 98 then 1 else if n = 99 then 2 else if n = 100 then 3 else 0
def lockOf (n : Nat) : Nat := if n = 81 then 1 else 0

theorem variable_any (k n : Nat) (b : Int) (w : World) : Calls Tryz.prog 96 #[.agg #[.int .u8 (k : Int), .int .u8 (n : Int), .int .i64 b]] w fun e w' => e = .returned (.int .i64 (varOf n : Int)) ∧ Below w.heap.size w w' := by
 go_enter Tryz.func96, Tryz.ntmps96
 go_wp2
 all_goals go_ret
 all_goals refine ⟨ret_int ?_, (Below.refl _ _).alloc (Nat.le_refl _) _⟩
 all_goals (simp only [beq_iff_eq, beq_eq_false_iff_ne] at *)
 all_goals unfold varOf
 all_goals repeat (first | rfl | rw [if_pos (by omega)] | rw [if_neg (by omega)])

theorem lock_any (k n : Nat) (b : Int) (w : World) : Calls Tryz.prog 95 #[.agg #[.int .u8 (k : Int), .int .u8 (n : Int), .int .i64 b]] w fun e w' => e = .returned (.int .i64 (lockOf n : Int)) ∧ Below w.heap.size w w' := by
 go_enter Tryz.func95, Tryz.ntmps95
 go_wp2
 all_goals go_ret
 all_goals refine ⟨ret_int ?_, (Below.refl _ _).alloc (Nat.le_refl _) _⟩
 all_goals (simp only [beq_iff_eq, beq_eq_false_iff_ne] at *)
 all_goals unfold lockOf
 all_goals repeat (first | rfl | rw [if_pos (by omega)] | rw [if_neg (by omega)])

/-- A row behind a value, in blocks from lo up to hi. -/
def RowIn (w : World) (lo hi : Nat) (a : Option Addr) (cap : Nat) (r : List Pl.POp) : Prop := OwnsIn w lo hi 165 3 (.slice a r.length cap) r.length (rowCells r)

theorem RowIn.below {w w' : World} {lo hi : Nat} {a : Option Addr} {cap : Nat} {r : List Pl.POp} (h : RowIn w lo hi a cap r) (hb : Below hi w w') : RowIn w' lo hi a cap r := OwnsIn.below h hb

/-- The row of a thread; of a number that is no thread's: none. -/
def rowOf (p : List (List Pl.POp)) (m : Int) : List Pl.POp := if m < 0 then [] else (p[m.toNat]?).getD []

theorem thread_any (p : List (List Pl.POp)) (a : Option Addr) (cap lo hi : Nat) (m : Int) (w : World) (hr : RowsIn w lo hi (.slice a p.length cap) p) (hh : hi ≤ w.heap.size) (hp : p.length ≤ 1000) :
  Calls Tryz.prog 76 #[.agg #[.slice a p.length cap], .int .i64 m] w fun e w' => (∃ b c, e = .returned (.slice b (rowOf p m).length c) ∧ RowIn w' lo hi b c (rowOf p m)) ∧ Below w.heap.size w w' := by
 obtain ⟨vs, ho, hrows⟩ := hr
 have hb : Below w.heap.size w (w.alloc (.cells #[.slice a p.length cap] 71)) := (Below.refl _ _).alloc (Nat.le_refl _) _
 by_cases h0 : m < 0
 ·have e : rowOf p m = [] := by unfold rowOf; rw [if_pos h0]
  rw [e]
  clear hrows
  go_enter Tryz.func76, Tryz.ntmps76
  go_wp2
  go_ret
  exact ⟨⟨none, 0, rfl, World.ownsRow_nil _ _ _ _, by simp [Value.ownBlock]⟩, hb⟩
 ·obtain ⟨i, rfl⟩ := Int.eq_ofNat_of_zero_le (show 0 ≤ m by omega)
  by_cases hi' : i < p.length
  ·have e : rowOf p i = p[i] := by unfold rowOf; rw [if_neg (by omega)]; simp [hi']
   rw [e]
   obtain ⟨g, rfl, hg0, hg1, hnc, hcm, hcell, hfz⟩ := owns_cells ho.1 (by omega)
   obtain ⟨u, hu, hou⟩ := hrows i p[i] (by simp [hi'])
   obtain ⟨b, capr, hv⟩ := owns_form hou.1
   subst hv
   have c0 := hcell i _ hu
   have c1 := fun o => alloc_cell c0 o
   have HO : Hid (RowIn w lo hi b capr p[i]) := hou
   clear hrows hcell e hou
   have q1 : (0 : Int) ≤ (i : Int) := by omega
   have q2 : (i : Int) < (p.length : Int) := by omega
   go_enter Tryz.func76, Tryz.ntmps76
   go_wp2
   go_ret
   exact ⟨⟨b, capr, rfl, HO.out.below (hb.mono hh)⟩, hb⟩
  ·have e : rowOf p i = [] := by unfold rowOf; rw [if_neg (by omega)]; simp [show p.length ≤ i by omega]
   rw [e]
   clear hrows
   have q1 : (0 : Int) ≤ (i : Int) := by omega
   have q2 : (p.length : Int) ≤ (i : Int) := by omega
   go_enter Tryz.func76, Tryz.ntmps76
   go_wp2
   go_ret
   exact ⟨⟨none, 0, rfl, World.ownsRow_nil _ _ _ _, by simp [Value.ownBlock]⟩, hb⟩

attribute [local go_sem ↓] Go.wp_at_zero Go.wp_at_succ

/-- How a thread stands. -/
structure Th where
 pos : Nat
 failed : Bool
 reg : Int
 h0 : Nat
 h1 : Nat

def opAt (t : Th) (r : List Pl.POp) : Option Pl.POp := if t.failed then none else r[t.pos]?

/-- All bytes of a row are bytes. -/
def Bytes (r : List Pl.POp) : Prop := ∀ o ∈ r, o.kind < 256 ∧ o.name < 256

theorem operation_none (t : Th) (r : List Pl.POp) (a : Option Addr) (cap lo hi : Nat) (w : World) (hr : RowIn w lo hi a cap r) (hl : r.length ≤ 1000) (h : opAt t r = none) :
  Calls Tryz.prog 92 #[.agg #[.int .i64 (t.pos : Int), .bool t.failed, .int .i16 t.reg, .int .i64 (t.h0 : Int), .int .i64 (t.h1 : Int)], .slice a r.length cap] w
   fun e w' => e = .returned (.tuple #[.agg #[.int .u8 0, .int .u8 0, .int .i64 0], .bool false]) ∧ Below w.heap.size w w' := by
 obtain ⟨pos, failed, reg, h0, h1⟩ := t
 cases failed
 ·have hp : (r.length : Int) ≤ (pos : Int) := by
   simp [opAt] at h; omega
  clear h
  go_enter Tryz.func92, Tryz.ntmps92
  go_wp2
  exact bodyPost_ret (v := .tuple #[.agg #[.int .u8 0, .int .u8 0, .int .i64 0], .bool false]) (by simp [results, Tryz.results92, go_sem]) rfl ⟨rfl, ((Below.refl _ _).alloc (Nat.le_refl _) _).alloc (by simp) _⟩
 ·clear h
  go_enter Tryz.func92, Tryz.ntmps92
  go_wp2
  exact bodyPost_ret (v := .tuple #[.agg #[.int .u8 0, .int .u8 0, .int .i64 0], .bool false]) (by simp [results, Tryz.results92, go_sem]) rfl ⟨rfl, ((Below.refl _ _).alloc (Nat.le_refl _) _).alloc (by simp) _⟩

theorem operation_some (t : Th) (r : List Pl.POp) (o : Pl.POp) (a : Option Addr) (cap lo hi : Nat) (w : World) (hr : RowIn w lo hi a cap r) (hl : r.length ≤ 1000) (h : opAt t r = some o) :
  Calls Tryz.prog 92 #[.agg #[.int .i64 (t.pos : Int), .bool t.failed, .int .i16 t.reg, .int .i64 (t.h0 : Int), .int .i64 (t.h1 : Int)], .slice a r.length cap] w
   fun e w' => e = .returned (.tuple #[.agg #[.int .u8 (o.kind : Int), .int .u8 (o.name : Int), .int .i64 o.block], .bool true]) ∧ Below w.heap.size w w' := by
 obtain ⟨pos, failed, reg, h0, h1⟩ := t
 cases failed
 ·have hp : r[pos]? = some o := by simpa [opAt] using h
  have hlt := (List.getElem?_eq_some_iff.1 hp).1
  have q1 : (0 : Int) ≤ (pos : Int) := by omega
  have q2 : (pos : Int) < (r.length : Int) := by omega
  obtain ⟨g, rfl, hg0, hg1, hnc, hcm, hcell, hfz⟩ := owns_cells hr.1 (by omega)
  obtain ⟨x0, x1, x2⟩ := rowCells_at r pos o hp
  have d0 := fun o => alloc_cell (hcell _ _ x0) o
  have d1 := fun o => alloc_cell (hcell _ _ x1) o
  have d2 := fun o => alloc_cell (hcell _ _ x2) o
  have d0' := fun o o' => alloc_cell (d0 o) o'
  have d1' := fun o o' => alloc_cell (d1 o) o'
  have d2' := fun o o' => alloc_cell (d2 o) o'
  clear h hp hcell hfz x0 x1 x2
  go_enter Tryz.func92, Tryz.ntmps92
  go_wp2
  refine bodyPost_ret (v := .tuple #[.agg #[.int .u8 (o.kind : Int), .int .u8 (o.name : Int), .int .i64 o.block], .bool true]) (by simp [results, Tryz.results92, go_sem]) rfl ⟨rfl, ?_⟩
  exact ((Below.refl _ _).alloc (Nat.le_refl _) _).alloc (by simp) _
 ·simp [opAt] at h

/-- How many operations are passed over. -/
def passed : List Pl.POp → Nat → Nat
 | _, 0 => 0
 | [], _ + 1 => 0
 | o :: r, n + 1 => if isBound o.kind then 0 else passed r n + 1

theorem passed_le : ∀ (r : List Pl.POp) (n : Nat), passed r n ≤ r.length ∧ passed r n ≤ n
 | _, 0 => by simp [passed]
 | [], n + 1 => by simp [passed]
 | o :: r, n + 1 => by
  have := passed_le r n
  unfold passed
  split
  ·simp
  ·simp; omega

theorem passed_zero (r : List Pl.POp) : passed r 0 = 0 := by cases r <;> rfl
theorem passed_end (n : Nat) : passed [] n = 0 := by cases n <;> rfl

theorem countPassed_any (r : List Pl.POp) (a : Option Addr) (cap lo hi f n : Nat) (w : World) (hr : RowIn w lo hi a cap r) (hh : hi ≤ w.heap.size) (hl : r.length ≤ 1000) (hf : f ≤ 2000) (hn : n ≤ 9) :
  Calls Tryz.prog 102 #[.slice a r.length cap, .int .i64 (f : Int), .int .i64 (n : Int)] w
   fun e w' => e = .returned (.int .i64 (passed (r.drop f) n : Int)) ∧ Below w.heap.size w w' := by
 go_enter Tryz.func102, Tryz.ntmps102
 go_wp2
 go_loopw [7, 8] (fun ct t wr => ∃ c : Nat, c ≤ n ∧ t = .int .i64 ((f + c : Nat) : Int) ∧ ct = .int .i64 (c : Int) ∧ Below w.heap.size w wr ∧ Hid (passed (r.drop f) n = c + passed (r.drop (f + c)) (n - c))) (fun ct _ _ => n - (intOf ct).toNat)
 case atStart => exact ⟨0, Nat.zero_le _, rfl, rfl, Below.refl _ _, by simp [Hid]⟩
 case round =>
  obtain ⟨c, hc, rfl, rfl, hb, HH⟩ := hrel
  have q0 : (0 : Int) ≤ ((f + c : Nat) : Int) := by omega
  by_cases h1 : f + c < r.length
  ·have q1 : ((f + c : Nat) : Int) < (r.length : Int) := by omega
   by_cases h2 : c < n
   ·have q2 : (c : Int) < (n : Int) := by omega
    obtain ⟨g, rfl, hg0, hg1, hnc, hcm, hcell, hfz⟩ := owns_cells hr.1 (by omega)
    obtain ⟨x0, x1, x2⟩ := rowCells_at r (f + c) r[f + c] (by simp [h1])
    have d0 := (hb.cell (p := ⟨g, (f + c) * 3, none⟩) hg1).trans (hcell _ _ x0)
    have d1 := (hb.cell (p := ⟨g, (f + c) * 3 + 1, none⟩) hg1).trans (hcell _ _ x1)
    have d2 := (hb.cell (p := ⟨g, (f + c) * 3 + 2, none⟩) hg1).trans (hcell _ _ x2)
    clear hcell hfz x0 x1 x2
    have HS : Hid (passed (r.drop (f + c)) (n - c) = if isBound r[f + c].kind then 0 else passed (r.drop (f + c + 1)) (n - (c + 1)) + 1) := by
     show passed (r.drop (f + c)) (n - c) = _
     rw [List.drop_eq_getElem_cons h1, show n - c = (n - (c + 1)) + 1 by omega]; rfl
    generalize r[f + c] = o at *
    generalize hfc : f + c = fc at *
    have HFC : Hid _ := hfc
    clear hfc
    cases hbd : isBound o.kind
    ·rw [hbd] at HS
     go_wp2_with (go_at_call 107; refine (isBound_any _ _ _ _).mono ?_; rintro e w1 ⟨rfl, hw1⟩)
     go_roundw
     case rel => exact ⟨c + 1, by omega, by have := HFC.out; go_num, by go_num, hb.trans (hw1.mono hb.size), HH.out.trans (by rw [HS.out, show f + (c + 1) = fc + 1 by have := HFC.out; omega]; simp; omega)⟩
     case measure => simp [intOf]; omega
    ·rw [hbd] at HS
     go_wp2_with (go_at_call 107; refine (isBound_any _ _ _ _).mono ?_; rintro e w1 ⟨rfl, hw1⟩)
     go_ret
     exact ⟨ret_int (by rw [HH.out, HS.out]; simp), hb.trans (hw1.mono hb.size)⟩
   ·have q2 : (n : Int) ≤ (c : Int) := by omega
    go_wp2
    go_ret
    exact ⟨ret_int (by rw [HH.out, show n - c = 0 by omega, passed_zero]; simp), hb⟩
  ·have q1 : (r.length : Int) ≤ ((f + c : Nat) : Int) := by omega
   have e : Hid (r.drop (f + c) = []) := List.drop_eq_nil_of_le (by omega)
   go_wp2
   go_ret
   exact ⟨ret_int (by rw [HH.out, e.out, passed_end]; simp), hb⟩

end Go.Proofs.YtfdafcnfefbcbabGreat
