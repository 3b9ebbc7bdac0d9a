/-
  The contracts of a thread that goes on by itself: operation, countPassed, behindOwn, settled.
-/
import Derived.Test.YtfdafcnfefbcbaaOwn
import Derived.BigQuiet
import Derived.Deep.QuietTactic
namespace Go.Proofs.Ytfdafcnfefbcbaa
open Go.RowKit
set_option linter.unusedVariables false
attribute [local go_sem ↓] Go.wp_at_zero Go.wp_at_succ

/-- How a thread stands. -/
structure Th where
  pos : Nat
  failed : Bool
  reg : Int
  h0 : Nat
  h1 : Nat

def opAt (t : Th) (r : List Pl.POp) : Option Pl.POp := if t.failed then none else r[t.pos]?

/-- All bytes of a row are bytes. -/
def Bytes (r : List Pl.POp) : Prop := ∀ o ∈ r, o.kind < 256 ∧ o.name < 256

set_option maxHeartbeats 1000000 in
theorem operation_none (t : Th) (r : List Pl.POp) (a : Option Addr) (cap lo hi : Nat) (w : World) (hr : RowIn w lo hi a cap r) (hl : r.length ≤ 1000) (h : opAt t r = none) :
    Calls Try.prog 117 #[.agg #[.int .i64 (t.pos : Int), .bool t.failed, .int .i16 t.reg, .int .i64 (t.h0 : Int), .int .i64 (t.h1 : Int)], .slice a r.length cap] w
      fun e w' => e = .returned (.tuple #[.agg #[.int .u8 0, .int .u8 0, .int .i64 0], .bool false]) ∧ Below w.heap.size w w' := by
  obtain ⟨pos, failed, reg, h0, h1⟩ := t
  cases failed
  · have hp : (r.length : Int) ≤ (pos : Int) := by
      simp [opAt] at h; omega
    clear h
    go_enter Try.func117, Try.ntmps117
    go_wp2
    exact bodyPost_ret (v := .tuple #[.agg #[.int .u8 0, .int .u8 0, .int .i64 0], .bool false]) (by simp [results, Try.results117, go_sem]) rfl ⟨rfl, ((Below.refl _ _).alloc (Nat.le_refl _) _).alloc (by simp) _⟩
  · clear h
    go_enter Try.func117, Try.ntmps117
    go_wp2
    exact bodyPost_ret (v := .tuple #[.agg #[.int .u8 0, .int .u8 0, .int .i64 0], .bool false]) (by simp [results, Try.results117, go_sem]) rfl ⟨rfl, ((Below.refl _ _).alloc (Nat.le_refl _) _).alloc (by simp) _⟩

set_option maxHeartbeats 1000000 in
theorem operation_some (t : Th) (r : List Pl.POp) (o : Pl.POp) (a : Option Addr) (cap lo hi : Nat) (w : World) (hr : RowIn w lo hi a cap r) (hl : r.length ≤ 1000) (h : opAt t r = some o) :
    Calls Try.prog 117 #[.agg #[.int .i64 (t.pos : Int), .bool t.failed, .int .i16 t.reg, .int .i64 (t.h0 : Int), .int .i64 (t.h1 : Int)], .slice a r.length cap] w
      fun e w' => e = .returned (.tuple #[.agg #[.int .u8 (o.kind : Int), .int .u8 (o.name : Int), .int .i64 o.block], .bool true]) ∧ Below w.heap.size w w' := by
  obtain ⟨pos, failed, reg, h0, h1⟩ := t
  cases failed
  · have hp : r[pos]? = some o := by simpa [opAt] using h
    have hlt := (List.getElem?_eq_some_iff.1 hp).1
    have q1 : (0 : Int) ≤ (pos : Int) := by omega
    have q2 : (pos : Int) < (r.length : Int) := by omega
    obtain ⟨g, rfl, hg0, hg1, hnc, hcm, hcell, hfz⟩ := owns_cells hr.1 (by omega)
    obtain ⟨x0, x1, x2⟩ := rowCells_at r pos o hp
    have d0 := fun o => alloc_cell (hcell _ _ x0) o
    have d1 := fun o => alloc_cell (hcell _ _ x1) o
    have d2 := fun o => alloc_cell (hcell _ _ x2) o
    have d0' := fun o o' => alloc_cell (d0 o) o'
    have d1' := fun o o' => alloc_cell (d1 o) o'
    have d2' := fun o o' => alloc_cell (d2 o) o'
    clear h hp hcell hfz x0 x1 x2
    go_enter Try.func117, Try.ntmps117
    go_wp2
    refine bodyPost_ret (v := .tuple #[.agg #[.int .u8 (o.kind : Int), .int .u8 (o.name : Int), .int .i64 o.block], .bool true]) (by simp [results, Try.results117, go_sem]) rfl ⟨rfl, ?_⟩
    exact ((Below.refl _ _).alloc (Nat.le_refl _) _).alloc (by simp) _
  · simp [opAt] at h

/-- How many operations are passed over. -/
def passed : List Pl.POp → Nat → Nat
  | _, 0 => 0
  | [], _ + 1 => 0
  | o :: r, n + 1 => if isBound o.kind then 0 else passed r n + 1

theorem passed_le : ∀ (r : List Pl.POp) (n : Nat), passed r n ≤ r.length ∧ passed r n ≤ n
  | _, 0 => by simp [passed]
  | [], n + 1 => by simp [passed]
  | o :: r, n + 1 => by
    have := passed_le r n
    unfold passed
    split
    · simp
    · simp; omega

theorem passed_zero (r : List Pl.POp) : passed r 0 = 0 := by cases r <;> rfl
theorem passed_end (n : Nat) : passed [] n = 0 := by cases n <;> rfl

set_option maxHeartbeats 1000000 in
theorem countPassed_any (r : List Pl.POp) (a : Option Addr) (cap lo hi f n : Nat) (w : World) (hr : RowIn w lo hi a cap r) (hh : hi ≤ w.heap.size) (hl : r.length ≤ 1000) (hf : f ≤ 2000) (hn : n ≤ 9) :
    Calls Try.prog 124 #[.slice a r.length cap, .int .i64 (f : Int), .int .i64 (n : Int)] w
      fun e w' => e = .returned (.int .i64 (passed (r.drop f) n : Int)) ∧ Below w.heap.size w w' := by
  go_enter Try.func124, Try.ntmps124
  go_wp2
  go_loopw [7, 8] (fun ct t wr => ∃ c : Nat, c ≤ n ∧ t = .int .i64 ((f + c : Nat) : Int) ∧ ct = .int .i64 (c : Int) ∧ Below w.heap.size w wr ∧ Hid (passed (r.drop f) n = c + passed (r.drop (f + c)) (n - c))) (fun ct _ _ => n - (intOf ct).toNat)
  case atStart => exact ⟨0, Nat.zero_le _, rfl, rfl, Below.refl _ _, by simp [Hid]⟩
  case round =>
    obtain ⟨c, hc, rfl, rfl, hb, HH⟩ := hrel
    have q0 : (0 : Int) ≤ ((f + c : Nat) : Int) := by omega
    by_cases h1 : f + c < r.length
    · have q1 : ((f + c : Nat) : Int) < (r.length : Int) := by omega
      by_cases h2 : c < n
      · have q2 : (c : Int) < (n : Int) := by omega
        obtain ⟨g, rfl, hg0, hg1, hnc, hcm, hcell, hfz⟩ := owns_cells hr.1 (by omega)
        obtain ⟨x0, x1, x2⟩ := rowCells_at r (f + c) r[f + c] (by simp [h1])
        have d0 := (hb.cell (p := ⟨g, (f + c) * 3, none⟩) hg1).trans (hcell _ _ x0)
        have d1 := (hb.cell (p := ⟨g, (f + c) * 3 + 1, none⟩) hg1).trans (hcell _ _ x1)
        have d2 := (hb.cell (p := ⟨g, (f + c) * 3 + 2, none⟩) hg1).trans (hcell _ _ x2)
        clear hcell hfz x0 x1 x2
        have HS : Hid (passed (r.drop (f + c)) (n - c) = if isBound r[f + c].kind then 0 else passed (r.drop (f + c + 1)) (n - (c + 1)) + 1) := by
          show passed (r.drop (f + c)) (n - c) = _
          rw [List.drop_eq_getElem_cons h1, show n - c = (n - (c + 1)) + 1 by omega]; rfl
        generalize r[f + c] = o at *
        generalize hfc : f + c = fc at *
        have HFC : Hid _ := hfc
        clear hfc
        cases hbd : isBound o.kind
        · rw [hbd] at HS
          go_wp2_with (go_at_call 128; refine (isBound_any _ _ _ _).mono ?_; rintro e w1 ⟨rfl, hw1⟩)
          go_roundw
          case rel => exact ⟨c + 1, by omega, by have := HFC.out; go_num, by go_num, hb.trans (hw1.mono hb.size), HH.out.trans (by rw [HS.out, show f + (c + 1) = fc + 1 by have := HFC.out; omega]; simp; omega)⟩
          case measure => simp [intOf]; omega
        · rw [hbd] at HS
          go_wp2_with (go_at_call 128; refine (isBound_any _ _ _ _).mono ?_; rintro e w1 ⟨rfl, hw1⟩)
          go_ret
          exact ⟨ret_int (by rw [HH.out, HS.out]; simp), hb.trans (hw1.mono hb.size)⟩
      · have q2 : (n : Int) ≤ (c : Int) := by omega
        go_wp2
        go_ret
        exact ⟨ret_int (by rw [HH.out, show n - c = 0 by omega, passed_zero]; simp), hb⟩
    · have q1 : (r.length : Int) ≤ ((f + c : Nat) : Int) := by omega
      have e : Hid (r.drop (f + c) = []) := List.drop_eq_nil_of_le (by omega)
      go_wp2
      go_ret
      exact ⟨ret_int (by rw [HH.out, e.out, passed_end]; simp), hb⟩

end Go.Proofs.Ytfdafcnfefbcbaa
