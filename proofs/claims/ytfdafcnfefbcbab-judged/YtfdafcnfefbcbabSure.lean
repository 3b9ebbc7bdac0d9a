/-
  The contract of sure: DOC.md's first example.
-/
import Derived.Test.YtfdafcnfefbcbabPlay
namespace Go.Proofs.Ytfdafcnfefbcbab
open Go.RowKit
set_option linter.unusedVariables false

/-- DOC.md's first example. -/
def sureText : ByteArray := ⟨#[91, 114, 97, 43, 49, 119, 97, 93, 10, 91, 114, 97, 43, 49, 119, 97, 93]⟩
def sureRow : List Pl.POp := [⟨91, 0, 0⟩, ⟨114, 97, 0⟩, ⟨43, 49, 0⟩, ⟨119, 97, 0⟩, ⟨93, 0, 0⟩]
theorem sure_new : Pl.new (bytesOf sureText) = .inr [sureRow, sureRow] := by kernel_rfl
theorem sure_play1 : playV [sureRow, sureRow] [0, 0, 1, 1] = .tuple #[resV 1 2 0 0 0, .int .i64 0] := by kernel_rfl
theorem sure_play2 : playV [sureRow, sureRow] [0, 1, 0, 1] = .tuple #[resV 1 1 0 0 0, .int .i64 0] := by kernel_rfl

/-- A list of ints that has been laid into a new block. -/
theorem ints_lit {w : World} (ms : List Int) : IntsIn (w.alloc (.cells (intCells ms).toArray 3)) (some ⟨w.heap.size, 0, none⟩) ms := fun _ =>
  ⟨w.heap.size, rfl, by simp, fun i m hm => by
    rw [cell_of_row _ w.heap.size i _ 3 (0, 0) (heap_alloc_new w _)]
    simp [intCells, hm]⟩

set_option maxRecDepth 100000 in
set_option maxHeartbeats 1000000 in
theorem sure_any (w : World) : Calls Try.prog 4 #[] w fun e w' => e = .returned (.bool true) ∧ Below w.heap.size w w' := by
  go_enter Try.func4, Try.ntmps4
  go_wp2_with fail
  refine (new_any sureText _ (by decide)).mono ?_
  rintro e w1 hn
  unfold NewSays at hn
  rw [sure_new] at hn
  obtain ⟨hb1, b, rfl, hp1⟩ := hn
  have hs : Tiny [sureRow, sureRow] := new_tiny (bytesOf_lt _) sure_new
  have HS : Hid _ := hs
  have HP1 : Hid _ := hp1
  clear hp1 hs
  go_wp2_with fail
  refine (play_any [sureRow, sureRow] w.heap.size w1.heap.size b [0, 0, 1, 1] _ _ _ (ProgIn.below HP1.out ((Below.refl _ _).alloc (Nat.le_refl _) _)) HS.out (by simp) (ints_lit [0, 0, 1, 1]) (by decide)).mono ?_
  rintro e w2 ⟨rfl, hb2⟩
  rw [sure_play1]
  unfold resV
  have HB2 : Hid (Below w1.heap.size w1 w2) := ((Below.refl _ _).alloc (Nat.le_refl _) _).trans (hb2.mono (by simp))
  clear hb2
  go_upto_region 5 with fail
  have HB3 : Hid (Below w1.heap.size w1 (w2.alloc (.cells #[.int .u8 1, .int .i16 2, .int .i16 0, .int .i16 0, .int .i16 0] 38))) := HB2.out.alloc HB2.out.size _
  have c0 : (w2.alloc (.cells #[.int .u8 1, .int .i16 2, .int .i16 0, .int .i16 0, .int .i16 0] 38)).cell? ⟨w2.heap.size, 0, none⟩ = some (.int .u8 1) := by simp
  have c1 : (w2.alloc (.cells #[.int .u8 1, .int .i16 2, .int .i16 0, .int .i16 0, .int .i16 0] 38)).cell? ⟨w2.heap.size, 1, none⟩ = some (.int .i16 2) := by simp
  have HZ : Hid ((w2.alloc (.cells #[.int .u8 1, .int .i16 2, .int .i16 0, .int .i16 0, .int .i16 0] 38)).heap.size = w2.heap.size + 1) := by show _ = _; simp
  generalize w2.alloc (.cells #[.int .u8 1, .int .i16 2, .int .i16 0, .int .i16 0, .int .i16 0] 38) = X at *
  go_wp2_with fail
  refine (play_any [sureRow, sureRow] w.heap.size w1.heap.size b [0, 1, 0, 1] _ _ _ (ProgIn.below HP1.out (HB3.out.alloc HB3.out.size _)) HS.out (by have := HB3.out.size; simp; omega) (ints_lit [0, 1, 0, 1]) (by decide)).mono ?_
  rintro e w3 ⟨rfl, hb3⟩
  rw [sure_play2]
  unfold resV
  have HB4 : Hid (Below X.heap.size X w3) := ((Below.refl _ _).alloc (Nat.le_refl _) _).trans (hb3.mono (by simp))
  have lt : w2.heap.size < X.heap.size := by have := HZ.out; omega
  have d0 := (HB4.out.cell (p := ⟨w2.heap.size, 0, none⟩) lt).trans c0
  have d1 := (HB4.out.cell (p := ⟨w2.heap.size, 1, none⟩) lt).trans c1
  have HB5 : Hid (Below w.heap.size w w3) := hb1.trans ((HB3.out.trans (HB4.out.mono HB3.out.size)).mono hb1.size)
  have d0' := fun x => alloc_cell d0 x
  have d1' := fun x => alloc_cell d1 x
  clear hb3 c0 c1
  go_wp2
  go_ret
  exact ⟨rfl, HB5.out.alloc HB5.out.size _⟩

end Go.Proofs.Ytfdafcnfefbcbab
