/-
  The law Spelled: its walk.
-/
import Derived.Test.YtfdafcnfefbcbaaPick
namespace Go.Proofs.Ytfdafcnfefbcbaa
open Go.RowKit
set_option linter.unusedVariables false

/-- What any New answers, whatever the text. -/
theorem newSays_form {w w' : World} {r : Sum (Nat × Nat) (List (List Pl.POp))} {e : Ending} (h : NewSays w r e w') : ∃ v : Option Addr, e = .returned (.tuple #[.pointer v, .int .i64 (errOf r : Int), .int .i64 (atOf r : Int)]) := by
  obtain ⟨-, h2⟩ := h
  match r, h2 with
  | .inl (k, n), h2 => exact ⟨none, h2⟩
  | .inr p, h2 => obtain ⟨b, h3, -⟩ := h2; exact ⟨some ⟨b, 0, none⟩, h3⟩

theorem newSays_err {w w' : World} {k n : Nat} {e : Ending} (h : NewSays w (.inl (k, n)) e w') : e = .returned (.tuple #[.pointer none, .int .i64 (k : Int), .int .i64 (n : Int)]) := h.2
theorem newSays_ok {w w' : World} {p : List (List Pl.POp)} {e : Ending} (h : NewSays w (.inr p) e w') : ∃ b, e = .returned (.tuple #[.pointer (some ⟨b, 0, none⟩), .int .i64 0, .int .i64 0]) := by
  obtain ⟨-, b, h3, -⟩ := h; exact ⟨b, h3⟩

set_option maxRecDepth 100000 in
set_option maxHeartbeats 1000000 in
theorem spelled_long (s o : ByteArray) (cut : Int) (w : World) (hs : s.size ≤ 140737488351232) (hl : 100 < s.size) :
    Calls Try.prog 4 #[.string s, .string o, .int .i64 cut] w fun e w' => e = .returned (.bool true) ∧ Below w.heap.size w w' := by
  have hl' : (100 : Int) < (s.size : Int) := by omega
  go_enter Try.func4, Try.ntmps4
  go_wp2_with fail
  refine (sure_any _).mono ?_
  rintro e w1 ⟨rfl, hb1⟩
  go_wp2_with fail
  refine (new_any s _ (by unfold maxLen; omega)).mono ?_
  rintro e w2 hn
  have hb2 := hb1.trans (hn.1.mono hb1.size)
  rw [new_long _ (by rw [bytesOf_length]; exact hl)] at hn
  have he := newSays_err hn
  subst he
  go_wp2
  go_ret
  exact ⟨rfl, hb2⟩

set_option maxRecDepth 100000 in
set_option maxHeartbeats 1000000 in
theorem spelled_end (s o : ByteArray) (cut : Int) (w : World) (hl : s.size ≤ 100) (hn : Pl.new (bytesOf s) = .inl (2, s.size)) :
    Calls Try.prog 4 #[.string s, .string o, .int .i64 cut] w fun e w' => e = .returned (.bool true) ∧ Below w.heap.size w w' := by
  have hl' : ¬ (100 : Int) < (s.size : Int) := by omega
  go_enter Try.func4, Try.ntmps4
  go_wp2_with fail
  refine (sure_any _).mono ?_
  rintro e w1 ⟨rfl, hb1⟩
  go_wp2_with fail
  refine (new_any s _ (by unfold maxLen; omega)).mono ?_
  rintro e w2 hs
  have hb2 := hb1.trans (hs.1.mono hb1.size)
  rw [hn] at hs
  have he := newSays_err hs
  subst he
  clear hs hn
  by_cases h0 : (s.size : Int) = 0
  · have h0' : ((s.size : Int) != 0) = false := by simpa using h0
    clear h0
    go_wp2
    go_ret
    exact ⟨rfl, hb2⟩
  · have h0' : ((s.size : Int) != 0) = true := by simpa using h0
    go_wp2
    go_ret
    exact ⟨rfl, hb2⟩

end Go.Proofs.Ytfdafcnfefbcbaa
