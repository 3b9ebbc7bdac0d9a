/-
  Plain: how a text's beginnings read (for Spelled).
-/
import Derived.Test.YtfdafcnfefbcbabPlain
namespace Go.Proofs.Ytfdafcnfefbcbab.Pl
set_option linter.unusedVariables false

/-- One byte of the reference's reading: none where the text cannot go on so. -/
def stp (b : Bool) (l k c : Nat) : Option (Bool × Nat × Nat) :=
  if k != 0 then (if isName k c then some (b, l, 0) else none)
  else if takesName c then some (b, l, c)
  else if c == 33 then some (b, l, 0)
  else if c == 91 && !b then some (true, l, 0)
  else if c == 93 && b then some (false, l, 0)
  else if c == 10 && !b && decide (l < 4) then some (b, l + 1, 0)
  else none

theorem place_cons (b : Bool) (l k i c : Nat) (r : List Nat) : place b l k i (c :: r) = match stp b l k c with
    | none => (i : Int)
    | some (b', l', k') => place b' l' k' (i + 1) r := by
  rw [place]
  unfold stp
  by_cases h0 : (k != 0) = true
  · simp only [h0, if_true]
    by_cases h1 : isName k c = true <;> simp [h1]
  · simp only [h0, Bool.false_eq_true, if_false]
    by_cases h1 : takesName c = true
    · simp only [h1, if_true]
    · simp only [h1, Bool.false_eq_true, if_false]
      by_cases h2 : (c == 33) = true
      · simp only [h2, if_true]
      · simp only [h2, Bool.false_eq_true, if_false]
        by_cases h3 : (c == 91 && !b) = true
        · simp only [h3, if_true]
        · simp only [h3, Bool.false_eq_true, if_false]
          by_cases h4 : (c == 93 && b) = true
          · simp only [h4, if_true]
          · simp only [h4, Bool.false_eq_true, if_false]
            by_cases h5 : (c == 10 && !b && decide (l < 4)) = true
            · simp only [h5, if_true]
            · simp only [h5, Bool.false_eq_true, if_false]

theorem place_nil (b : Bool) (l k i : Nat) : place b l k i [] = -1 ∨ place b l k i [] = (i : Int) := by
  rw [place]; split
  · exact .inr rfl
  · exact .inl rfl

theorem place_bound : ∀ (s : List Nat) (b : Bool) (l k i : Nat), place b l k i s = -1 ∨ ((i : Int) ≤ place b l k i s ∧ place b l k i s ≤ i + s.length)
  | [], b, l, k, i => by
    rcases place_nil b l k i with h | h
    · exact .inl h
    · rw [h]; exact .inr ⟨by omega, by simp⟩
  | c :: r, b, l, k, i => by
    rw [place_cons]
    cases h : stp b l k c with
    | none => exact .inr ⟨by simp, by simp; omega⟩
    | some x =>
      obtain ⟨b', l', k'⟩ := x
      rcases place_bound r b' l' k' (i + 1) with h | ⟨h1, h2⟩
      · exact .inl h
      · refine .inr ⟨by simp only; omega, by simp only [List.length_cons]; omega⟩

/-- Where a text cannot go on, what comes behind that place does not matter, and what comes before is a program text or ends too early. -/
theorem place_cut : ∀ (s : List Nat) (b : Bool) (l k i n : Nat), place b l k i s = ((i + n : Nat) : Int) → n < s.length →
    (∀ o, place b l k i (s.take (n + 1) ++ o) = ((i + n : Nat) : Int)) ∧ (place b l k i (s.take n) = -1 ∨ place b l k i (s.take n) = ((i + n : Nat) : Int))
  | [], b, l, k, i, n, _, hn => by simp at hn
  | c :: r, b, l, k, i, 0, h, _ => by
    rw [place_cons] at h
    refine ⟨fun o => ?_, ?_⟩
    · rw [List.take_succ_cons, List.take_zero, List.cons_append, place_cons]
      cases hs : stp b l k c with
      | none => rfl
      | some x =>
        obtain ⟨b', l', k'⟩ := x
        rw [hs] at h
        rcases place_bound r b' l' k' (i + 1) with h1 | ⟨h1, -⟩
        · simp only at h; omega
        · simp only at h; omega
    · exact place_nil b l k i
  | c :: r, b, l, k, i, n + 1, h, hn => by
    rw [place_cons] at h
    cases hs : stp b l k c with
    | none => rw [hs] at h; simp only at h; omega
    | some x =>
      obtain ⟨b', l', k'⟩ := x
      rw [hs] at h
      simp only at h
      have ih := place_cut r b' l' k' (i + 1) n (by rw [h]; omega) (by simpa using hn)
      refine ⟨fun o => ?_, ?_⟩
      · rw [List.take_succ_cons, List.cons_append, place_cons, hs]
        simp only
        rw [ih.1 o]; omega
      · rw [List.take_succ_cons, place_cons, hs]
        simp only
        rcases ih.2 with e | e
        · exact .inl e
        · exact .inr (by rw [e]; omega)

/-- Each beginning of a program text is one or ends too early. -/
theorem place_begin : ∀ (s : List Nat) (b : Bool) (l k i n : Nat), place b l k i s = -1 → n ≤ s.length → place b l k i (s.take n) = -1 ∨ place b l k i (s.take n) = ((i + n : Nat) : Int)
  | s, b, l, k, i, 0, _, _ => by rw [List.take_zero]; exact place_nil b l k i
  | [], b, l, k, i, n + 1, _, hn => by simp at hn
  | c :: r, b, l, k, i, n + 1, h, hn => by
    rw [place_cons] at h
    cases hs : stp b l k c with
    | none => rw [hs] at h; simp only at h; omega
    | some x =>
      obtain ⟨b', l', k'⟩ := x
      rw [hs] at h
      rw [List.take_succ_cons, place_cons, hs]
      rcases place_begin r b' l' k' (i + 1) n h (by simpa using hn) with e | e
      · exact .inl e
      · exact .inr (by simp only; rw [e]; omega)

end Go.Proofs.Ytfdafcnfefbcbab.Pl
