/-
  The law Spelled: its walk where the text is a program text.
-/
import Derived.Test.YtfdafcnfefbcbaaSpelled
namespace Go.Proofs.Ytfdafcnfefbcbaa
open Go.RowKit
set_option linter.unusedVariables false

set_option maxRecDepth 100000 in
set_option maxHeartbeats 1000000 in
theorem spelled_cut32 (s o : ByteArray) (cut : Int) (n : Nat) (w : World) (hl : s.size ≤ 100) (hc : -9223372036854775808 ≤ cut ∧ cut ≤ 9223372036854775807) (hk : pickOf cut ((s.size : Int) + 1) = (n : Int)) (h1 : Pl.new (bytesOf s) = .inl (3, 0)) (h2 : Pl.new (bytesOf (s.extract 0 n)) = .inl (2, n)) :
    Calls Try.prog 4 #[.string s, .string o, .int .i64 cut] w fun e w' => e = .returned (.bool true) ∧ Below w.heap.size w w' := by
  have hl' : ¬ (100 : Int) < (s.size : Int) := by omega
  have hlt := (pickOf_lt cut ((s.size : Int) + 1) (by omega)).2
  rw [hk] at hlt
  have q3 : (n : Int) ≤ (s.size : Int) := by omega
  have HSN : Hid ((s.extract 0 n).size ≤ 100) := by show _ ≤ _; simp; omega
  have HC : Hid _ := hc
  have HK : Hid _ := hk
  have H1 : Hid _ := h1
  have H2 : Hid _ := h2
  clear hc hk h1 h2 hlt
  go_enter Try.func4, Try.ntmps4
  go_wp2_with fail
  refine (sure_any _).mono ?_
  rintro e w1 ⟨rfl, hb1⟩
  go_wp2_with fail
  refine (new_any s _ (by unfold maxLen; omega)).mono ?_
  rintro e w2 hs
  have hb2 := hb1.trans (hs.1.mono hb1.size)
  rw [H1.out] at hs
  have he := newSays_err hs
  subst he
  clear hs hb1
  go_wp2_with fail
  refine (pick_any cut ((s.size : Int) + 1) _ HC.out (by omega) (by omega)).mono ?_
  rintro e w3 ⟨rfl, rfl⟩
  rw [HK.out]
  go_wp2_with fail
  refine (new_any _ _ (by have := HSN.out; unfold maxLen; omega)).mono ?_
  rintro e w4 hs
  have hb4 := hb2.trans (hs.1.mono hb2.size)
  rw [H2.out] at hs
  have he := newSays_err hs
  subst he
  clear hs hb2
  go_wp2
  go_ret
  exact ⟨rfl, hb4⟩

set_option maxRecDepth 100000 in
set_option maxHeartbeats 1000000 in
theorem spelled_cut33 (s o : ByteArray) (cut : Int) (n : Nat) (w : World) (hl : s.size ≤ 100) (hc : -9223372036854775808 ≤ cut ∧ cut ≤ 9223372036854775807) (hk : pickOf cut ((s.size : Int) + 1) = (n : Int)) (h1 : Pl.new (bytesOf s) = .inl (3, 0)) (h2 : Pl.new (bytesOf (s.extract 0 n)) = .inl (3, 0)) :
    Calls Try.prog 4 #[.string s, .string o, .int .i64 cut] w fun e w' => e = .returned (.bool true) ∧ Below w.heap.size w w' := by
  have hl' : ¬ (100 : Int) < (s.size : Int) := by omega
  have hlt := (pickOf_lt cut ((s.size : Int) + 1) (by omega)).2
  rw [hk] at hlt
  have q3 : (n : Int) ≤ (s.size : Int) := by omega
  have HSN : Hid ((s.extract 0 n).size ≤ 100) := by show _ ≤ _; simp; omega
  have HC : Hid _ := hc
  have HK : Hid _ := hk
  have H1 : Hid _ := h1
  have H2 : Hid _ := h2
  clear hc hk h1 h2 hlt
  go_enter Try.func4, Try.ntmps4
  go_wp2_with fail
  refine (sure_any _).mono ?_
  rintro e w1 ⟨rfl, hb1⟩
  go_wp2_with fail
  refine (new_any s _ (by unfold maxLen; omega)).mono ?_
  rintro e w2 hs
  have hb2 := hb1.trans (hs.1.mono hb1.size)
  rw [H1.out] at hs
  have he := newSays_err hs
  subst he
  clear hs hb1
  go_wp2_with fail
  refine (pick_any cut ((s.size : Int) + 1) _ HC.out (by omega) (by omega)).mono ?_
  rintro e w3 ⟨rfl, rfl⟩
  rw [HK.out]
  go_wp2_with fail
  refine (new_any _ _ (by have := HSN.out; unfold maxLen; omega)).mono ?_
  rintro e w4 hs
  have hb4 := hb2.trans (hs.1.mono hb2.size)
  rw [H2.out] at hs
  have he := newSays_err hs
  subst he
  clear hs hb2
  go_wp2
  go_ret
  exact ⟨rfl, hb4⟩

set_option maxRecDepth 100000 in
set_option maxHeartbeats 1000000 in
theorem spelled_cut30 (s o : ByteArray) (cut : Int) (n : Nat) (w : World) (hl : s.size ≤ 100) (hc : -9223372036854775808 ≤ cut ∧ cut ≤ 9223372036854775807) (hk : pickOf cut ((s.size : Int) + 1) = (n : Int)) (h1 : Pl.new (bytesOf s) = .inl (3, 0)) (p2 : List (List Pl.POp)) (h2 : Pl.new (bytesOf (s.extract 0 n)) = .inr p2) :
    Calls Try.prog 4 #[.string s, .string o, .int .i64 cut] w fun e w' => e = .returned (.bool true) ∧ Below w.heap.size w w' := by
  have hl' : ¬ (100 : Int) < (s.size : Int) := by omega
  have hlt := (pickOf_lt cut ((s.size : Int) + 1) (by omega)).2
  rw [hk] at hlt
  have q3 : (n : Int) ≤ (s.size : Int) := by omega
  have HSN : Hid ((s.extract 0 n).size ≤ 100) := by show _ ≤ _; simp; omega
  have HC : Hid _ := hc
  have HK : Hid _ := hk
  have H1 : Hid _ := h1
  have H2 : Hid _ := h2
  clear hc hk h1 h2 hlt
  go_enter Try.func4, Try.ntmps4
  go_wp2_with fail
  refine (sure_any _).mono ?_
  rintro e w1 ⟨rfl, hb1⟩
  go_wp2_with fail
  refine (new_any s _ (by unfold maxLen; omega)).mono ?_
  rintro e w2 hs
  have hb2 := hb1.trans (hs.1.mono hb1.size)
  rw [H1.out] at hs
  have he := newSays_err hs
  subst he
  clear hs hb1
  go_wp2_with fail
  refine (pick_any cut ((s.size : Int) + 1) _ HC.out (by omega) (by omega)).mono ?_
  rintro e w3 ⟨rfl, rfl⟩
  rw [HK.out]
  go_wp2_with fail
  refine (new_any _ _ (by have := HSN.out; unfold maxLen; omega)).mono ?_
  rintro e w4 hs
  have hb4 := hb2.trans (hs.1.mono hb2.size)
  rw [H2.out] at hs
  obtain ⟨b2, he⟩ := newSays_ok hs
  subst he
  clear hs hb2
  go_wp2
  go_ret
  exact ⟨rfl, hb4⟩

set_option maxRecDepth 100000 in
set_option maxHeartbeats 1000000 in
theorem spelled_cut02 (s o : ByteArray) (cut : Int) (n : Nat) (w : World) (hl : s.size ≤ 100) (hc : -9223372036854775808 ≤ cut ∧ cut ≤ 9223372036854775807) (hk : pickOf cut ((s.size : Int) + 1) = (n : Int)) (p1 : List (List Pl.POp)) (h1 : Pl.new (bytesOf s) = .inr p1) (h2 : Pl.new (bytesOf (s.extract 0 n)) = .inl (2, n)) :
    Calls Try.prog 4 #[.string s, .string o, .int .i64 cut] w fun e w' => e = .returned (.bool true) ∧ Below w.heap.size w w' := by
  have hl' : ¬ (100 : Int) < (s.size : Int) := by omega
  have hlt := (pickOf_lt cut ((s.size : Int) + 1) (by omega)).2
  rw [hk] at hlt
  have q3 : (n : Int) ≤ (s.size : Int) := by omega
  have HSN : Hid ((s.extract 0 n).size ≤ 100) := by show _ ≤ _; simp; omega
  have HC : Hid _ := hc
  have HK : Hid _ := hk
  have H1 : Hid _ := h1
  have H2 : Hid _ := h2
  clear hc hk h1 h2 hlt
  go_enter Try.func4, Try.ntmps4
  go_wp2_with fail
  refine (sure_any _).mono ?_
  rintro e w1 ⟨rfl, hb1⟩
  go_wp2_with fail
  refine (new_any s _ (by unfold maxLen; omega)).mono ?_
  rintro e w2 hs
  have hb2 := hb1.trans (hs.1.mono hb1.size)
  rw [H1.out] at hs
  obtain ⟨b, he⟩ := newSays_ok hs
  subst he
  clear hs hb1
  go_wp2_with fail
  refine (pick_any cut ((s.size : Int) + 1) _ HC.out (by omega) (by omega)).mono ?_
  rintro e w3 ⟨rfl, rfl⟩
  rw [HK.out]
  go_wp2_with fail
  refine (new_any _ _ (by have := HSN.out; unfold maxLen; omega)).mono ?_
  rintro e w4 hs
  have hb4 := hb2.trans (hs.1.mono hb2.size)
  rw [H2.out] at hs
  have he := newSays_err hs
  subst he
  clear hs hb2
  go_wp2
  go_ret
  exact ⟨rfl, hb4⟩

set_option maxRecDepth 100000 in
set_option maxHeartbeats 1000000 in
theorem spelled_cut03 (s o : ByteArray) (cut : Int) (n : Nat) (w : World) (hl : s.size ≤ 100) (hc : -9223372036854775808 ≤ cut ∧ cut ≤ 9223372036854775807) (hk : pickOf cut ((s.size : Int) + 1) = (n : Int)) (p1 : List (List Pl.POp)) (h1 : Pl.new (bytesOf s) = .inr p1) (h2 : Pl.new (bytesOf (s.extract 0 n)) = .inl (3, 0)) :
    Calls Try.prog 4 #[.string s, .string o, .int .i64 cut] w fun e w' => e = .returned (.bool true) ∧ Below w.heap.size w w' := by
  have hl' : ¬ (100 : Int) < (s.size : Int) := by omega
  have hlt := (pickOf_lt cut ((s.size : Int) + 1) (by omega)).2
  rw [hk] at hlt
  have q3 : (n : Int) ≤ (s.size : Int) := by omega
  have HSN : Hid ((s.extract 0 n).size ≤ 100) := by show _ ≤ _; simp; omega
  have HC : Hid _ := hc
  have HK : Hid _ := hk
  have H1 : Hid _ := h1
  have H2 : Hid _ := h2
  clear hc hk h1 h2 hlt
  go_enter Try.func4, Try.ntmps4
  go_wp2_with fail
  refine (sure_any _).mono ?_
  rintro e w1 ⟨rfl, hb1⟩
  go_wp2_with fail
  refine (new_any s _ (by unfold maxLen; omega)).mono ?_
  rintro e w2 hs
  have hb2 := hb1.trans (hs.1.mono hb1.size)
  rw [H1.out] at hs
  obtain ⟨b, he⟩ := newSays_ok hs
  subst he
  clear hs hb1
  go_wp2_with fail
  refine (pick_any cut ((s.size : Int) + 1) _ HC.out (by omega) (by omega)).mono ?_
  rintro e w3 ⟨rfl, rfl⟩
  rw [HK.out]
  go_wp2_with fail
  refine (new_any _ _ (by have := HSN.out; unfold maxLen; omega)).mono ?_
  rintro e w4 hs
  have hb4 := hb2.trans (hs.1.mono hb2.size)
  rw [H2.out] at hs
  have he := newSays_err hs
  subst he
  clear hs hb2
  go_wp2
  go_ret
  exact ⟨rfl, hb4⟩

set_option maxRecDepth 100000 in
set_option maxHeartbeats 1000000 in
theorem spelled_cut00 (s o : ByteArray) (cut : Int) (n : Nat) (w : World) (hl : s.size ≤ 100) (hc : -9223372036854775808 ≤ cut ∧ cut ≤ 9223372036854775807) (hk : pickOf cut ((s.size : Int) + 1) = (n : Int)) (p1 : List (List Pl.POp)) (h1 : Pl.new (bytesOf s) = .inr p1) (p2 : List (List Pl.POp)) (h2 : Pl.new (bytesOf (s.extract 0 n)) = .inr p2) :
    Calls Try.prog 4 #[.string s, .string o, .int .i64 cut] w fun e w' => e = .returned (.bool true) ∧ Below w.heap.size w w' := by
  have hl' : ¬ (100 : Int) < (s.size : Int) := by omega
  have hlt := (pickOf_lt cut ((s.size : Int) + 1) (by omega)).2
  rw [hk] at hlt
  have q3 : (n : Int) ≤ (s.size : Int) := by omega
  have HSN : Hid ((s.extract 0 n).size ≤ 100) := by show _ ≤ _; simp; omega
  have HC : Hid _ := hc
  have HK : Hid _ := hk
  have H1 : Hid _ := h1
  have H2 : Hid _ := h2
  clear hc hk h1 h2 hlt
  go_enter Try.func4, Try.ntmps4
  go_wp2_with fail
  refine (sure_any _).mono ?_
  rintro e w1 ⟨rfl, hb1⟩
  go_wp2_with fail
  refine (new_any s _ (by unfold maxLen; omega)).mono ?_
  rintro e w2 hs
  have hb2 := hb1.trans (hs.1.mono hb1.size)
  rw [H1.out] at hs
  obtain ⟨b, he⟩ := newSays_ok hs
  subst he
  clear hs hb1
  go_wp2_with fail
  refine (pick_any cut ((s.size : Int) + 1) _ HC.out (by omega) (by omega)).mono ?_
  rintro e w3 ⟨rfl, rfl⟩
  rw [HK.out]
  go_wp2_with fail
  refine (new_any _ _ (by have := HSN.out; unfold maxLen; omega)).mono ?_
  rintro e w4 hs
  have hb4 := hb2.trans (hs.1.mono hb2.size)
  rw [H2.out] at hs
  obtain ⟨b2, he⟩ := newSays_ok hs
  subst he
  clear hs hb2
  go_wp2
  go_ret
  exact ⟨rfl, hb4⟩

end Go.Proofs.Ytfdafcnfefbcbaa
