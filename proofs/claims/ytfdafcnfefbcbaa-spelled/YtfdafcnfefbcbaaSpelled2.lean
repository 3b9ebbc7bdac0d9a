/-
  The law Spelled: its walk where the text cannot go on.
-/
import Derived.Test.YtfdafcnfefbcbaaSpelled
namespace Go.Proofs.Ytfdafcnfefbcbaa
open Go.RowKit
set_option linter.unusedVariables false

set_option maxRecDepth 100000 in
set_option maxHeartbeats 1000000 in
theorem spelled_far (s o : ByteArray) (cut : Int) (n : Nat) (w : World) (hl : s.size ≤ 100) (ho : o.size ≤ 140737488351232) (hn : Pl.new (bytesOf s) = .inl (2, n)) (hlt : n < s.size) (hfar : 100 < n + 1 + o.size) :
    Calls Try.prog 4 #[.string s, .string o, .int .i64 cut] w fun e w' => e = .returned (.bool true) ∧ Below w.heap.size w w' := by
  have hl' : ¬ (100 : Int) < (s.size : Int) := by omega
  have q0 : (0 : Int) ≤ (n : Int) + 1 := by omega
  have q1 : (n : Int) + 1 ≤ (s.size : Int) := by omega
  have q2 : ((n : Int) == (s.size : Int)) = false := by simp; omega
  have q3 : (n : Int) ≤ (s.size : Int) := by omega
  have hst : (s.extract 0 (n + 1)).size = n + 1 := by simp; omega
  have H1 : Hid (Pl.new (bytesOf (s.extract 0 (n + 1) ++ o)) = .inl (1, 0)) := new_long _ (by rw [bytesOf_length, ByteArray.size_append, hst]; exact hfar)
  have hfar' : (100 : Int) < (n : Int) + 1 + (o.size : Int) := by omega
  clear hfar
  have HST : Hid ((s.extract 0 (n + 1) ++ o).size ≤ 140737488355327) := by show _ ≤ _; rw [ByteArray.size_append, hst]; omega
  have HSN : Hid ((s.extract 0 n).size ≤ 100) := by show _ ≤ _; simp; omega
  have HN : Hid _ := hn
  clear hst hn
  cases hz : ((n : Int) != 0)
  all_goals
    go_enter Try.func4, Try.ntmps4
    go_wp2_with fail
    refine (sure_any _).mono ?_
    rintro e w1 ⟨rfl, hb1⟩
    go_wp2_with fail
    refine (new_any s _ (by unfold maxLen; omega)).mono ?_
    rintro e w2 hs
    have hb2 := hb1.trans (hs.1.mono hb1.size)
    rw [HN.out] at hs
    have he := newSays_err hs
    subst he
    clear hs hb1
    go_wp2_with fail
    refine (new_any _ _ (by have := HST.out; unfold maxLen; omega)).mono ?_
    rintro e w3 hs
    have hb3 := hb2.trans (hs.1.mono hb2.size)
    rw [H1.out] at hs
    have he := newSays_err hs
    subst he
    clear hs hb2
    go_wp2_with fail
    refine (new_any _ _ (by have := HSN.out; unfold maxLen; omega)).mono ?_
    rintro e w4 hs
    have hb4 := hb3.trans (hs.1.mono hb3.size)
    obtain ⟨v, he⟩ := newSays_form hs
    subst he
    clear hs hb3
    go_wp2
    go_ret
    exact ⟨rfl, hb4⟩

set_option maxRecDepth 100000 in
set_option maxHeartbeats 1000000 in
theorem spelled_near2 (s o : ByteArray) (cut : Int) (n : Nat) (w : World) (hl : s.size ≤ 100) (ho : o.size ≤ 140737488351232) (hn : Pl.new (bytesOf s) = .inl (2, n)) (hlt : n < s.size) (hnear : n + 1 + o.size ≤ 100) (h1 : Pl.new (bytesOf (s.extract 0 (n + 1) ++ o)) = .inl (2, n)) (h2 : Pl.new (bytesOf (s.extract 0 n)) = .inl (2, n)) :
    Calls Try.prog 4 #[.string s, .string o, .int .i64 cut] w fun e w' => e = .returned (.bool true) ∧ Below w.heap.size w w' := by
  have hl' : ¬ (100 : Int) < (s.size : Int) := by omega
  have q0 : (0 : Int) ≤ (n : Int) + 1 := by omega
  have q1 : (n : Int) + 1 ≤ (s.size : Int) := by omega
  have q2 : ((n : Int) == (s.size : Int)) = false := by simp; omega
  have q3 : (n : Int) ≤ (s.size : Int) := by omega
  have hst : (s.extract 0 (n + 1)).size = n + 1 := by simp; omega
  have H1 : Hid (Pl.new (bytesOf (s.extract 0 (n + 1) ++ o)) = .inl (2, n)) := h1
  have H2 : Hid _ := h2
  have hnear' : ¬ (100 : Int) < (n : Int) + 1 + (o.size : Int) := by omega
  clear hnear h1 h2
  have HST : Hid ((s.extract 0 (n + 1) ++ o).size ≤ 140737488355327) := by show _ ≤ _; rw [ByteArray.size_append, hst]; omega
  have HSN : Hid ((s.extract 0 n).size ≤ 100) := by show _ ≤ _; simp; omega
  have HN : Hid _ := hn
  clear hst hn
  cases hz : ((n : Int) != 0)
  all_goals
    go_enter Try.func4, Try.ntmps4
    go_wp2_with fail
    refine (sure_any _).mono ?_
    rintro e w1 ⟨rfl, hb1⟩
    go_wp2_with fail
    refine (new_any s _ (by unfold maxLen; omega)).mono ?_
    rintro e w2 hs
    have hb2 := hb1.trans (hs.1.mono hb1.size)
    rw [HN.out] at hs
    have he := newSays_err hs
    subst he
    clear hs hb1
    go_wp2_with fail
    refine (new_any _ _ (by have := HST.out; unfold maxLen; omega)).mono ?_
    rintro e w3 hs
    have hb3 := hb2.trans (hs.1.mono hb2.size)
    rw [H1.out] at hs
    have he := newSays_err hs
    subst he
    clear hs hb2
    go_wp2_with fail
    refine (new_any _ _ (by have := HSN.out; unfold maxLen; omega)).mono ?_
    rintro e w4 hs
    have hb4 := hb3.trans (hs.1.mono hb3.size)
    rw [H2.out] at hs
    have he := newSays_err hs
    subst he
    clear hs hb3
    go_wp2
    go_ret
    exact ⟨rfl, hb4⟩

set_option maxRecDepth 100000 in
set_option maxHeartbeats 1000000 in
theorem spelled_near3 (s o : ByteArray) (cut : Int) (n : Nat) (w : World) (hl : s.size ≤ 100) (ho : o.size ≤ 140737488351232) (hn : Pl.new (bytesOf s) = .inl (2, n)) (hlt : n < s.size) (hnear : n + 1 + o.size ≤ 100) (h1 : Pl.new (bytesOf (s.extract 0 (n + 1) ++ o)) = .inl (2, n)) (h2 : Pl.new (bytesOf (s.extract 0 n)) = .inl (3, 0)) :
    Calls Try.prog 4 #[.string s, .string o, .int .i64 cut] w fun e w' => e = .returned (.bool true) ∧ Below w.heap.size w w' := by
  have hl' : ¬ (100 : Int) < (s.size : Int) := by omega
  have q0 : (0 : Int) ≤ (n : Int) + 1 := by omega
  have q1 : (n : Int) + 1 ≤ (s.size : Int) := by omega
  have q2 : ((n : Int) == (s.size : Int)) = false := by simp; omega
  have q3 : (n : Int) ≤ (s.size : Int) := by omega
  have hst : (s.extract 0 (n + 1)).size = n + 1 := by simp; omega
  have H1 : Hid (Pl.new (bytesOf (s.extract 0 (n + 1) ++ o)) = .inl (2, n)) := h1
  have H2 : Hid _ := h2
  have hnear' : ¬ (100 : Int) < (n : Int) + 1 + (o.size : Int) := by omega
  clear hnear h1 h2
  have HST : Hid ((s.extract 0 (n + 1) ++ o).size ≤ 140737488355327) := by show _ ≤ _; rw [ByteArray.size_append, hst]; omega
  have HSN : Hid ((s.extract 0 n).size ≤ 100) := by show _ ≤ _; simp; omega
  have HN : Hid _ := hn
  clear hst hn
  cases hz : ((n : Int) != 0)
  all_goals
    go_enter Try.func4, Try.ntmps4
    go_wp2_with fail
    refine (sure_any _).mono ?_
    rintro e w1 ⟨rfl, hb1⟩
    go_wp2_with fail
    refine (new_any s _ (by unfold maxLen; omega)).mono ?_
    rintro e w2 hs
    have hb2 := hb1.trans (hs.1.mono hb1.size)
    rw [HN.out] at hs
    have he := newSays_err hs
    subst he
    clear hs hb1
    go_wp2_with fail
    refine (new_any _ _ (by have := HST.out; unfold maxLen; omega)).mono ?_
    rintro e w3 hs
    have hb3 := hb2.trans (hs.1.mono hb2.size)
    rw [H1.out] at hs
    have he := newSays_err hs
    subst he
    clear hs hb2
    go_wp2_with fail
    refine (new_any _ _ (by have := HSN.out; unfold maxLen; omega)).mono ?_
    rintro e w4 hs
    have hb4 := hb3.trans (hs.1.mono hb3.size)
    rw [H2.out] at hs
    have he := newSays_err hs
    subst he
    clear hs hb3
    go_wp2
    go_ret
    exact ⟨rfl, hb4⟩

set_option maxRecDepth 100000 in
set_option maxHeartbeats 1000000 in
theorem spelled_near0 (s o : ByteArray) (cut : Int) (n : Nat) (w : World) (hl : s.size ≤ 100) (ho : o.size ≤ 140737488351232) (hn : Pl.new (bytesOf s) = .inl (2, n)) (hlt : n < s.size) (p : List (List Pl.POp)) (hnear : n + 1 + o.size ≤ 100) (h1 : Pl.new (bytesOf (s.extract 0 (n + 1) ++ o)) = .inl (2, n)) (h2 : Pl.new (bytesOf (s.extract 0 n)) = .inr p) :
    Calls Try.prog 4 #[.string s, .string o, .int .i64 cut] w fun e w' => e = .returned (.bool true) ∧ Below w.heap.size w w' := by
  have hl' : ¬ (100 : Int) < (s.size : Int) := by omega
  have q0 : (0 : Int) ≤ (n : Int) + 1 := by omega
  have q1 : (n : Int) + 1 ≤ (s.size : Int) := by omega
  have q2 : ((n : Int) == (s.size : Int)) = false := by simp; omega
  have q3 : (n : Int) ≤ (s.size : Int) := by omega
  have hst : (s.extract 0 (n + 1)).size = n + 1 := by simp; omega
  have H1 : Hid (Pl.new (bytesOf (s.extract 0 (n + 1) ++ o)) = .inl (2, n)) := h1
  have H2 : Hid _ := h2
  have hnear' : ¬ (100 : Int) < (n : Int) + 1 + (o.size : Int) := by omega
  clear hnear h1 h2
  have HST : Hid ((s.extract 0 (n + 1) ++ o).size ≤ 140737488355327) := by show _ ≤ _; rw [ByteArray.size_append, hst]; omega
  have HSN : Hid ((s.extract 0 n).size ≤ 100) := by show _ ≤ _; simp; omega
  have HN : Hid _ := hn
  clear hst hn
  cases hz : ((n : Int) != 0)
  all_goals
    go_enter Try.func4, Try.ntmps4
    go_wp2_with fail
    refine (sure_any _).mono ?_
    rintro e w1 ⟨rfl, hb1⟩
    go_wp2_with fail
    refine (new_any s _ (by unfold maxLen; omega)).mono ?_
    rintro e w2 hs
    have hb2 := hb1.trans (hs.1.mono hb1.size)
    rw [HN.out] at hs
    have he := newSays_err hs
    subst he
    clear hs hb1
    go_wp2_with fail
    refine (new_any _ _ (by have := HST.out; unfold maxLen; omega)).mono ?_
    rintro e w3 hs
    have hb3 := hb2.trans (hs.1.mono hb2.size)
    rw [H1.out] at hs
    have he := newSays_err hs
    subst he
    clear hs hb2
    go_wp2_with fail
    refine (new_any _ _ (by have := HSN.out; unfold maxLen; omega)).mono ?_
    rintro e w4 hs
    have hb4 := hb3.trans (hs.1.mono hb3.size)
    rw [H2.out] at hs
    obtain ⟨b, he⟩ := newSays_ok hs
    subst he
    clear hs hb3
    go_wp2
    go_ret
    exact ⟨rfl, hb4⟩

end Go.Proofs.Ytfdafcnfefbcbaa
