/-
  The contracts of spell and shared.
-/
import Derived.Test.YtfdafcnfefbcbabPick
import Derived.Laws.BytesArg
namespace Go.Proofs.Ytfdafcnfefbcbab
open Go.RowKit
set_option linter.unusedVariables false

def kindsL : List Nat := [114, 119, 114, 119, 114, 119, 108, 117, 43, 45, 42, 94, 60, 63, 33, 91, 93]

/-- The operation of a kind's byte, with a second byte. -/
def spellC (c : Nat) (arg : Int) : List Nat :=
  if c = 114 ∨ c = 119 then [c, 97 + (pickOf arg 4).toNat]
  else if c = 108 ∨ c = 117 then [c, 80 + (pickOf arg 2).toNat]
  else if c = 63 then [c, 49 + (pickOf arg 9).toNat]
  else if c = 33 ∨ c = 91 ∨ c = 93 then [c]
  else [c, 48 + (pickOf arg 10).toNat]

def spellOf (k arg : Int) : List Nat := spellC (kindsL.getD (pickOf k 17).toNat 0) arg

set_option maxRecDepth 100000 in
theorem kinds_index (j : Nat) (hj : j < 17) (w : World) : (Instr.index 9 (.string ⟨#[114, 119, 114, 119, 114, 119, 108, 117, 43, 45, 42, 94, 60, 63, 33, 91, 93]⟩) (.int .i64 (j : Int))).run Try.prog w = .ok (.int .u8 ((kindsL.getD j 0 : Nat) : Int)) w := by
  have : j = 0 ∨ j = 1 ∨ j = 2 ∨ j = 3 ∨ j = 4 ∨ j = 5 ∨ j = 6 ∨ j = 7 ∨ j = 8 ∨ j = 9 ∨ j = 10 ∨ j = 11 ∨ j = 12 ∨ j = 13 ∨ j = 14 ∨ j = 15 ∨ j = 16 := by omega
  rcases this with rfl | rfl | rfl | rfl | rfl | rfl | rfl | rfl | rfl | rfl | rfl | rfl | rfl | rfl | rfl | rfl | rfl <;> rfl

theorem kinds_mem (j : Nat) (hj : j < 17) : kindsL.getD j 0 = 114 ∨ kindsL.getD j 0 = 119 ∨ kindsL.getD j 0 = 108 ∨ kindsL.getD j 0 = 117 ∨ kindsL.getD j 0 = 43 ∨ kindsL.getD j 0 = 45 ∨ kindsL.getD j 0 = 42 ∨ kindsL.getD j 0 = 94 ∨ kindsL.getD j 0 = 60 ∨ kindsL.getD j 0 = 63 ∨ kindsL.getD j 0 = 33 ∨ kindsL.getD j 0 = 91 ∨ kindsL.getD j 0 = 93 := by
  have : j = 0 ∨ j = 1 ∨ j = 2 ∨ j = 3 ∨ j = 4 ∨ j = 5 ∨ j = 6 ∨ j = 7 ∨ j = 8 ∨ j = 9 ∨ j = 10 ∨ j = 11 ∨ j = 12 ∨ j = 13 ∨ j = 14 ∨ j = 15 ∨ j = 16 := by omega
  rcases this with rfl | rfl | rfl | rfl | rfl | rfl | rfl | rfl | rfl | rfl | rfl | rfl | rfl | rfl | rfl | rfl | rfl <;> decide

theorem conv2 (w : World) (x y : Int) : (convert 109 9 (.slice (some ⟨w.heap.size, 0, none⟩) 2 2)).run Try.prog (w.alloc (.cells #[.int .u8 x, .int .u8 y] 5)) = .ok (.string (strOfNums [x, y])) (w.alloc (.cells #[.int .u8 x, .int .u8 y] 5)) :=
  run_convert_bytes_arg _ 109 5 Try.underlying109 Try.underlying5 w.heap.size 0 2 2 [x, y] rfl (fun i hi => by
    have : i = 0 ∨ i = 1 := by omega
    rcases this with rfl | rfl <;> simp) 9 Try.underlying9
theorem conv1 (w : World) (x : Int) : (convert 109 9 (.slice (some ⟨w.heap.size, 0, none⟩) 1 1)).run Try.prog (w.alloc (.cells #[.int .u8 x] 5)) = .ok (.string (strOfNums [x])) (w.alloc (.cells #[.int .u8 x] 5)) :=
  run_convert_bytes_arg _ 109 5 Try.underlying109 Try.underlying5 w.heap.size 0 1 1 [x] rfl (fun i hi => by
    have : i = 0 := by omega
    subst this; simp) 9 Try.underlying9

theorem bytesOf_two (a b : Nat) (ha : a < 256) (hb : b < 256) (x y : Int) (hx : x = (a : Int)) (hy : y = (b : Int)) : bytesOf (strOfNums [x, y]) = [a, b] := by
  subst hx; subst hy
  simp [strOfNums, bytesOf, Nat.mod_eq_of_lt ha, Nat.mod_eq_of_lt hb]
theorem bytesOf_one (a : Nat) (ha : a < 256) (x : Int) (hx : x = (a : Int)) : bytesOf (strOfNums [x]) = [a] := by
  subst hx
  simp [strOfNums, bytesOf, Nat.mod_eq_of_lt ha]

set_option maxRecDepth 100000 in
set_option maxHeartbeats 1000000 in
theorem spell_any (k arg : Int) (w : World) (hk : -9223372036854775808 ≤ k ∧ k ≤ 9223372036854775807) (ha : -9223372036854775808 ≤ arg ∧ arg ≤ 9223372036854775807) :
    Calls Try.prog 27 #[.int .i64 k, .int .i64 arg] w fun e w' => (∃ s : ByteArray, e = .returned (.string s) ∧ bytesOf s = spellOf k arg) ∧ Below w.heap.size w w' := by
  have hj := pickOf_lt k 17 (by omega)
  obtain ⟨j, hj2⟩ : ∃ j : Nat, pickOf k 17 = (j : Int) := ⟨(pickOf k 17).toNat, by omega⟩
  have hj3 : j < 17 := by omega
  have hix := kinds_index j hj3
  have HM : Hid _ := kinds_mem j hj3
  have HK : Hid _ := hk
  have HA : Hid _ := ha
  have HJ : Hid _ := hj2
  have HS : Hid (spellOf k arg = spellC (kindsL.getD j 0) arg) := by show _ = _; unfold spellOf; rw [hj2]; rfl
  clear hk ha hj2 hj
  generalize kindsL.getD j 0 = c at *
  go_enter Try.func27, Try.ntmps27
  go_wp2_with fail
  refine (pick_any k 17 _ HK.out (by omega) (by omega)).mono ?_
  rintro e w1 ⟨rfl, rfl⟩
  rw [HJ.out]
  have kc2 := conv2
  have kc1 := conv1
  rcases HM.out with rfl | rfl | rfl | rfl | rfl | rfl | rfl | rfl | rfl | rfl | rfl | rfl | rfl
  · go_wp2_with fail
    refine (pick_any arg 4 _ HA.out (by omega) (by omega)).mono ?_
    rintro e w2 ⟨rfl, rfl⟩
    have hm := pickOf_lt arg 4 (by omega)
    obtain ⟨m, hm2⟩ : ∃ m : Nat, pickOf arg 4 = (m : Int) := ⟨(pickOf arg 4).toNat, by omega⟩
    have HS2 : Hid (spellC 114 arg = [114, 97 + m]) := by show _ = _; unfold spellC; rw [hm2]; rfl
    rw [hm2] at hm ⊢
    obtain ⟨hm0, hm1⟩ := hm
    clear hm2 HM
    go_wp2
    go_ret
    exact ⟨⟨_, rfl, by rw [HS.out, HS2.out]; exact bytesOf_two _ _ (by omega) (by omega) _ _ (by rfl) (by omega)⟩, (Below.refl _ _).alloc (Nat.le_refl _) _⟩
  · go_wp2_with fail
    refine (pick_any arg 4 _ HA.out (by omega) (by omega)).mono ?_
    rintro e w2 ⟨rfl, rfl⟩
    have hm := pickOf_lt arg 4 (by omega)
    obtain ⟨m, hm2⟩ : ∃ m : Nat, pickOf arg 4 = (m : Int) := ⟨(pickOf arg 4).toNat, by omega⟩
    have HS2 : Hid (spellC 119 arg = [119, 97 + m]) := by show _ = _; unfold spellC; rw [hm2]; rfl
    rw [hm2] at hm ⊢
    obtain ⟨hm0, hm1⟩ := hm
    clear hm2 HM
    go_wp2
    go_ret
    exact ⟨⟨_, rfl, by rw [HS.out, HS2.out]; exact bytesOf_two _ _ (by omega) (by omega) _ _ (by rfl) (by omega)⟩, (Below.refl _ _).alloc (Nat.le_refl _) _⟩
  · go_wp2_with fail
    refine (pick_any arg 2 _ HA.out (by omega) (by omega)).mono ?_
    rintro e w2 ⟨rfl, rfl⟩
    have hm := pickOf_lt arg 2 (by omega)
    obtain ⟨m, hm2⟩ : ∃ m : Nat, pickOf arg 2 = (m : Int) := ⟨(pickOf arg 2).toNat, by omega⟩
    have HS2 : Hid (spellC 108 arg = [108, 80 + m]) := by show _ = _; unfold spellC; rw [hm2]; rfl
    rw [hm2] at hm ⊢
    obtain ⟨hm0, hm1⟩ := hm
    clear hm2 HM
    go_wp2
    go_ret
    exact ⟨⟨_, rfl, by rw [HS.out, HS2.out]; exact bytesOf_two _ _ (by omega) (by omega) _ _ (by rfl) (by omega)⟩, (Below.refl _ _).alloc (Nat.le_refl _) _⟩
  · go_wp2_with fail
    refine (pick_any arg 2 _ HA.out (by omega) (by omega)).mono ?_
    rintro e w2 ⟨rfl, rfl⟩
    have hm := pickOf_lt arg 2 (by omega)
    obtain ⟨m, hm2⟩ : ∃ m : Nat, pickOf arg 2 = (m : Int) := ⟨(pickOf arg 2).toNat, by omega⟩
    have HS2 : Hid (spellC 117 arg = [117, 80 + m]) := by show _ = _; unfold spellC; rw [hm2]; rfl
    rw [hm2] at hm ⊢
    obtain ⟨hm0, hm1⟩ := hm
    clear hm2 HM
    go_wp2
    go_ret
    exact ⟨⟨_, rfl, by rw [HS.out, HS2.out]; exact bytesOf_two _ _ (by omega) (by omega) _ _ (by rfl) (by omega)⟩, (Below.refl _ _).alloc (Nat.le_refl _) _⟩
  · go_wp2_with fail
    refine (pick_any arg 10 _ HA.out (by omega) (by omega)).mono ?_
    rintro e w2 ⟨rfl, rfl⟩
    have hm := pickOf_lt arg 10 (by omega)
    obtain ⟨m, hm2⟩ : ∃ m : Nat, pickOf arg 10 = (m : Int) := ⟨(pickOf arg 10).toNat, by omega⟩
    have HS2 : Hid (spellC 43 arg = [43, 48 + m]) := by show _ = _; unfold spellC; rw [hm2]; rfl
    rw [hm2] at hm ⊢
    obtain ⟨hm0, hm1⟩ := hm
    clear hm2 HM
    go_wp2
    go_ret
    exact ⟨⟨_, rfl, by rw [HS.out, HS2.out]; exact bytesOf_two _ _ (by omega) (by omega) _ _ (by rfl) (by omega)⟩, (Below.refl _ _).alloc (Nat.le_refl _) _⟩
  · go_wp2_with fail
    refine (pick_any arg 10 _ HA.out (by omega) (by omega)).mono ?_
    rintro e w2 ⟨rfl, rfl⟩
    have hm := pickOf_lt arg 10 (by omega)
    obtain ⟨m, hm2⟩ : ∃ m : Nat, pickOf arg 10 = (m : Int) := ⟨(pickOf arg 10).toNat, by omega⟩
    have HS2 : Hid (spellC 45 arg = [45, 48 + m]) := by show _ = _; unfold spellC; rw [hm2]; rfl
    rw [hm2] at hm ⊢
    obtain ⟨hm0, hm1⟩ := hm
    clear hm2 HM
    go_wp2
    go_ret
    exact ⟨⟨_, rfl, by rw [HS.out, HS2.out]; exact bytesOf_two _ _ (by omega) (by omega) _ _ (by rfl) (by omega)⟩, (Below.refl _ _).alloc (Nat.le_refl _) _⟩
  · go_wp2_with fail
    refine (pick_any arg 10 _ HA.out (by omega) (by omega)).mono ?_
    rintro e w2 ⟨rfl, rfl⟩
    have hm := pickOf_lt arg 10 (by omega)
    obtain ⟨m, hm2⟩ : ∃ m : Nat, pickOf arg 10 = (m : Int) := ⟨(pickOf arg 10).toNat, by omega⟩
    have HS2 : Hid (spellC 42 arg = [42, 48 + m]) := by show _ = _; unfold spellC; rw [hm2]; rfl
    rw [hm2] at hm ⊢
    obtain ⟨hm0, hm1⟩ := hm
    clear hm2 HM
    go_wp2
    go_ret
    exact ⟨⟨_, rfl, by rw [HS.out, HS2.out]; exact bytesOf_two _ _ (by omega) (by omega) _ _ (by rfl) (by omega)⟩, (Below.refl _ _).alloc (Nat.le_refl _) _⟩
  · go_wp2_with fail
    refine (pick_any arg 10 _ HA.out (by omega) (by omega)).mono ?_
    rintro e w2 ⟨rfl, rfl⟩
    have hm := pickOf_lt arg 10 (by omega)
    obtain ⟨m, hm2⟩ : ∃ m : Nat, pickOf arg 10 = (m : Int) := ⟨(pickOf arg 10).toNat, by omega⟩
    have HS2 : Hid (spellC 94 arg = [94, 48 + m]) := by show _ = _; unfold spellC; rw [hm2]; rfl
    rw [hm2] at hm ⊢
    obtain ⟨hm0, hm1⟩ := hm
    clear hm2 HM
    go_wp2
    go_ret
    exact ⟨⟨_, rfl, by rw [HS.out, HS2.out]; exact bytesOf_two _ _ (by omega) (by omega) _ _ (by rfl) (by omega)⟩, (Below.refl _ _).alloc (Nat.le_refl _) _⟩
  · go_wp2_with fail
    refine (pick_any arg 10 _ HA.out (by omega) (by omega)).mono ?_
    rintro e w2 ⟨rfl, rfl⟩
    have hm := pickOf_lt arg 10 (by omega)
    obtain ⟨m, hm2⟩ : ∃ m : Nat, pickOf arg 10 = (m : Int) := ⟨(pickOf arg 10).toNat, by omega⟩
    have HS2 : Hid (spellC 60 arg = [60, 48 + m]) := by show _ = _; unfold spellC; rw [hm2]; rfl
    rw [hm2] at hm ⊢
    obtain ⟨hm0, hm1⟩ := hm
    clear hm2 HM
    go_wp2
    go_ret
    exact ⟨⟨_, rfl, by rw [HS.out, HS2.out]; exact bytesOf_two _ _ (by omega) (by omega) _ _ (by rfl) (by omega)⟩, (Below.refl _ _).alloc (Nat.le_refl _) _⟩
  · go_wp2_with fail
    refine (pick_any arg 9 _ HA.out (by omega) (by omega)).mono ?_
    rintro e w2 ⟨rfl, rfl⟩
    have hm := pickOf_lt arg 9 (by omega)
    obtain ⟨m, hm2⟩ : ∃ m : Nat, pickOf arg 9 = (m : Int) := ⟨(pickOf arg 9).toNat, by omega⟩
    have HS2 : Hid (spellC 63 arg = [63, 49 + m]) := by show _ = _; unfold spellC; rw [hm2]; rfl
    rw [hm2] at hm ⊢
    obtain ⟨hm0, hm1⟩ := hm
    clear hm2 HM
    go_wp2
    go_ret
    exact ⟨⟨_, rfl, by rw [HS.out, HS2.out]; exact bytesOf_two _ _ (by omega) (by omega) _ _ (by rfl) (by omega)⟩, (Below.refl _ _).alloc (Nat.le_refl _) _⟩
  · have HS2 : Hid (spellC 33 arg = [33]) := by show _ = _; rfl
    clear HM
    go_wp2
    go_ret
    exact ⟨⟨_, rfl, by rw [HS.out, HS2.out]; exact bytesOf_one _ (by omega) _ (by rfl)⟩, (Below.refl _ _).alloc (Nat.le_refl _) _⟩
  · have HS2 : Hid (spellC 91 arg = [91]) := by show _ = _; rfl
    clear HM
    go_wp2
    go_ret
    exact ⟨⟨_, rfl, by rw [HS.out, HS2.out]; exact bytesOf_one _ (by omega) _ (by rfl)⟩, (Below.refl _ _).alloc (Nat.le_refl _) _⟩
  · have HS2 : Hid (spellC 93 arg = [93]) := by show _ = _; rfl
    clear HM
    go_wp2
    go_ret
    exact ⟨⟨_, rfl, by rw [HS.out, HS2.out]; exact bytesOf_one _ (by omega) _ (by rfl)⟩, (Below.refl _ _).alloc (Nat.le_refl _) _⟩

theorem spellOf_cases (k arg : Int) : ∃ c : Nat, (c = 33 ∧ spellOf k arg = [c]) ∨ (c = 91 ∧ spellOf k arg = [c]) ∨ (c = 93 ∧ spellOf k arg = [c]) ∨ (∃ n : Nat, Pl.takesName c = true ∧ Pl.isName c n = true ∧ n < 256 ∧ spellOf k arg = [c, n]) := by
  have hj := pickOf_lt k 17 (by omega)
  have hmem := kinds_mem (pickOf k 17).toNat (by omega)
  have h4 := pickOf_lt arg 4 (by omega)
  have h2 := pickOf_lt arg 2 (by omega)
  have h9 := pickOf_lt arg 9 (by omega)
  have h10 := pickOf_lt arg 10 (by omega)
  unfold spellOf
  generalize kindsL.getD (pickOf k 17).toNat 0 = c at *
  refine ⟨c, ?_⟩
  rcases hmem with rfl | rfl | rfl | rfl | rfl | rfl | rfl | rfl | rfl | rfl | rfl | rfl | rfl
  · exact .inr (.inr (.inr ⟨_, rfl, by simp [Pl.isName]; omega, by omega, rfl⟩))
  · exact .inr (.inr (.inr ⟨_, rfl, by simp [Pl.isName]; omega, by omega, rfl⟩))
  · exact .inr (.inr (.inr ⟨_, rfl, by simp [Pl.isName]; omega, by omega, rfl⟩))
  · exact .inr (.inr (.inr ⟨_, rfl, by simp [Pl.isName]; omega, by omega, rfl⟩))
  · exact .inr (.inr (.inr ⟨_, rfl, by simp [Pl.isName]; omega, by omega, rfl⟩))
  · exact .inr (.inr (.inr ⟨_, rfl, by simp [Pl.isName]; omega, by omega, rfl⟩))
  · exact .inr (.inr (.inr ⟨_, rfl, by simp [Pl.isName]; omega, by omega, rfl⟩))
  · exact .inr (.inr (.inr ⟨_, rfl, by simp [Pl.isName]; omega, by omega, rfl⟩))
  · exact .inr (.inr (.inr ⟨_, rfl, by simp [Pl.isName]; omega, by omega, rfl⟩))
  · exact .inr (.inr (.inr ⟨_, rfl, by simp [Pl.isName]; omega, by omega, rfl⟩))
  · exact .inl ⟨rfl, rfl⟩
  · exact .inr (.inl ⟨rfl, rfl⟩)
  · exact .inr (.inr (.inl ⟨rfl, rfl⟩))

end Go.Proofs.Ytfdafcnfefbcbab
