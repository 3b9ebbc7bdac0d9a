/-
 The contracts of the reference's Place and New.
-/
import Derived.Test.YtfdafcnfefbcbabGreatNew
namespace Go.Proofs.YtfdafcnfefbcbabGreat
open Go.RowKit
set_option linter.unusedVariables false
set_option maxRecDepth 100000
set_option maxHeartbeats 4000000

theorem wantsB_none {k : Nat} (h : Pl.takesName k = false) : wantsB k = ⟨#[]⟩ := by
 unfold Pl.takesName at h
 unfold wantsB
 repeat' split
 all_goals simp_all
theorem wantsB_empty (k : Nat) : (wantsB k).toList.isEmpty = !(Pl.takesName k) := by
 cases h : Pl.takesName k
 ·rw [wantsB_none h]; simp
 ·unfold Pl.takesName at h
  unfold wantsB
  repeat' split
  all_goals first | decide | (simp_all; done)

theorem among_wants (k c : Nat) (h : Pl.takesName k = true) : amongB c (wantsB k) = Pl.isName k c := by
 unfold Pl.takesName at h
 unfold amongB wantsB Pl.isName
 rw [Bool.eq_iff_iff]
 repeat' split
 all_goals (simp at *; try omega)

theorem wantsB_size (k : Nat) : (wantsB k).size ≤ 10 := by
 unfold wantsB
 repeat' split
 all_goals decide

def stOf : Bool → Int
 | true => 1
 | false => 0

theorem place_end (inside : Bool) (lines k i : Nat) : Pl.place inside lines k i [] = if k != 0 || inside then (i : Int) else -1 := by cases inside <;> simp [Pl.place]
theorem place_name {inside : Bool} {lines k i c : Nat} {r : List Nat} (hk : (k != 0) = true) : Pl.place inside lines k i (c :: r) = if Pl.isName k c then Pl.place inside lines 0 (i + 1) r else i := by
 rw [Pl.place]; simp only [hk, if_true]
theorem place_takes {inside : Bool} {lines i c : Nat} {r : List Nat} (h : Pl.takesName c = true) : Pl.place inside lines 0 i (c :: r) = Pl.place inside lines c (i + 1) r := by
 rw [Pl.place]; simp [h]
theorem place_other {inside : Bool} {lines i c : Nat} {r : List Nat} (h : Pl.takesName c = false) : Pl.place inside lines 0 i (c :: r) =
  if c == 33 then Pl.place inside lines 0 (i + 1) r
  else if c == 91 && !inside then Pl.place true lines 0 (i + 1) r
  else if c == 93 && inside then Pl.place false lines 0 (i + 1) r
  else if c == 10 && !inside && decide (lines < 4) then Pl.place inside (lines + 1) 0 (i + 1) r
  else i := by
 rw [Pl.place]; simp [h]

theorem place_any (s : ByteArray) (w : World) (hs : s.size ≤ 1000) : Calls Tryz.prog 52 #[.string s] w fun e w' => e = .returned (.int .i64 (Pl.place false 1 0 0 (bytesOf s))) ∧ w' = w := by
 go_enter Tryz.func52, Tryz.ntmps52
 go_wp2
 go_loop [3, 4, 5, 6] (fun st ln wt t => ∃ (i k lines : Nat) (inside : Bool), i ≤ s.size ∧ t = .int .i64 i ∧ st = .int .i64 (stOf inside) ∧ ln = .int .i64 lines ∧ lines ≤ 4 ∧ wt = .string (wantsB k) ∧ Hid ((k = 0 ∨ Pl.takesName k = true) ∧ Pl.place false 1 0 0 (bytesOf s) = Pl.place inside lines k i ((bytesOf s).drop i))) (fun _ _ _ t => s.size - (intOf t).toNat)
 case atStart => exact ⟨0, 0, 1, false, Nat.zero_le _, rfl, rfl, rfl, by omega, rfl, Or.inl rfl, by simp⟩
 case round =>
  obtain ⟨i, k, lines, inside, hi, rfl, rfl, rfl, hl4, rfl, HH⟩ := hrel
  by_cases hlt : i < s.size
  ·have HP := HH.out.2
   rw [bytesOf_drop s i hlt] at HP
   cases hk : Pl.takesName k
   ·have hemp : (wantsB k).toList.isEmpty = true := by rw [wantsB_empty, hk]; rfl
    have hk0 : k = 0 := by rcases HH.out.1 with h | h; exact h; rw [hk] at h; cases h
    subst hk0
    cases ht : Pl.takesName s[i].toNat
    ·rw [place_other ht] at HP
     have hemp2 : (wantsB s[i].toNat).toList.isEmpty = true := by rw [wantsB_empty, ht]; rfl
     have hwn : Hid (Value.string (wantsB s[i].toNat) = .string (wantsB 0)) := by show Value.string (wantsB s[i].toNat) = _; rw [wantsB_none ht]; rfl
     have HQ : Hid _ := HP
     clear HP
     cases inside
     ·rw [show stOf false = 0 from rfl]
      by_cases c33 : s[i].toNat = 33
      ·have b33 : ((s[i].toNat : Int) == 33) = true := by simp; omega
       have HV : Hid ((if (s[i].toNat == 33) = true then Pl.place false lines 0 (i + 1) ((bytesOf s).drop (i + 1)) else if (s[i].toNat == 91 && !false) = true then Pl.place true lines 0 (i + 1) ((bytesOf s).drop (i + 1)) else if (s[i].toNat == 93 && false) = true then Pl.place false lines 0 (i + 1) ((bytesOf s).drop (i + 1)) else if (s[i].toNat == 10 && !false && decide (lines < 4)) = true then Pl.place false (lines + 1) 0 (i + 1) ((bytesOf s).drop (i + 1)) else (i : Int)) = Pl.place false (lines) 0 (i + 1) ((bytesOf s).drop (i + 1))) := by show _ = _; simp [c33]
       clear c33
       go_wp2_with (go_at_call 75; refine (wants_any _ _).mono ?_; rintro e w' ⟨rfl, rfl⟩)
       go_round
       case rel => exact ⟨i + 1, 0, lines, false, by omega, by go_num, rfl, rfl, hl4, hwn.out, Or.inl rfl, HQ.out.trans HV.out⟩
       case measure => simp [intOf]; omega
      ·have b33 : ((s[i].toNat : Int) == 33) = false := by simp; omega
       by_cases c91 : s[i].toNat = 91
       ·have b91 : ((s[i].toNat : Int) == 91) = true := by simp; omega
        have b93 : ((s[i].toNat : Int) == 93) = false := by simp; omega
        have b10 : ((s[i].toNat : Int) == 10) = false := by simp; omega
        have HV : Hid ((if (s[i].toNat == 33) = true then Pl.place false lines 0 (i + 1) ((bytesOf s).drop (i + 1)) else if (s[i].toNat == 91 && !false) = true then Pl.place true lines 0 (i + 1) ((bytesOf s).drop (i + 1)) else if (s[i].toNat == 93 && false) = true then Pl.place false lines 0 (i + 1) ((bytesOf s).drop (i + 1)) else if (s[i].toNat == 10 && !false && decide (lines < 4)) = true then Pl.place false (lines + 1) 0 (i + 1) ((bytesOf s).drop (i + 1)) else (i : Int)) = Pl.place true (lines) 0 (i + 1) ((bytesOf s).drop (i + 1))) := by show _ = _; simp [c91]
        clear c91 c33
        go_wp2_with (go_at_call 75; refine (wants_any _ _).mono ?_; rintro e w' ⟨rfl, rfl⟩)
        go_round
        case rel => exact ⟨i + 1, 0, lines, true, by omega, by go_num, rfl, rfl, hl4, hwn.out, Or.inl rfl, HQ.out.trans HV.out⟩
        case measure => simp [intOf]; omega
       ·have b91 : ((s[i].toNat : Int) == 91) = false := by simp; omega
        by_cases c93 : s[i].toNat = 93
        ·have b93 : ((s[i].toNat : Int) == 93) = true := by simp; omega
         have b10 : ((s[i].toNat : Int) == 10) = false := by simp; omega
         have HV : Hid ((if (s[i].toNat == 33) = true then Pl.place false lines 0 (i + 1) ((bytesOf s).drop (i + 1)) else if (s[i].toNat == 91 && !false) = true then Pl.place true lines 0 (i + 1) ((bytesOf s).drop (i + 1)) else if (s[i].toNat == 93 && false) = true then Pl.place false lines 0 (i + 1) ((bytesOf s).drop (i + 1)) else if (s[i].toNat == 10 && !false && decide (lines < 4)) = true then Pl.place false (lines + 1) 0 (i + 1) ((bytesOf s).drop (i + 1)) else (i : Int)) = (i : Int)) := by show _ = _; simp [c93]
         clear c91 c33 c93
         go_wp2_with (go_at_call 75; refine (wants_any _ _).mono ?_; rintro e w' ⟨rfl, rfl⟩)
         go_ret
         exact ⟨ret_int (HQ.out.trans HV.out).symm, rfl⟩
        ·have b93 : ((s[i].toNat : Int) == 93) = false := by simp; omega
         by_cases c10 : s[i].toNat = 10
         ·have b10 : ((s[i].toNat : Int) == 10) = true := by simp; omega
          by_cases c4 : lines < 4
          ·have b4 : (lines : Int) < 4 := by omega
           have HV : Hid ((if (s[i].toNat == 33) = true then Pl.place false lines 0 (i + 1) ((bytesOf s).drop (i + 1)) else if (s[i].toNat == 91 && !false) = true then Pl.place true lines 0 (i + 1) ((bytesOf s).drop (i + 1)) else if (s[i].toNat == 93 && false) = true then Pl.place false lines 0 (i + 1) ((bytesOf s).drop (i + 1)) else if (s[i].toNat == 10 && !false && decide (lines < 4)) = true then Pl.place false (lines + 1) 0 (i + 1) ((bytesOf s).drop (i + 1)) else (i : Int)) = Pl.place false (lines + 1) 0 (i + 1) ((bytesOf s).drop (i + 1))) := by show _ = _; simp [c10, c4]
           clear c91 c33 c93 c10
           go_wp2_with (go_at_call 75; refine (wants_any _ _).mono ?_; rintro e w' ⟨rfl, rfl⟩)
           go_round
           case rel => exact ⟨i + 1, 0, lines + 1, false, by omega, by go_num, rfl, by go_num, by omega, hwn.out, Or.inl rfl, HQ.out.trans HV.out⟩
           case measure => simp [intOf]; omega
          ·have b4 : ¬ (lines : Int) < 4 := by omega
           have HV : Hid ((if (s[i].toNat == 33) = true then Pl.place false lines 0 (i + 1) ((bytesOf s).drop (i + 1)) else if (s[i].toNat == 91 && !false) = true then Pl.place true lines 0 (i + 1) ((bytesOf s).drop (i + 1)) else if (s[i].toNat == 93 && false) = true then Pl.place false lines 0 (i + 1) ((bytesOf s).drop (i + 1)) else if (s[i].toNat == 10 && !false && decide (lines < 4)) = true then Pl.place false (lines + 1) 0 (i + 1) ((bytesOf s).drop (i + 1)) else (i : Int)) = (i : Int)) := by show _ = _; simp [c10, c4]
           clear c91 c33 c93 c10
           go_wp2_with (go_at_call 75; refine (wants_any _ _).mono ?_; rintro e w' ⟨rfl, rfl⟩)
           go_ret
           exact ⟨ret_int (HQ.out.trans HV.out).symm, rfl⟩
         ·have b10 : ((s[i].toNat : Int) == 10) = false := by simp; omega
          have HV : Hid ((if (s[i].toNat == 33) = true then Pl.place false lines 0 (i + 1) ((bytesOf s).drop (i + 1)) else if (s[i].toNat == 91 && !false) = true then Pl.place true lines 0 (i + 1) ((bytesOf s).drop (i + 1)) else if (s[i].toNat == 93 && false) = true then Pl.place false lines 0 (i + 1) ((bytesOf s).drop (i + 1)) else if (s[i].toNat == 10 && !false && decide (lines < 4)) = true then Pl.place false (lines + 1) 0 (i + 1) ((bytesOf s).drop (i + 1)) else (i : Int)) = (i : Int)) := by show _ = _; simp [c33, c91, c10]
          clear c91 c33 c93 c10
          go_wp2_with (go_at_call 75; refine (wants_any _ _).mono ?_; rintro e w' ⟨rfl, rfl⟩)
          go_ret
          exact ⟨ret_int (HQ.out.trans HV.out).symm, rfl⟩
     ·rw [show stOf true = 1 from rfl]
      by_cases c33 : s[i].toNat = 33
      ·have b33 : ((s[i].toNat : Int) == 33) = true := by simp; omega
       have HV : Hid ((if (s[i].toNat == 33) = true then Pl.place true lines 0 (i + 1) ((bytesOf s).drop (i + 1)) else if (s[i].toNat == 91 && !true) = true then Pl.place true lines 0 (i + 1) ((bytesOf s).drop (i + 1)) else if (s[i].toNat == 93 && true) = true then Pl.place false lines 0 (i + 1) ((bytesOf s).drop (i + 1)) else if (s[i].toNat == 10 && !true && decide (lines < 4)) = true then Pl.place true (lines + 1) 0 (i + 1) ((bytesOf s).drop (i + 1)) else (i : Int)) = Pl.place true (lines) 0 (i + 1) ((bytesOf s).drop (i + 1))) := by show _ = _; simp [c33]
       clear c33
       go_wp2_with (go_at_call 75; refine (wants_any _ _).mono ?_; rintro e w' ⟨rfl, rfl⟩)
       go_round
       case rel => exact ⟨i + 1, 0, lines, true, by omega, by go_num, rfl, rfl, hl4, hwn.out, Or.inl rfl, HQ.out.trans HV.out⟩
       case measure => simp [intOf]; omega
      ·have b33 : ((s[i].toNat : Int) == 33) = false := by simp; omega
       by_cases c91 : s[i].toNat = 91
       ·have b91 : ((s[i].toNat : Int) == 91) = true := by simp; omega
        have b93 : ((s[i].toNat : Int) == 93) = false := by simp; omega
        have b10 : ((s[i].toNat : Int) == 10) = false := by simp; omega
        have HV : Hid ((if (s[i].toNat == 33) = true then Pl.place true lines 0 (i + 1) ((bytesOf s).drop (i + 1)) else if (s[i].toNat == 91 && !true) = true then Pl.place true lines 0 (i + 1) ((bytesOf s).drop (i + 1)) else if (s[i].toNat == 93 && true) = true then Pl.place false lines 0 (i + 1) ((bytesOf s).drop (i + 1)) else if (s[i].toNat == 10 && !true && decide (lines < 4)) = true then Pl.place true (lines + 1) 0 (i + 1) ((bytesOf s).drop (i + 1)) else (i : Int)) = (i : Int)) := by show _ = _; simp [c91]
        clear c91 c33
        go_wp2_with (go_at_call 75; refine (wants_any _ _).mono ?_; rintro e w' ⟨rfl, rfl⟩)
        go_ret
        exact ⟨ret_int (HQ.out.trans HV.out).symm, rfl⟩
       ·have b91 : ((s[i].toNat : Int) == 91) = false := by simp; omega
        by_cases c93 : s[i].toNat = 93
        ·have b93 : ((s[i].toNat : Int) == 93) = true := by simp; omega
         have b10 : ((s[i].toNat : Int) == 10) = false := by simp; omega
         have HV : Hid ((if (s[i].toNat == 33) = true then Pl.place true lines 0 (i + 1) ((bytesOf s).drop (i + 1)) else if (s[i].toNat == 91 && !true) = true then Pl.place true lines 0 (i + 1) ((bytesOf s).drop (i + 1)) else if (s[i].toNat == 93 && true) = true then Pl.place false lines 0 (i + 1) ((bytesOf s).drop (i + 1)) else if (s[i].toNat == 10 && !true && decide (lines < 4)) = true then Pl.place true (lines + 1) 0 (i + 1) ((bytesOf s).drop (i + 1)) else (i : Int)) = Pl.place false (lines) 0 (i + 1) ((bytesOf s).drop (i + 1))) := by show _ = _; simp [c93]
         clear c91 c33 c93
         go_wp2_with (go_at_call 75; refine (wants_any _ _).mono ?_; rintro e w' ⟨rfl, rfl⟩)
         go_round
         case rel => exact ⟨i + 1, 0, lines, false, by omega, by go_num, rfl, rfl, hl4, hwn.out, Or.inl rfl, HQ.out.trans HV.out⟩
         case measure => simp [intOf]; omega
        ·have b93 : ((s[i].toNat : Int) == 93) = false := by simp; omega
         by_cases c10 : s[i].toNat = 10
         ·have b10 : ((s[i].toNat : Int) == 10) = true := by simp; omega
          have HV : Hid ((if (s[i].toNat == 33) = true then Pl.place true lines 0 (i + 1) ((bytesOf s).drop (i + 1)) else if (s[i].toNat == 91 && !true) = true then Pl.place true lines 0 (i + 1) ((bytesOf s).drop (i + 1)) else if (s[i].toNat == 93 && true) = true then Pl.place false lines 0 (i + 1) ((bytesOf s).drop (i + 1)) else if (s[i].toNat == 10 && !true && decide (lines < 4)) = true then Pl.place true (lines + 1) 0 (i + 1) ((bytesOf s).drop (i + 1)) else (i : Int)) = (i : Int)) := by show _ = _; simp [c10]
          clear c91 c33 c93 c10
          go_wp2_with (go_at_call 75; refine (wants_any _ _).mono ?_; rintro e w' ⟨rfl, rfl⟩)
          go_ret
          exact ⟨ret_int (HQ.out.trans HV.out).symm, rfl⟩
         ·have b10 : ((s[i].toNat : Int) == 10) = false := by simp; omega
          have HV : Hid ((if (s[i].toNat == 33) = true then Pl.place true lines 0 (i + 1) ((bytesOf s).drop (i + 1)) else if (s[i].toNat == 91 && !true) = true then Pl.place true lines 0 (i + 1) ((bytesOf s).drop (i + 1)) else if (s[i].toNat == 93 && true) = true then Pl.place false lines 0 (i + 1) ((bytesOf s).drop (i + 1)) else if (s[i].toNat == 10 && !true && decide (lines < 4)) = true then Pl.place true (lines + 1) 0 (i + 1) ((bytesOf s).drop (i + 1)) else (i : Int)) = (i : Int)) := by show _ = _; simp [c33, c93]
          clear c91 c33 c93 c10
          go_wp2_with (go_at_call 75; refine (wants_any _ _).mono ?_; rintro e w' ⟨rfl, rfl⟩)
          go_ret
          exact ⟨ret_int (HQ.out.trans HV.out).symm, rfl⟩
    ·rw [place_takes ht] at HP
     have hemp2 : (wantsB s[i].toNat).toList.isEmpty = false := by rw [wantsB_empty, ht]; rfl
     have HQ : Hid _ := HP
     clear HP
     go_wp2_with (go_at_call 75; refine (wants_any _ _).mono ?_; rintro e w' ⟨rfl, rfl⟩)
     go_round
     case rel => exact ⟨i + 1, _, lines, inside, by omega, by go_num, rfl, rfl, hl4, rfl, Or.inr ht, HQ.out⟩
     case measure => simp [intOf]; omega
   ·have hemp : (wantsB k).toList.isEmpty = false := by rw [wantsB_empty, hk]; rfl
    have hsz := wantsB_size k
    rw [place_name (Pl.takes_ne hk).2.2.2.2] at HP
    have HA : Hid _ := among_wants k s[i].toNat hk
    cases hn : Pl.isName k s[i].toNat
    ·rw [hn] at HP
     have HQ : Hid _ := HP
     clear HP
     have ha : amongB s[i].toNat (wantsB k) = false := HA.out.trans hn
     go_wp2_with (go_at_call 53; refine (among_any _ _ _ (by unfold maxLen; omega)).mono ?_; rintro e w' ⟨rfl, rfl⟩)
     go_ret
     exact ⟨ret_int HQ.out.symm, rfl⟩
    ·rw [hn] at HP
     have HQ : Hid _ := HP
     clear HP
     have ha : amongB s[i].toNat (wantsB k) = true := HA.out.trans hn
     go_wp2_with (go_at_call 53; refine (among_any _ _ _ (by unfold maxLen; omega)).mono ?_; rintro e w' ⟨rfl, rfl⟩)
     go_round
     case rel => exact ⟨i + 1, 0, lines, inside, by omega, by go_num, rfl, rfl, hl4, rfl, Or.inl rfl, HQ.out⟩
     case measure => simp [intOf]; omega
  ·have e : i = s.size := by omega
   subst e
   have HP := HH.out.2
   rw [bytesOf_end, place_end] at HP
   have HQ : Hid _ := HP
   clear HP
   cases hk : Pl.takesName k
   ·have hemp : (wantsB k).toList.isEmpty = true := by rw [wantsB_empty, hk]; rfl
    have hk0 : k = 0 := by rcases HH.out.1 with h | h; exact h; rw [hk] at h; cases h
    subst hk0
    cases inside
    ·rw [show stOf false = 0 from rfl]
     go_wp2
     go_ret
     exact ⟨ret_int (HQ.out.trans rfl).symm, rfl⟩
    ·rw [show stOf true = 1 from rfl]
     go_wp2
     go_ret
     exact ⟨ret_int (HQ.out.trans rfl).symm, rfl⟩
   ·have hemp : (wantsB k).toList.isEmpty = false := by rw [wantsB_empty, hk]; rfl
    go_wp2
    go_ret
    exact ⟨ret_int (HQ.out.trans (by rw [(Pl.takes_ne hk).2.2.2.2]; rfl)).symm, rfl⟩

end Go.Proofs.YtfdafcnfefbcbabGreat
