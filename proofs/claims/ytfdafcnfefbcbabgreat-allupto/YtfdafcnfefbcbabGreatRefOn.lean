/-
 The contract of the reference's on: a thread goes on till it stands at a shared operation, has ended or has failed.
-/
import Derived.Test.YtfdafcnfefbcbabGreatRfa
namespace Go.Proofs.YtfdafcnfefbcbabGreat
open Go.RowKit
set_option linter.unusedVariables false
set_option maxRecDepth 100000
set_option maxHeartbeats 4000000
attribute [local go_sem ↓] Go.wp_at_zero Go.wp_at_succ

theorem on_walk (r : List Pl.POp) (s : ByteArray) (t : Th) (n b tb bY : Nat) (m tcap lcap : Nat) (la : Nat) (w : World) (hr : RowOk r) (hs : bytesOf s = textOf r) (hsz : s.size ≤ 1000) (hn : n < m)
  (c0 : w.cell? ⟨b, 0, none⟩ = some (.pointer (some ⟨bY, 0, none⟩))) (c5 : w.cell? ⟨b, 5, none⟩ = some (.slice (some ⟨tb, 0, none⟩) m tcap)) (y0 : w.cell? ⟨bY, 0, none⟩ = some (.slice (some ⟨la, 0, none⟩) m lcap)) (l0 : w.cell? ⟨la, n, none⟩ = some (.string s))
  (hth : ThAt w tb n (atOf r t) t.reg) (hp : t.pos ≤ r.length) (hg : In16 t.reg) :
  Calls Tryz.prog 58 #[.pointer (some ⟨b, 0, none⟩), .int .i64 (n : Int)] w
   fun e w' => e = .returned (.tuple #[]) ∧ OnlyTh tb n w w' ∧ ThAt w' tb n (atOf r (settle r (r.length + 1) t)) (settle r (r.length + 1) t).reg := by
 have HR : Hid (RowOk r) := hr
 have HS : Hid _ := hs
 have HTH : Hid _ := hth
 have HLEN : Hid ((textOf r).length = s.size) := by show _ = _; rw [← hs]; exact bytesOf_length s
 have hn' : (n : Int) < (m : Int) := by omega
 have hn0 : (0 : Int) ≤ (n : Int) := by omega
 clear hr hs hth
 go_enter Tryz.func58, Tryz.ntmps58
 go_wp2_with fail
 go_loopg [] (r.length + 1) (fun f wr => ∃ t', Hid (OnInv r t tb n w wr f t'))
 case atStart => exact ⟨t, (show Hid _ from ⟨OnlyTh.refl _ _ _, HTH.out, rfl, by omega, hp, hg⟩)⟩
 case round =>
  obtain ⟨t', H1⟩ := hrel
  obtain ⟨a1, g1, f1⟩ := H1.out.at_
  clear c0 c5 y0 l0
  cases ho : opAt t' r with
  | none =>
   have HE : Hid (settle r (r.length + 1) t = t') := H1.out.set_.trans (settle_none ho _)
   have hat : atOf r t' = -1 ∨ atOf r t' = (s.size : Int) := by
    unfold atOf
    unfold opAt at ho
    split
    ·exact Or.inl rfl
    ·rename_i hf
     rw [if_neg hf] at ho
     right
     rw [offs_all r _ (by rwa [List.getElem?_eq_none_iff] at ho), HLEN.out]
   have HFIN : Hid (OnlyTh tb n w wr ∧ ThAt wr tb n (atOf r (settle r (r.length + 1) t)) (settle r (r.length + 1) t).reg) := by
    show _ ∧ _
    rw [HE.out]; exact ⟨H1.out.only, H1.out.at_⟩
   clear ho
   rcases hat with hat | hat
   ·as_aux_lemma =>
     rw [hat] at a1
     go_wp2
     go_end0
     exact ⟨rfl, HFIN.out⟩
   ·as_aux_lemma =>
     rw [hat] at a1
     go_wp2
     go_end0
     exact ⟨rfl, HFIN.out⟩
  | some o =>
   have hnf : t'.failed = false := by
    unfold opAt at ho
    split at ho
    ·cases ho
    ·rename_i h; simpa using h
   have hro : r[t'.pos]? = some o := by unfold opAt at ho; rw [hnf] at ho; exact ho
   have hA : atOf r t' = (offs r t'.pos : Int) := by unfold atOf; rw [hnf]; rfl
   have hbk : (bytesOf s)[offs r t'.pos]? = some o.kind := by rw [HS.out]; exact text_kind hro
   obtain ⟨hAs, hk⟩ := byte_at hbk
   have hoff := offs_succ hro
   have hlen := offs_lt hro
   rw [HLEN.out] at hlen
   have HOP : Hid (OpOk o) := HR.out.ops o (opAt_lt ho).2
   have HSET : Hid (Pl.isShared o.kind = false → settle r (r.length + 1) t = settle r (gk - 1) (ownStep t' r o)) := fun hsh => by
    have hfu := H1.out.fuel
    have hlt := (opAt_lt ho).1
    rw [H1.out.set_, show gk = (gk - 1) + 1 by omega]; exact settle_own ho hsh _
   have HSH : Hid (Pl.isShared o.kind = true → settle r (r.length + 1) t = t') := fun hsh => H1.out.set_.trans (settle_shared ho hsh _)
   have HLT : Hid (t'.pos < r.length) := (opAt_lt ho).1
   have HNM : Hid (Pl.takesName o.kind = true → ∃ h : offs r t'.pos + 1 < s.size, s[offs r t'.pos + 1].toNat = o.name) := fun ht => byte_at (by rw [HS.out]; exact text_name hro ht)
   have HOFF : Hid _ := hoff
   rw [hA] at a1
   clear ho hbk hA hoff
   have HRO : Hid _ := hro
   clear hro
   have hA0 : (0 : Int) ≤ (offs r t'.pos : Int) := by omega
   have hAs' : (offs r t'.pos : Int) < (s.size : Int) := by omega
   have HAM := among_rwlu s[offs r t'.pos].toNat
   rw [hk] at HAM
   have HKD : Hid _ := hk
   cases hsh : Pl.isShared o.kind
   ·rw [hsh] at HAM
    have HSE : Hid _ := HSET.out hsh
    have HREG : Hid (In16 t'.reg) := H1.out.reg
    have hg0 : -32768 ≤ t'.reg := H1.out.reg.1
    have hg9 : t'.reg ≤ 32767 := H1.out.reg.2
    rcases own_kinds HOP.out hsh with ⟨d, hd9, hnm, hdig, htn, hkk⟩ | ⟨htn, hkk⟩
    ·obtain ⟨hA1, hk1⟩ := HNM.out htn
     rw [hnm] at hk1
     have hos : (opSize o.kind : Int) = 2 := by unfold opSize; rw [htn]; rfl
     go_upto_region 8 with (first | (go_at_call 53; refine (among_any _ _ _ (by decide)).mono ?_; rintro e w' ⟨rfl, rfl⟩) | (go_at_call 82; refine (size_any s (offs r t'.pos) _ hAs hsz).mono ?_; rintro e w' ⟨rfl, rfl⟩))
     have HT2 : Hid (ThAt (w'.setCell ⟨tb, n * 2, none⟩ (.int .i64 ((offs r t'.pos : Int) + 2))) tb n ((offs r t'.pos : Int) + 2) t'.reg) := ThAt.putA ⟨a1, g1, f1⟩ _
     have HO2 : Hid (OnlyTh tb n w (w'.setCell ⟨tb, n * 2, none⟩ (.int .i64 ((offs r t'.pos : Int) + 2)))) := H1.out.only.put _ (Or.inl rfl) _
     have HRK : Hid (digitOf o.name = d) := hdig
     have HNXT : Hid (offs r (t'.pos + 1) = offs r t'.pos + 2) := by have := HOFF.out; show _ = _; omega
     go_upto_region 9 with fail
     rw [show (48 + (d : Int) - 48) = (d : Int) by omega]
     generalize w'.setCell ⟨tb, n * 2, none⟩ (.int .i64 ((offs r t'.pos : Int) + 2)) = X at *
     clear a1 g1 f1 hk hk1 HAM hos hA1 hAs' hA0 hn' hn0 hlen HNM htn
     have hd0 : (0 : Int) ≤ (d : Int) := by omega
     have hd9' : (d : Int) ≤ 9 := by omega
     obtain ⟨a2, g2, f2⟩ := HT2.out
     -- what a round leaves that only reckons
     have HDONE : Hid (∀ (X' : World) (y : Int), OnlyTh tb n w X' → ThAt X' tb n ((offs r t'.pos : Int) + 2) y → o.kind ≠ 33 → o.kind ≠ 63 → y = reck o.kind t'.reg d → In16 y → OnInv r t tb n w X' (gk - 1) (ownStep t' r o)) := fun X' y h1 h2 h33 h63 hy hin => by
      have he : ownStep t' r o = ⟨t'.pos + 1, t'.failed, reck o.kind t'.reg d, t'.h0, t'.h1⟩ := by unfold ownStep; rw [if_neg h33, if_neg h63, HRK.out]
      have hlt := HLT.out
      have hfu := H1.out.fuel
      refine ⟨h1, ?_, HSE.out, ?_, ?_, ?_⟩
      ·rw [he]
       unfold atOf
       rw [hnf]
       simp only [Bool.false_eq_true, if_false]
       rw [HNXT.out, ← hy]
       simpa using h2
      ·rw [he]; simp only; omega
      ·rw [he]; simp only; omega
      ·rw [he]; simp only; rw [← hy]; exact hin
     have hgk : Hid (gk - 1 < gk) := by have h1 := H1.out.fuel; have h2 := HLT.out; show _ < _; omega
     rcases hkk with hkk | hkk | hkk | hkk | hkk | hkk
     ·as_aux_lemma =>
       rw [hkk]
       go_wp2_with (go_at_call 83; refine (wrap_any _ _).mono ?_; rintro e w2 ⟨rfl, rfl⟩)
       go_roundg (gk - 1)
       case measure => exact hgk.out
       case rel =>
        refine ⟨_, (show Hid _ from HDONE.out _ _ (HO2.out.put _ (Or.inr rfl) _) (HT2.out.putG _) (by omega) (by omega) ?_ (in16_wrap _))⟩
        rw [hkk]
        rfl
     ·as_aux_lemma =>
       rw [hkk]
       go_wp2_with (go_at_call 83; refine (wrap_any _ _).mono ?_; rintro e w2 ⟨rfl, rfl⟩)
       go_roundg (gk - 1)
       case measure => exact hgk.out
       case rel =>
        refine ⟨_, (show Hid _ from HDONE.out _ _ (HO2.out.put _ (Or.inr rfl) _) (HT2.out.putG _) (by omega) (by omega) ?_ (in16_wrap _))⟩
        rw [hkk]
        rfl
     ·as_aux_lemma =>
       rw [hkk]
       have hm0 : -294912 ≤ t'.reg * (d : Int) := by
        have h1 : t'.reg * (d : Int) ≥ -32768 * (d : Int) := Int.mul_le_mul_of_nonneg_right (by omega) hd0
        omega
       have hm9 : t'.reg * (d : Int) ≤ 294903 := by
        have h1 : t'.reg * (d : Int) ≤ 32767 * (d : Int) := Int.mul_le_mul_of_nonneg_right (by omega) hd0
        omega
       go_wp2_with (go_at_call 83; refine (wrap_any _ _).mono ?_; rintro e w2 ⟨rfl, rfl⟩)
       go_roundg (gk - 1)
       case measure => exact hgk.out
       case rel =>
        refine ⟨_, (show Hid _ from HDONE.out _ _ (HO2.out.put _ (Or.inr rfl) _) (HT2.out.putG _) (by omega) (by omega) ?_ (in16_wrap _))⟩
        rw [hkk]
        rfl
     ·as_aux_lemma =>
       rw [hkk]
       go_wp2_with (go_at_call 83; refine (wrap_any _ _).mono ?_; rintro e w2 ⟨rfl, rfl⟩)
       go_roundg (gk - 1)
       case measure => exact hgk.out
       case rel =>
        refine ⟨_, (show Hid _ from HDONE.out _ _ (HO2.out.put _ (Or.inr rfl) _) (HT2.out.putG _) (by omega) (by omega) ?_ (in16_wrap _))⟩
        rw [hkk]
        exact xor16 t'.reg d (by omega)
     ·rw [hkk]
      go_wp2_with fail
      go_loopw [8] (fun v8 wz => ∃ k : Nat, k ≤ d ∧ v8 = .int .i64 (k : Int) ∧ Hid (OnlyTh tb n w wz ∧ ThAt wz tb n ((offs r t'.pos : Int) + 2) (IntKind.i16.wrap (t'.reg * 2 ^ (d - k))))) (fun v8 _ => (intOf v8).toNat)
      case atStart => exact ⟨d, Nat.le_refl _, rfl, (show Hid _ from ⟨HO2.out, by rw [Nat.sub_self, Int.pow_zero, Int.mul_one, wrap16_id HREG.out]; exact HT2.out⟩)⟩
      case round =>
       clear a2 g2 f2
       obtain ⟨k, hkd, rfl, HZ⟩ := hrel
       obtain ⟨a3, g3, f3⟩ := HZ.out.2
       by_cases hk0 : 0 < k
       ·have hk0' : (0 : Int) < (k : Int) := by omega
        have HIN : Hid (In16 (IntKind.i16.wrap (t'.reg * 2 ^ (d - k)))) := in16_wrap _
        have HSHL : Hid (IntKind.i16.wrap (2 * IntKind.i16.wrap (t'.reg * 2 ^ (d - k))) = IntKind.i16.wrap (t'.reg * 2 ^ (d - (k - 1)))) := by
         show _ = _
         rw [shl16, show d - k + 1 = d - (k - 1) by omega]
        have hy0 : -32768 ≤ IntKind.i16.wrap (t'.reg * 2 ^ (d - k)) := HIN.out.1
        have hy9 : IntKind.i16.wrap (t'.reg * 2 ^ (d - k)) ≤ 32767 := HIN.out.2
        generalize IntKind.i16.wrap (t'.reg * 2 ^ (d - k)) = y at *
        go_wp2_with (go_at_call 83; refine (wrap_any _ _).mono ?_; rintro e w2 ⟨rfl, rfl⟩)
        refine ⟨?_, ?measure⟩
        (repeat apply Exists.intro)
        refine ⟨?rel, rfl⟩
        case rel => exact ⟨k - 1, by omega, by go_num, (show Hid _ from ⟨HZ.out.1.put _ (Or.inr rfl) _, by rw [← HSHL.out]; exact HZ.out.2.putG _⟩)⟩
        case measure => simp [intOf]; omega
       ·have hk00 : k = 0 := by omega
        subst hk00
        go_wp2
        go_roundg (gk - 1)
        case measure => exact hgk.out
        case rel =>
         refine ⟨_, (show Hid _ from HDONE.out _ _ HZ.out.1 HZ.out.2 (by omega) (by omega) ?_ (in16_wrap _))⟩
         rw [hkk, Nat.sub_zero]
         rfl
     ·rw [hkk]
      have HOWN : Hid (ownStep t' r o = ⟨t'.pos + 1 + (if t'.reg = 0 then passed (r.drop (t'.pos + 1)) d else 0), t'.failed, t'.reg, t'.h0, t'.h1⟩) := by
       show _ = _
       unfold ownStep
       rw [if_neg (by omega), if_pos hkk, HRK.out]
      have HDON2 : Hid (∀ (X' : World) (q : Nat), OnlyTh tb n w X' → ThAt X' tb n (offs r (t'.pos + 1 + q) : Int) t'.reg → (if t'.reg = 0 then passed (r.drop (t'.pos + 1)) d else 0) = q → t'.pos + 1 + q ≤ r.length → OnInv r t tb n w X' (gk - 1) (ownStep t' r o)) := fun X' q h1 h2 hq hl => by
       have he : ownStep t' r o = ⟨t'.pos + 1 + q, t'.failed, t'.reg, t'.h0, t'.h1⟩ := by rw [HOWN.out, hq]
       have hfu := H1.out.fuel
       refine ⟨h1, ?_, HSE.out, ?_, ?_, ?_⟩
       ·rw [he]
        unfold atOf
        rw [hnf]
        exact h2
       ·rw [he]; simp only; omega
       ·rw [he]; exact hl
       ·rw [he]; exact HREG.out
      have HT3 : Hid (ThAt X tb n (offs r (t'.pos + 1) : Int) t'.reg) := by show ThAt _ _ _ _ _; rw [HNXT.out]; simpa using HT2.out
      cases hz : (t'.reg == 0)
      ·have HZ0 : Hid ((if t'.reg = 0 then passed (r.drop (t'.pos + 1)) d else 0) = 0) := by show _ = _; rw [if_neg (by simpa using hz)]
       go_wp2_with fail
       go_loopw [] (fun wz => wz = X) (fun _ => 0)
       case atStart => exact rfl
       case round =>
        obtain rfl := hrel
        go_wp2
        go_roundg (gk - 1)
        case measure => exact hgk.out
        case rel => exact ⟨_, (show Hid _ from HDON2.out _ 0 HO2.out HT3.out HZ0.out (by have := HLT.out; omega))⟩
      ·have HZ0 : Hid ((if t'.reg = 0 then passed (r.drop (t'.pos + 1)) d else 0) = passed (r.drop (t'.pos + 1)) d) := by show _ = _; rw [if_pos (by simpa using hz)]
       go_wp2_with fail
       go_loopw [8] (fun v8 wz => ∃ q : Nat, q ≤ d ∧ v8 = .int .i64 ((d - q : Nat) : Int) ∧ t'.pos + 1 + q ≤ r.length ∧ Hid (OnlyTh tb n w wz ∧ ThAt wz tb n (offs r (t'.pos + 1 + q) : Int) t'.reg ∧ passed (r.drop (t'.pos + 1)) d = q + passed (r.drop (t'.pos + 1 + q)) (d - q))) (fun v8 _ => (intOf v8).toNat)
       case atStart => exact ⟨0, Nat.zero_le _, rfl, by have := HLT.out; omega, (show Hid _ from ⟨HO2.out, HT3.out, by simp⟩)⟩
       case round =>
        clear a2 g2 f2
        obtain ⟨q, hqd, rfl, hql, HZ⟩ := hrel
        obtain ⟨a3, g3, f3⟩ := HZ.out.2.1
        have hoff0 : (0 : Int) ≤ (offs r (t'.pos + 1 + q) : Int) := by omega
        by_cases hq0 : q < d
        ·have hq0' : (0 : Int) < ((d - q : Nat) : Int) := by omega
         by_cases hend : t'.pos + 1 + q < r.length
         ·obtain ⟨o2, ho2⟩ : ∃ o2, r[t'.pos + 1 + q]? = some o2 := ⟨_, List.getElem?_eq_getElem hend⟩
          obtain ⟨hBs, hkb⟩ := byte_at (s := s) (i := offs r (t'.pos + 1 + q)) (c := o2.kind) (by rw [HS.out]; exact text_kind ho2)
          have HOF2 : Hid _ := offs_succ ho2
          have hlen2 := offs_lt ho2
          rw [HLEN.out] at hlen2
          have hsz2 := opSize_pos o2.kind
          have hBs' : (offs r (t'.pos + 1 + q) : Int) < (s.size : Int) := by omega
          have HPS : Hid (passed (r.drop (t'.pos + 1 + q)) (d - q) = if isBound o2.kind then 0 else passed (r.drop (t'.pos + 1 + q + 1)) (d - q - 1) + 1) := by
           show _ = _
           obtain ⟨hl, e⟩ := List.getElem?_eq_some_iff.1 ho2
           rw [List.drop_eq_getElem_cons hl, e, show d - q = (d - q - 1) + 1 by omega]
           rfl
          clear ho2
          cases h91 : ((o2.kind : Int) != 91)
          ·have hkb9 : o2.kind = 91 := by (have : (o2.kind : Int) = 91 := by simpa using h91); omega
           have HQ : Hid (passed (r.drop (t'.pos + 1)) d = q) := by show _ = _; rw [HZ.out.2.2, HPS.out, hkb9]; rfl
           go_wp2
           go_roundg (gk - 1)
           case measure => exact hgk.out
           case rel => exact ⟨_, (show Hid _ from HDON2.out _ q HZ.out.1 HZ.out.2.1 (HZ0.out.trans HQ.out) hql)⟩
          ·cases h93 : ((o2.kind : Int) != 93)
           ·have hkb9 : o2.kind = 93 := by (have : (o2.kind : Int) = 93 := by simpa using h93); omega
            have HQ : Hid (passed (r.drop (t'.pos + 1)) d = q) := by show _ = _; rw [HZ.out.2.2, HPS.out, hkb9]; rfl
            go_wp2
            go_roundg (gk - 1)
            case measure => exact hgk.out
            case rel => exact ⟨_, (show Hid _ from HDON2.out _ q HZ.out.1 HZ.out.2.1 (HZ0.out.trans HQ.out) hql)⟩
           ·have HB : Hid (isBound o2.kind = false) := by
             have h1 : (o2.kind : Int) ≠ 91 := by simpa using h91
             have h2 : (o2.kind : Int) ≠ 93 := by simpa using h93
             show _ = _
             unfold isBound
             simp only [Bool.or_eq_false_iff, beq_eq_false_iff_ne]
             omega
            have HQ : Hid (passed (r.drop (t'.pos + 1)) d = (q + 1) + passed (r.drop (t'.pos + 1 + (q + 1))) (d - (q + 1))) := by
             show _ = _
             rw [HZ.out.2.2, HPS.out, HB.out]
             simp only [Bool.false_eq_true, if_false]
             rw [show t'.pos + 1 + q + 1 = t'.pos + 1 + (q + 1) by omega, show d - q - 1 = d - (q + 1) by omega]
             omega
            go_upto_region 24 with fail
            have HNX2 : Hid ((offs r (t'.pos + 1 + q) : Int) + (opSize o2.kind : Int) = (offs r (t'.pos + 1 + (q + 1)) : Int)) := by
             have := HOF2.out
             show _ = _
             rw [show t'.pos + 1 + (q + 1) = t'.pos + 1 + q + 1 by omega]
             omega
            have hsp := opSize_pos o2.kind
            have hsp1 : (1 : Int) ≤ (opSize o2.kind : Int) := by omega
            have hsp2 : (opSize o2.kind : Int) ≤ 2 := by omega
            have hof : (offs r (t'.pos + 1 + (q + 1)) : Int) ≤ 1000 := by have h1 := offs_le r (t'.pos + 1 + (q + 1)); have h2 := HLEN.out; omega
            have hof0 : (0 : Int) ≤ (offs r (t'.pos + 1 + (q + 1)) : Int) := by omega
            go_cut [8] from 148 to 199 (fun v8 wz => v8 = .int .i64 ((d - q : Nat) : Int) ∧ Hid (OnlyTh tb n w wz ∧ ThAt wz tb n (offs r (t'.pos + 1 + (q + 1)) : Int) t'.reg))
            case first =>
             go_region_with (first | (go_at_call 82; refine (size_any s (offs r (t'.pos + 1 + q)) _ hBs hsz).mono ?_; rintro e w' ⟨rfl, rfl⟩; rw [hkb]))
             all_goals go_wp2_with fail
             all_goals go_meet
             all_goals rw [HNX2.out, wrap_small _ (by omega) (by omega)]
             all_goals exact ⟨rfl, (show Hid _ from ⟨(HZ.out.1.put _ (Or.inl rfl) _).drew, ThAt.drew (HZ.out.2.1.putA _)⟩)⟩
            case rest =>
             obtain ⟨rfl, HW4⟩ := hcut
             obtain ⟨a4, g4, f4⟩ := HW4.out.2
             go_wp2
             refine ⟨?_, ?measure⟩
             (repeat apply Exists.intro)
             refine ⟨?rel, rfl⟩
             case rel => exact ⟨q + 1, by omega, by go_num, by omega, (show Hid _ from ⟨HW4.out.1, HW4.out.2, HQ.out⟩)⟩
             case measure => simp [intOf]; omega
         ·have hend2 : offs r (t'.pos + 1 + q) = s.size := by rw [offs_all r _ (by omega), HLEN.out]
          have HQ : Hid (passed (r.drop (t'.pos + 1)) d = q) := by show _ = _; rw [HZ.out.2.2, List.drop_eq_nil_of_le (by omega), passed_end]; rfl
          rw [hend2] at a3
          go_wp2
          go_roundg (gk - 1)
          case measure => exact hgk.out
          case rel => exact ⟨_, (show Hid _ from HDON2.out _ q HZ.out.1 HZ.out.2.1 (HZ0.out.trans HQ.out) hql)⟩
        ·have hqe : q = d := by omega
         subst hqe
         rw [Nat.sub_self]
         have HQ : Hid (passed (r.drop (t'.pos + 1)) q = q) := by show _ = _; rw [HZ.out.2.2, Nat.sub_self, passed_zero]; rfl
         go_wp2
         go_roundg (gk - 1)
         case measure => exact hgk.out
         case rel => exact ⟨_, (show Hid _ from HDON2.out _ q HZ.out.1 HZ.out.2.1 (HZ0.out.trans HQ.out) hql)⟩
    ·have hos : (opSize o.kind : Int) = 1 := by unfold opSize; rw [htn]; rfl
     have HT2 : Hid (ThAt (wr.setCell ⟨tb, n * 2, none⟩ (.int .i64 ((offs r t'.pos : Int) + 1))) tb n ((offs r t'.pos : Int) + 1) t'.reg) := ThAt.putA ⟨a1, g1, f1⟩ _
     have HO2 : Hid (OnlyTh tb n w (wr.setCell ⟨tb, n * 2, none⟩ (.int .i64 ((offs r t'.pos : Int) + 1)))) := H1.out.only.put _ (Or.inl rfl) _
     have HNXT : Hid (offs r (t'.pos + 1) = offs r t'.pos + 1) := by have := HOFF.out; show _ = _; omega
     go_upto_region 9 with (first | (go_at_call 53; refine (among_any _ _ _ (by decide)).mono ?_; rintro e w' ⟨rfl, rfl⟩) | (go_at_call 82; refine (size_any s (offs r t'.pos) _ hAs hsz).mono ?_; rintro e w' ⟨rfl, rfl⟩))
     generalize w'.setCell ⟨tb, n * 2, none⟩ (.int .i64 ((offs r t'.pos : Int) + 1)) = X at *
     clear a1 g1 f1 hk HAM hos hAs' hA0 hn' hn0 hlen HNM htn
     obtain ⟨a2, g2, f2⟩ := HT2.out
     have HDON3 : Hid (∀ (X' : World) (y : Int) (f : Bool), OnlyTh tb n w X' → ThAt X' tb n y t'.reg → ownStep t' r o = ⟨t'.pos + 1, f, t'.reg, t'.h0, t'.h1⟩ → y = (if f then -1 else (offs r t'.pos : Int) + 1) → OnInv r t tb n w X' (gk - 1) (ownStep t' r o)) := fun X' y f h1 h2 he hy => by
      have hlt := HLT.out
      have hfu := H1.out.fuel
      refine ⟨h1, ?_, HSE.out, ?_, ?_, ?_⟩
      ·rw [he]
       unfold atOf
       simp only
       rw [HNXT.out]
       subst hy
       simpa using h2
      ·rw [he]; simp only; omega
      ·rw [he]; simp only; omega
      ·rw [he]; exact HREG.out
     have hgk : Hid (gk - 1 < gk) := by have h1 := H1.out.fuel; have h2 := HLT.out; show _ < _; omega
     rcases hkk with hkk | hkk | hkk
     ·as_aux_lemma =>
       rw [hkk]
       have HOWN : Hid (ownStep t' r o = ⟨t'.pos + 1, t'.reg == 0, t'.reg, t'.h0, t'.h1⟩) := by show _ = _; unfold ownStep; rw [if_pos hkk]
       cases hz : (t'.reg == 0)
       ·rw [hz] at HOWN
        go_wp2
        go_roundg (gk - 1)
        case measure => exact hgk.out
        case rel => exact ⟨_, (show Hid _ from HDON3.out _ _ false HO2.out HT2.out HOWN.out rfl)⟩
       ·rw [hz] at HOWN
        go_wp2
        go_roundg (gk - 1)
        case measure => exact hgk.out
        case rel => exact ⟨_, (show Hid _ from HDON3.out _ _ true (HO2.out.put _ (Or.inl rfl) _) (HT2.out.putA _) HOWN.out rfl)⟩
     ·as_aux_lemma =>
       rw [hkk]
       have HOWN : Hid (ownStep t' r o = ⟨t'.pos + 1, false, t'.reg, t'.h0, t'.h1⟩) := by show _ = _; unfold ownStep; rw [if_neg (by omega), if_neg (by omega), hnf, hkk]; rfl
       go_wp2
       go_roundg (gk - 1)
       case measure => exact hgk.out
       case rel => exact ⟨_, (show Hid _ from HDON3.out _ _ false HO2.out HT2.out HOWN.out rfl)⟩
     ·as_aux_lemma =>
       rw [hkk]
       have HOWN : Hid (ownStep t' r o = ⟨t'.pos + 1, false, t'.reg, t'.h0, t'.h1⟩) := by show _ = _; unfold ownStep; rw [if_neg (by omega), if_neg (by omega), hnf, hkk]; rfl
       go_wp2
       go_roundg (gk - 1)
       case measure => exact hgk.out
       case rel => exact ⟨_, (show Hid _ from HDON3.out _ _ false HO2.out HT2.out HOWN.out rfl)⟩
   ·as_aux_lemma =>
     rw [hsh] at HAM
     have HFIN : Hid (OnlyTh tb n w wr ∧ ThAt wr tb n (atOf r (settle r (r.length + 1) t)) (settle r (r.length + 1) t).reg) := by
      show _ ∧ _
      rw [HSH.out hsh]; exact ⟨H1.out.only, H1.out.at_⟩
     go_wp2_with (go_at_call 53; refine (among_any _ _ _ (by decide)).mono ?_; rintro e w' ⟨rfl, rfl⟩)
     go_end0
     exact ⟨rfl, HFIN.out⟩

end Go.Proofs.YtfdafcnfefbcbabGreat
