/-
  The law Counted: its loop.
-/
import Derived.Test.YtfdafcnfefbcbaaCountedEnd
import Derived.Test.YtfdafcnfefbcbaaEvents
import Derived.Test.YtfdafcnfefbcbaaText
namespace Go.Proofs.Ytfdafcnfefbcbaa
open Go.RowKit
set_option linter.unusedVariables false

set_option maxRecDepth 100000 in
theorem kinds7_index (j : Nat) (hj : j < 7) (w : World) : (Instr.index 9 (.string ⟨#[43, 45, 42, 94, 60, 33, 63]⟩) (.int .i64 (j : Int))).run Try.prog w = .ok (.int .u8 ((kinds7.getD j 0 : Nat) : Int)) w := by
  have : j = 0 ∨ j = 1 ∨ j = 2 ∨ j = 3 ∨ j = 4 ∨ j = 5 ∨ j = 6 := by omega
  rcases this with rfl | rfl | rfl | rfl | rfl | rfl | rfl <;> rfl

theorem eq_store (w : World) : (Op.equalIn 9999 57 (.agg #[.int .i16 0, .int .i16 0, .int .i16 0, .int .i16 0]) (.agg #[.int .i16 0, .int .i16 0, .int .i16 0, .int .i16 0])).run Try.prog w = .ok true w := by
  kernel_rfl

/-- Where the loop of Counted stands. -/
structure CAt (os : List Raw) (w wr : World) (i : Nat) (sb : ByteArray) (c : CSt) : Prop where
  txt : bytesOf sb = ((os.take i).map cOp).flatMap cBytes
  st : c = ((os.take i).map cOp).foldl cStep ⟨0, false, 0⟩
  bl : Below w.heap.size w wr

theorem CAt.next {os : List Raw} {w wr wr' : World} {i : Nat} {sb : ByteArray} {c : CSt} (h : CAt os w wr i sb c) {x : Raw} (hx : os[i]? = some x) (s : ByteArray) (k d : Nat) (hkd : cOp x = (k, d)) (hs : bytesOf s = cBytes (k, d)) (hb : Below w.heap.size w wr') (c' : CSt) (hc : c' = cStep c (k, d)) : CAt os w wr' (i + 1) (sb ++ s) c' := by
  have e : (os.take (i + 1)).map cOp = (os.take i).map cOp ++ [(k, d)] := by
    rw [List.take_add_one, hx]; simp [hkd]
  refine ⟨?_, ?_, hb⟩
  · rw [bytesOf_append, h.txt, hs, e]; simp
  · rw [e, List.foldl_append, ← h.st, hc]; rfl

theorem conv2' (w : World) (x y : Int) : (convert 65 9 (.slice (some ⟨w.heap.size, 0, none⟩) 2 2)).run Try.prog (w.alloc (.cells #[.int .u8 x, .int .u8 y] 5)) = .ok (.string (strOfNums [x, y])) (w.alloc (.cells #[.int .u8 x, .int .u8 y] 5)) := conv2 w x y

set_option maxRecDepth 100000 in
set_option maxHeartbeats 12000000 in
theorem counted_walk (os : List Raw) (a : Option Addr) (cap : Nat) (w : World) (hr : RawsIn w a os) (hl : os.length ≤ 140737488351232) :
    Calls Try.prog 7 #[.slice a os.length cap] w fun e w' => e = .returned (.bool true) ∧ Below w.heap.size w w' := by
  have HR : Hid _ := hr
  clear hr
  go_enter Try.func7, Try.ntmps7
  go_wp2_with fail
  refine (sure_any _).mono ?_
  rintro e w1 ⟨rfl, hb1⟩
  have HB1 : Hid _ := hb1
  clear hb1
  go_wp2_with fail
  go_loopw [4, 5, 6, 7, 8] (fun v4 v5 v6 v7 v8 wr => ∃ (i : Nat) (sb : ByteArray) (v : Int) (dead : Bool) (over : Nat), i ≤ os.length ∧ over ≤ 9 ∧ sb.size ≤ 97 ∧ v8 = .int .i64 (i : Int) ∧ v4 = .string sb ∧ v5 = .int .i16 v ∧ v6 = .bool dead ∧ v7 = .int .i64 (over : Int) ∧ Hid (CAt os w wr i sb ⟨v, dead, over⟩)) (fun _ _ _ _ v8 _ => os.length - (intOf v8).toNat)
  case atStart => exact ⟨0, ⟨#[]⟩, 0, false, 0, Nat.zero_le _, by omega, by decide, rfl, rfl, rfl, rfl, rfl, (show Hid _ from ⟨rfl, rfl, HB1.out⟩)⟩
  case round =>
    obtain ⟨i, sb, v, dead, over, hil, hov, hsb, rfl, rfl, rfl, rfl, rfl, HH⟩ := hrel
    by_cases hlt : i < os.length ∧ sb.size + 5 ≤ 100
    · obtain ⟨hlt, hfit⟩ := hlt
      have hlt' : (i : Int) < (os.length : Int) := by omega
      have hfit' : (sb.size : Int) + 5 ≤ 100 := by omega
      obtain ⟨g, o, rfl, hg, hgc⟩ := HR.out (by omega)
      obtain ⟨-, k1, k2, -, i1, i2⟩ := hgc i os[i] (List.getElem?_eq_getElem hlt)
      have c1 := (HH.out.bl.cell (p := ⟨g, o + i * 3 + 1, none⟩) hg).trans k1
      have c2 := (HH.out.bl.cell (p := ⟨g, o + i * 3 + 2, none⟩) hg).trans k2
      have HI1 : Hid _ := i1
      have HI2 : Hid _ := i2
      have HX : Hid (os[i]? = some os[i]) := List.getElem?_eq_getElem hlt
      clear k1 k2 hgc i1 i2
      generalize os[i] = x at *
      go_wp2_with fail
      refine (pick_any x.kind 7 _ HI1.out (by omega) (by omega)).mono ?_
      rintro e w2 ⟨rfl, rfl⟩
      have hp := pickOf_lt x.kind 7 (by omega)
      obtain ⟨j, hj⟩ : ∃ j : Nat, pickOf x.kind 7 = (j : Int) := ⟨(pickOf x.kind 7).toNat, by omega⟩
      have hj7 : j < 7 := by omega
      have hix := kinds7_index j hj7
      have HM : Hid _ := kinds7_mem j hj7
      have hq := pickOf_lt x.arg 10 (by omega)
      obtain ⟨d, hd⟩ : ∃ d : Nat, pickOf x.arg 10 = (d : Int) := ⟨(pickOf x.arg 10).toNat, by omega⟩
      have hd9 : (d : Int) ≤ 9 := by omega
      have hd0 : (0 : Int) ≤ (d : Int) := by omega
      have HD : Hid _ := hd
      have HOP : Hid (cOp x = (kinds7.getD j 0, if kinds7.getD j 0 = 63 ∧ d = 0 then 1 else d)) := by show _ = _; unfold cOp; rw [hj, hd]; rfl
      rw [hj]
      clear hp hj hq hd hj7
      generalize kinds7.getD j 0 = c at *
      go_wp2_with fail
      refine (pick_any x.arg 10 _ HI2.out (by omega) (by omega)).mono ?_
      rintro e w3 ⟨rfl, rfl⟩
      rw [HD.out]
      have kc2 := conv2'
      have hbb : Below w.heap.size w w3 := HH.out.bl
      have HBB : Hid _ := hbb
      clear hix c1 c2 hbb
      have hsz : Hid (sb.size + 5 ≤ 100) := by show _ ≤ _; omega
      have q1 : ¬ 9223372036854775807 < sb.size + 1 := by omega
      have q2 : ¬ 9223372036854775807 < sb.size + 2 := by omega
      rcases HM.out with rfl | rfl | rfl | rfl | rfl | rfl | rfl
      · have HOPc : Hid (cOp x = (43, d)) := by show _ = _; rw [HOP.out]; simp
        by_cases hov0 : 0 < over
        · have hov' : (0 : Int) < (over : Int) := by omega
          go_wp2
          go_roundw
          case rel =>
            refine ⟨i + 1, _, _, _, over - 1, by omega, by omega, ?_, by go_num, rfl, rfl, rfl, by go_num, ?_⟩
            · have := hsz.out; simp [strOfNums_size]; omega
            · exact (show Hid _ from HH.out.next HX.out _ 43 d HOPc.out (bytesOf_two _ _ (by omega) (by omega) _ _ rfl (by simp)) (HBB.out.alloc HBB.out.size _) _ (by simp [cStep, hov0]))
          case measure => simp [intOf]; omega
        · obtain rfl : over = 0 := by omega
          go_wp2
          go_roundw
          case rel =>
            refine ⟨i + 1, _, _, _, 0, by omega, by omega, ?_, by go_num, rfl, rfl, rfl, by go_num, ?_⟩
            · have := hsz.out; simp [strOfNums_size]; omega
            · exact (show Hid _ from HH.out.next HX.out _ 43 d HOPc.out (bytesOf_two _ _ (by omega) (by omega) _ _ rfl (by simp)) (HBB.out.alloc HBB.out.size _) _ (rfl))
          case measure => simp [intOf]; omega
      · have HOPc : Hid (cOp x = (45, d)) := by show _ = _; rw [HOP.out]; simp
        by_cases hov0 : 0 < over
        · have hov' : (0 : Int) < (over : Int) := by omega
          go_wp2
          go_roundw
          case rel =>
            refine ⟨i + 1, _, _, _, over - 1, by omega, by omega, ?_, by go_num, rfl, rfl, rfl, by go_num, ?_⟩
            · have := hsz.out; simp [strOfNums_size]; omega
            · exact (show Hid _ from HH.out.next HX.out _ 45 d HOPc.out (bytesOf_two _ _ (by omega) (by omega) _ _ rfl (by simp)) (HBB.out.alloc HBB.out.size _) _ (by simp [cStep, hov0]))
          case measure => simp [intOf]; omega
        · obtain rfl : over = 0 := by omega
          go_wp2
          go_roundw
          case rel =>
            refine ⟨i + 1, _, _, _, 0, by omega, by omega, ?_, by go_num, rfl, rfl, rfl, by go_num, ?_⟩
            · have := hsz.out; simp [strOfNums_size]; omega
            · exact (show Hid _ from HH.out.next HX.out _ 45 d HOPc.out (bytesOf_two _ _ (by omega) (by omega) _ _ rfl (by simp)) (HBB.out.alloc HBB.out.size _) _ (rfl))
          case measure => simp [intOf]; omega
      · have HOPc : Hid (cOp x = (42, d)) := by show _ = _; rw [HOP.out]; simp
        by_cases hov0 : 0 < over
        · have hov' : (0 : Int) < (over : Int) := by omega
          go_wp2
          go_roundw
          case rel =>
            refine ⟨i + 1, _, _, _, over - 1, by omega, by omega, ?_, by go_num, rfl, rfl, rfl, by go_num, ?_⟩
            · have := hsz.out; simp [strOfNums_size]; omega
            · exact (show Hid _ from HH.out.next HX.out _ 42 d HOPc.out (bytesOf_two _ _ (by omega) (by omega) _ _ rfl (by simp)) (HBB.out.alloc HBB.out.size _) _ (by simp [cStep, hov0]))
          case measure => simp [intOf]; omega
        · obtain rfl : over = 0 := by omega
          go_wp2
          go_roundw
          case rel =>
            refine ⟨i + 1, _, _, _, 0, by omega, by omega, ?_, by go_num, rfl, rfl, rfl, by go_num, ?_⟩
            · have := hsz.out; simp [strOfNums_size]; omega
            · exact (show Hid _ from HH.out.next HX.out _ 42 d HOPc.out (bytesOf_two _ _ (by omega) (by omega) _ _ rfl (by simp)) (HBB.out.alloc HBB.out.size _) _ (rfl))
          case measure => simp [intOf]; omega
      · have HOPc : Hid (cOp x = (94, d)) := by show _ = _; rw [HOP.out]; simp
        by_cases hov0 : 0 < over
        · have hov' : (0 : Int) < (over : Int) := by omega
          go_wp2
          go_roundw
          case rel =>
            refine ⟨i + 1, _, _, _, over - 1, by omega, by omega, ?_, by go_num, rfl, rfl, rfl, by go_num, ?_⟩
            · have := hsz.out; simp [strOfNums_size]; omega
            · exact (show Hid _ from HH.out.next HX.out _ 94 d HOPc.out (bytesOf_two _ _ (by omega) (by omega) _ _ rfl (by simp)) (HBB.out.alloc HBB.out.size _) _ (by simp [cStep, hov0]))
          case measure => simp [intOf]; omega
        · obtain rfl : over = 0 := by omega
          go_wp2
          go_roundw
          case rel =>
            refine ⟨i + 1, _, _, _, 0, by omega, by omega, ?_, by go_num, rfl, rfl, rfl, by go_num, ?_⟩
            · have := hsz.out; simp [strOfNums_size]; omega
            · exact (show Hid _ from HH.out.next HX.out _ 94 d HOPc.out (bytesOf_two _ _ (by omega) (by omega) _ _ rfl (by simp)) (HBB.out.alloc HBB.out.size _) _ (rfl))
          case measure => simp [intOf]; omega
      · have HOPc : Hid (cOp x = (60, d)) := by show _ = _; rw [HOP.out]; simp
        by_cases hov0 : 0 < over
        · have hov' : (0 : Int) < (over : Int) := by omega
          go_wp2
          go_roundw
          case rel =>
            refine ⟨i + 1, _, _, _, over - 1, by omega, by omega, ?_, by go_num, rfl, rfl, rfl, by go_num, ?_⟩
            · have := hsz.out; simp [strOfNums_size]; omega
            · exact (show Hid _ from HH.out.next HX.out _ 60 d HOPc.out (bytesOf_two _ _ (by omega) (by omega) _ _ rfl (by simp)) (HBB.out.alloc HBB.out.size _) _ (by simp [cStep, hov0]))
          case measure => simp [intOf]; omega
        · obtain rfl : over = 0 := by omega
          go_wp2
          go_roundw
          case rel =>
            refine ⟨i + 1, _, _, _, 0, by omega, by omega, ?_, by go_num, rfl, rfl, rfl, by go_num, ?_⟩
            · have := hsz.out; simp [strOfNums_size]; omega
            · exact (show Hid _ from HH.out.next HX.out _ 60 d HOPc.out (bytesOf_two _ _ (by omega) (by omega) _ _ rfl (by simp)) (HBB.out.alloc HBB.out.size _) _ (rfl))
          case measure => simp [intOf]; omega
      · have HOPc : Hid (cOp x = (33, d)) := by show _ = _; rw [HOP.out]; simp
        by_cases hov0 : 0 < over
        · have hov' : (0 : Int) < (over : Int) := by omega
          go_wp2
          go_roundw
          case rel =>
            refine ⟨i + 1, _, _, _, over - 1, by omega, by omega, ?_, by go_num, rfl, rfl, rfl, by go_num, ?_⟩
            · have := hsz.out; simp [show (ByteArray.mk #[33]).size = 1 from rfl]; omega
            · exact (show Hid _ from HH.out.next HX.out _ 33 d HOPc.out rfl HBB.out _ (by simp [cStep, hov0]))
          case measure => simp [intOf]; omega
        · obtain rfl : over = 0 := by omega
          cases dead
          · cases hv0 : (v == 0)
            · go_wp2
              go_roundw
              case rel =>
                refine ⟨i + 1, _, _, _, 0, by omega, by omega, ?_, by go_num, rfl, rfl, rfl, by go_num, ?_⟩
                · have := hsz.out; simp [show (ByteArray.mk #[33]).size = 1 from rfl]; omega
                · exact (show Hid _ from HH.out.next HX.out _ 33 d HOPc.out rfl HBB.out _ (by simp only [cStep]; rw [hv0]; rfl))
              case measure => simp [intOf]; omega
            · go_wp2
              go_roundw
              case rel =>
                refine ⟨i + 1, _, _, _, 0, by omega, by omega, ?_, by go_num, rfl, rfl, rfl, by go_num, ?_⟩
                · have := hsz.out; simp [show (ByteArray.mk #[33]).size = 1 from rfl]; omega
                · exact (show Hid _ from HH.out.next HX.out _ 33 d HOPc.out rfl HBB.out _ (by simp only [cStep]; rw [hv0]; rfl))
              case measure => simp [intOf]; omega
          · go_wp2
            go_roundw
            case rel =>
              refine ⟨i + 1, _, _, _, 0, by omega, by omega, ?_, by go_num, rfl, rfl, rfl, by go_num, ?_⟩
              · have := hsz.out; simp [show (ByteArray.mk #[33]).size = 1 from rfl]; omega
              · exact (show Hid _ from HH.out.next HX.out _ 33 d HOPc.out rfl HBB.out _ (rfl))
            case measure => simp [intOf]; omega
      · by_cases hdz : d = 0
        · subst hdz
          have HOPc : Hid (cOp x = (63, 1)) := by show _ = _; rw [HOP.out]; simp
          by_cases hov0 : 0 < over
          · have hov' : (0 : Int) < (over : Int) := by omega
            go_wp2
            go_roundw
            case rel =>
              refine ⟨i + 1, _, _, _, over - 1, by omega, by omega, ?_, by go_num, rfl, rfl, rfl, by go_num, ?_⟩
              · have := hsz.out; simp [strOfNums_size]; omega
              · exact (show Hid _ from HH.out.next HX.out _ 63 1 HOPc.out (bytesOf_two _ _ (by omega) (by omega) _ _ rfl (by simp)) (HBB.out.alloc HBB.out.size _) _ (by simp [cStep, hov0]))
            case measure => simp [intOf]; omega
          · obtain rfl : over = 0 := by omega
            by_cases hv : v = 0
            · have hv0 : (v == 0) = true := by simpa using hv
              have HV : Hid _ := hv
              clear hv
              go_wp2
              go_roundw
              case rel =>
                refine ⟨i + 1, _, _, _, 1, by omega, by omega, ?_, by go_num, rfl, rfl, rfl, by go_num, ?_⟩
                · have := hsz.out; simp [strOfNums_size]; omega
                · exact (show Hid _ from HH.out.next HX.out _ 63 1 HOPc.out (bytesOf_two _ _ (by omega) (by omega) _ _ rfl (by simp)) (HBB.out.alloc HBB.out.size _) _ (by simp [cStep, HV.out]))
              case measure => simp [intOf]; omega
            · have hv0 : (v == 0) = false := by simpa using hv
              have HV : Hid _ := hv
              clear hv
              go_wp2
              go_roundw
              case rel =>
                refine ⟨i + 1, _, _, _, 0, by omega, by omega, ?_, by go_num, rfl, rfl, rfl, by go_num, ?_⟩
                · have := hsz.out; simp [strOfNums_size]; omega
                · exact (show Hid _ from HH.out.next HX.out _ 63 1 HOPc.out (bytesOf_two _ _ (by omega) (by omega) _ _ rfl (by simp)) (HBB.out.alloc HBB.out.size _) _ (by simp [cStep, show ¬ v = 0 from HV.out]))
              case measure => simp [intOf]; omega
        · have HOPc : Hid (cOp x = (63, d)) := by show _ = _; rw [HOP.out]; simp [hdz]
          have hdz' : ((d : Int) == 0) = false := by simp; omega
          clear hdz
          by_cases hov0 : 0 < over
          · have hov' : (0 : Int) < (over : Int) := by omega
            go_wp2
            go_roundw
            case rel =>
              refine ⟨i + 1, _, _, _, over - 1, by omega, by omega, ?_, by go_num, rfl, rfl, rfl, by go_num, ?_⟩
              · have := hsz.out; simp [strOfNums_size]; omega
              · exact (show Hid _ from HH.out.next HX.out _ 63 d HOPc.out (bytesOf_two _ _ (by omega) (by omega) _ _ rfl (by simp)) (HBB.out.alloc HBB.out.size _) _ (by simp [cStep, hov0]))
            case measure => simp [intOf]; omega
          · obtain rfl : over = 0 := by omega
            by_cases hv : v = 0
            · have hv0 : (v == 0) = true := by simpa using hv
              have HV : Hid _ := hv
              clear hv
              go_wp2
              go_roundw
              case rel =>
                refine ⟨i + 1, _, _, _, d, by omega, by omega, ?_, by go_num, rfl, rfl, rfl, by go_num, ?_⟩
                · have := hsz.out; simp [strOfNums_size]; omega
                · exact (show Hid _ from HH.out.next HX.out _ 63 d HOPc.out (bytesOf_two _ _ (by omega) (by omega) _ _ rfl (by simp)) (HBB.out.alloc HBB.out.size _) _ (by simp [cStep, HV.out]))
              case measure => simp [intOf]; omega
            · have hv0 : (v == 0) = false := by simpa using hv
              have HV : Hid _ := hv
              clear hv
              go_wp2
              go_roundw
              case rel =>
                refine ⟨i + 1, _, _, _, 0, by omega, by omega, ?_, by go_num, rfl, rfl, rfl, by go_num, ?_⟩
                · have := hsz.out; simp [strOfNums_size]; omega
                · exact (show Hid _ from HH.out.next HX.out _ 63 d HOPc.out (bytesOf_two _ _ (by omega) (by omega) _ _ rfl (by simp)) (HBB.out.alloc HBB.out.size _) _ (by simp [cStep, show ¬ v = 0 from HV.out]))
              case measure => simp [intOf]; omega
    · obtain ⟨ps, hps⟩ : ∃ ps, ps = (os.take i).map cOp := ⟨_, rfl⟩
      have HPS : Hid (∀ o ∈ ps, COk o) := by
        show ∀ o ∈ ps, COk o
        intro o ho
        rw [hps] at ho
        obtain ⟨x, -, rfl⟩ := List.mem_map.1 ho
        exact cOp_ok x
      have HST : Hid ((⟨v, dead, over⟩ : CSt) = ps.foldl cStep ⟨0, false, 0⟩) := by rw [hps]; exact HH.out.st
      have htx : bytesOf sb = ps.flatMap cBytes := by rw [hps]; exact HH.out.txt
      have HNEW : Hid (Pl.new (bytesOf (sb ++ ⟨#[119, 100]⟩)) = .inr [cRow ps]) := by
        show _ = _
        rw [bytesOf_append, htx]
        exact c_new ps HPS.out (by rw [← htx, bytesOf_length]; exact hsb)
      have HTINY : Hid (Tiny [cRow ps]) := new_tiny (bytesOf_lt _) HNEW.out
      have HBW : Hid (Below w.heap.size w wr) := HH.out.bl
      have q2 : ¬ 9223372036854775807 < sb.size + 2 := by omega
      have HLEN : Hid ((sb ++ ⟨#[119, 100]⟩).size ≤ maxLen) := by
        show _ ≤ _
        have h2 : (ByteArray.mk #[119, 100]).size = 2 := rfl
        rw [ByteArray.size_append, h2]
        unfold maxLen
        omega
      clear HH hps htx
      by_cases hlt2 : i < os.length
      · have hlt' : (i : Int) < (os.length : Int) := by omega
        have hfit' : ¬ (sb.size : Int) + 5 ≤ 100 := by omega
        clear hlt
        cases hdead : dead
        · by_cases hov0 : 0 < over
          · have HQ1 : Hid _ := c_over ps HPS.out (by rw [← HST.out]; exact hdead) (by rw [← HST.out]; exact hov0)
            have hov' : (0 : Int) < (over : Int) := by omega
            clear hdead
            have heq := eq_store
            go_wp2_with (first | (go_at_call 19; have hnn := new_any (sb ++ ⟨#[119, 100]⟩) wr HLEN.out; refine Calls.mono hnn ?_; clear hnn; rintro e w4 hn; rw [HNEW.out] at hn; obtain ⟨hb4, b, rfl, hp4⟩ := hn; have HP4 : Hid _ := hp4; have HB4 : Hid (Below w.heap.size w w4) := HBW.out.trans (hb4.mono HBW.out.size); clear hb4 hp4) | (go_at_call 27; refine (play_any [cRow ps] _ _ b [] none 0 _ HP4.out HTINY.out (Nat.le_refl _) (fun h0 => by simp at h0) (by decide)).mono ?_; rintro e w5 ⟨rfl, hb5⟩; have HB5 : Hid (Below w.heap.size w w5) := HB4.out.trans (hb5.mono HB4.out.size); have HP5 : Hid _ := ProgIn.below HP4.out hb5; have HZ5 : Hid _ := hb5.size; clear hb5; rw [HQ1.out]; unfold resV))
            go_ret
            exact ⟨rfl, HB5.out.alloc HB5.out.size _⟩
          · obtain rfl : over = 0 := by omega
            obtain ⟨q1, q2, S2, q3⟩ := c_open ps HPS.out (by rw [← HST.out]; exact hdead) (by rw [← HST.out]) v (by rw [← HST.out])
            have HQ1 : Hid _ := q1
            have HQ2 : Hid _ := q2
            have HQ3 : Hid _ := q3
            clear hdead q1 q2 q3
            go_upto_region 42 with (first | (go_at_call 19; have hnn := new_any (sb ++ ⟨#[119, 100]⟩) wr HLEN.out; refine Calls.mono hnn ?_; clear hnn; rintro e w4 hn; rw [HNEW.out] at hn; obtain ⟨hb4, b, rfl, hp4⟩ := hn; have HP4 : Hid _ := hp4; have HB4 : Hid (Below w.heap.size w w4) := HBW.out.trans (hb4.mono HBW.out.size); clear hb4 hp4) | (go_at_call 27; refine (play_any [cRow ps] _ _ b [] none 0 _ HP4.out HTINY.out (Nat.le_refl _) (fun h0 => by simp at h0) (by decide)).mono ?_; rintro e w5 ⟨rfl, hb5⟩; have HB5 : Hid (Below w.heap.size w w5) := HB4.out.trans (hb5.mono HB4.out.size); have HP5 : Hid _ := ProgIn.below HP4.out hb5; have HZ5 : Hid _ := hb5.size; clear hb5; rw [HQ1.out]; unfold resV))
            have r0 : (w5.alloc (.cells #[.int .u8 0, .int .i16 0, .int .i16 0, .int .i16 0, .int .i16 0] 59)).cell? ⟨w5.heap.size, 0, none⟩ = some (.int .u8 0) := by simp
            have HX5 : Hid (Below w5.heap.size w5 (w5.alloc (.cells #[.int .u8 0, .int .i16 0, .int .i16 0, .int .i16 0, .int .i16 0] 59))) := (Below.refl _ _).alloc (Nat.le_refl _) _
            have HXZ : Hid ((w5.alloc (.cells #[.int .u8 0, .int .i16 0, .int .i16 0, .int .i16 0, .int .i16 0] 59)).heap.size = w5.heap.size + 1) := by show _ = _; simp
            generalize w5.alloc (.cells #[.int .u8 0, .int .i16 0, .int .i16 0, .int .i16 0, .int .i16 0] 59) = X at *
            go_upto_region 43 with (first | (go_at_call 27; refine (play_any [cRow ps] _ _ b [0] _ _ _ (ProgIn.below HP5.out ((HX5.out.alloc HX5.out.size _).mono HZ5.out)) HTINY.out (by have := HZ5.out; have := HX5.out.size; simp; omega) (ints_lit [0]) (by decide)).mono ?_; rintro e w6 ⟨rfl, hb6⟩; have HB6 : Hid (Below X.heap.size X w6) := ((Below.refl _ _).alloc (Nat.le_refl _) _).trans (hb6.mono (by simp)); clear hb6; rw [HQ2.out]; unfold resV))
            have r1 := (HB6.out.cell (p := ⟨w5.heap.size, 0, none⟩) (show w5.heap.size < X.heap.size by have := HXZ.out; omega)).trans r0
            have HP6 : Hid _ := ProgIn.below HP5.out ((HX5.out.trans (HB6.out.mono HX5.out.size)).mono HZ5.out)
            have HZ6 : Hid _ := Nat.le_trans HZ5.out (Nat.le_trans HX5.out.size HB6.out.size)
            have HBX : Hid (Below w.heap.size w w6) := HB5.out.trans ((HX5.out.trans (HB6.out.mono HX5.out.size)).mono HB5.out.size)
            have s0 : (w6.alloc (.cells #[.int .u8 1, .int .i16 0, .int .i16 0, .int .i16 0, .int .i16 v] 59)).cell? ⟨w6.heap.size, 0, none⟩ = some (.int .u8 1) := by simp
            have s4 : (w6.alloc (.cells #[.int .u8 1, .int .i16 0, .int .i16 0, .int .i16 0, .int .i16 v] 59)).cell? ⟨w6.heap.size, 4, none⟩ = some (.int .i16 v) := by simp
            have r2 := alloc_cell r1 (.cells #[.int .u8 1, .int .i16 0, .int .i16 0, .int .i16 0, .int .i16 v] 59)
            have HX6 : Hid (Below w6.heap.size w6 (w6.alloc (.cells #[.int .u8 1, .int .i16 0, .int .i16 0, .int .i16 0, .int .i16 v] 59))) := (Below.refl _ _).alloc (Nat.le_refl _) _
            have HYZ : Hid ((w6.alloc (.cells #[.int .u8 1, .int .i16 0, .int .i16 0, .int .i16 0, .int .i16 v] 59)).heap.size = w6.heap.size + 1) := by show _ = _; simp
            have HLT5 : Hid (w5.heap.size < w6.heap.size) := by have h1 := HXZ.out; have h2 := HB6.out.size; show _ < _; omega
            generalize w6.alloc (.cells #[.int .u8 1, .int .i16 0, .int .i16 0, .int .i16 0, .int .i16 v] 59) = Y at *
            clear r0 r1
            go_upto_region 44 with (first | (go_at_call 28; refine (events_any [cRow ps] _ _ b [0] _ _ _ (ProgIn.below HP6.out ((HX6.out.alloc HX6.out.size _).mono HZ6.out)) HTINY.out (by have := HZ6.out; have := HX6.out.size; simp; omega) (ints_lit [0]) (by decide)).mono ?_; rintro e w7 hev; unfold EventsSays at hev; rw [HQ3.out] at hev; obtain ⟨hb7, ea, ecap, rfl, ho7⟩ := hev; have HO7 : Hid _ := ho7; have HB7 : Hid (Below Y.heap.size Y w7) := ((Below.refl _ _).alloc (Nat.le_refl _) _).trans (hb7.mono (by simp)); clear hb7 ho7))
            obtain ⟨gb, rfl, -, -, -, -, hgc, -⟩ := owns_cells HO7.out (by simp)
            have g1 : w7.cell? ⟨gb, 1, none⟩ = some (.int .u8 119) := hgc 1 _ rfl
            have g3 : w7.cell? ⟨gb, 3, none⟩ = some (.int .i16 v) := hgc 3 _ rfl
            have t0 := (HB7.out.cell (p := ⟨w6.heap.size, 0, none⟩) (show w6.heap.size < Y.heap.size by have := HYZ.out; omega)).trans s0
            have t4 := (HB7.out.cell (p := ⟨w6.heap.size, 4, none⟩) (show w6.heap.size < Y.heap.size by have := HYZ.out; omega)).trans s4
            have r3 := (HB7.out.cell (p := ⟨w5.heap.size, 0, none⟩) (show w5.heap.size < Y.heap.size by have := HYZ.out; have := HLT5.out; omega)).trans r2
            have HBE : Hid (Below w.heap.size w w7) := HBX.out.trans ((HX6.out.trans (HB7.out.mono HX6.out.size)).mono HBX.out.size)
            clear hgc r2 s0 s4
            go_wp2
            go_ret
            exact ⟨rfl, HBE.out⟩
        · have HQ1 : Hid _ := c_dead ps HPS.out (by rw [← HST.out]; exact hdead)
          clear hdead
          have heq := eq_store
          go_wp2_with (first | (go_at_call 19; have hnn := new_any (sb ++ ⟨#[119, 100]⟩) wr HLEN.out; refine Calls.mono hnn ?_; clear hnn; rintro e w4 hn; rw [HNEW.out] at hn; obtain ⟨hb4, b, rfl, hp4⟩ := hn; have HP4 : Hid _ := hp4; have HB4 : Hid (Below w.heap.size w w4) := HBW.out.trans (hb4.mono HBW.out.size); clear hb4 hp4) | (go_at_call 27; refine (play_any [cRow ps] _ _ b [] none 0 _ HP4.out HTINY.out (Nat.le_refl _) (fun h0 => by simp at h0) (by decide)).mono ?_; rintro e w5 ⟨rfl, hb5⟩; have HB5 : Hid (Below w.heap.size w w5) := HB4.out.trans (hb5.mono HB4.out.size); have HP5 : Hid _ := ProgIn.below HP4.out hb5; have HZ5 : Hid _ := hb5.size; clear hb5; rw [HQ1.out]; unfold resV))
          go_ret
          exact ⟨rfl, HB5.out.alloc HB5.out.size _⟩
      · have hlt' : ¬ (i : Int) < (os.length : Int) := by omega
        clear hlt
        cases hdead : dead
        · by_cases hov0 : 0 < over
          · have HQ1 : Hid _ := c_over ps HPS.out (by rw [← HST.out]; exact hdead) (by rw [← HST.out]; exact hov0)
            have hov' : (0 : Int) < (over : Int) := by omega
            clear hdead
            have heq := eq_store
            go_wp2_with (first | (go_at_call 19; have hnn := new_any (sb ++ ⟨#[119, 100]⟩) wr HLEN.out; refine Calls.mono hnn ?_; clear hnn; rintro e w4 hn; rw [HNEW.out] at hn; obtain ⟨hb4, b, rfl, hp4⟩ := hn; have HP4 : Hid _ := hp4; have HB4 : Hid (Below w.heap.size w w4) := HBW.out.trans (hb4.mono HBW.out.size); clear hb4 hp4) | (go_at_call 27; refine (play_any [cRow ps] _ _ b [] none 0 _ HP4.out HTINY.out (Nat.le_refl _) (fun h0 => by simp at h0) (by decide)).mono ?_; rintro e w5 ⟨rfl, hb5⟩; have HB5 : Hid (Below w.heap.size w w5) := HB4.out.trans (hb5.mono HB4.out.size); have HP5 : Hid _ := ProgIn.below HP4.out hb5; have HZ5 : Hid _ := hb5.size; clear hb5; rw [HQ1.out]; unfold resV))
            go_ret
            exact ⟨rfl, HB5.out.alloc HB5.out.size _⟩
          · obtain rfl : over = 0 := by omega
            obtain ⟨q1, q2, S2, q3⟩ := c_open ps HPS.out (by rw [← HST.out]; exact hdead) (by rw [← HST.out]) v (by rw [← HST.out])
            have HQ1 : Hid _ := q1
            have HQ2 : Hid _ := q2
            have HQ3 : Hid _ := q3
            clear hdead q1 q2 q3
            go_upto_region 42 with (first | (go_at_call 19; have hnn := new_any (sb ++ ⟨#[119, 100]⟩) wr HLEN.out; refine Calls.mono hnn ?_; clear hnn; rintro e w4 hn; rw [HNEW.out] at hn; obtain ⟨hb4, b, rfl, hp4⟩ := hn; have HP4 : Hid _ := hp4; have HB4 : Hid (Below w.heap.size w w4) := HBW.out.trans (hb4.mono HBW.out.size); clear hb4 hp4) | (go_at_call 27; refine (play_any [cRow ps] _ _ b [] none 0 _ HP4.out HTINY.out (Nat.le_refl _) (fun h0 => by simp at h0) (by decide)).mono ?_; rintro e w5 ⟨rfl, hb5⟩; have HB5 : Hid (Below w.heap.size w w5) := HB4.out.trans (hb5.mono HB4.out.size); have HP5 : Hid _ := ProgIn.below HP4.out hb5; have HZ5 : Hid _ := hb5.size; clear hb5; rw [HQ1.out]; unfold resV))
            have r0 : (w5.alloc (.cells #[.int .u8 0, .int .i16 0, .int .i16 0, .int .i16 0, .int .i16 0] 59)).cell? ⟨w5.heap.size, 0, none⟩ = some (.int .u8 0) := by simp
            have HX5 : Hid (Below w5.heap.size w5 (w5.alloc (.cells #[.int .u8 0, .int .i16 0, .int .i16 0, .int .i16 0, .int .i16 0] 59))) := (Below.refl _ _).alloc (Nat.le_refl _) _
            have HXZ : Hid ((w5.alloc (.cells #[.int .u8 0, .int .i16 0, .int .i16 0, .int .i16 0, .int .i16 0] 59)).heap.size = w5.heap.size + 1) := by show _ = _; simp
            generalize w5.alloc (.cells #[.int .u8 0, .int .i16 0, .int .i16 0, .int .i16 0, .int .i16 0] 59) = X at *
            go_upto_region 43 with (first | (go_at_call 27; refine (play_any [cRow ps] _ _ b [0] _ _ _ (ProgIn.below HP5.out ((HX5.out.alloc HX5.out.size _).mono HZ5.out)) HTINY.out (by have := HZ5.out; have := HX5.out.size; simp; omega) (ints_lit [0]) (by decide)).mono ?_; rintro e w6 ⟨rfl, hb6⟩; have HB6 : Hid (Below X.heap.size X w6) := ((Below.refl _ _).alloc (Nat.le_refl _) _).trans (hb6.mono (by simp)); clear hb6; rw [HQ2.out]; unfold resV))
            have r1 := (HB6.out.cell (p := ⟨w5.heap.size, 0, none⟩) (show w5.heap.size < X.heap.size by have := HXZ.out; omega)).trans r0
            have HP6 : Hid _ := ProgIn.below HP5.out ((HX5.out.trans (HB6.out.mono HX5.out.size)).mono HZ5.out)
            have HZ6 : Hid _ := Nat.le_trans HZ5.out (Nat.le_trans HX5.out.size HB6.out.size)
            have HBX : Hid (Below w.heap.size w w6) := HB5.out.trans ((HX5.out.trans (HB6.out.mono HX5.out.size)).mono HB5.out.size)
            have s0 : (w6.alloc (.cells #[.int .u8 1, .int .i16 0, .int .i16 0, .int .i16 0, .int .i16 v] 59)).cell? ⟨w6.heap.size, 0, none⟩ = some (.int .u8 1) := by simp
            have s4 : (w6.alloc (.cells #[.int .u8 1, .int .i16 0, .int .i16 0, .int .i16 0, .int .i16 v] 59)).cell? ⟨w6.heap.size, 4, none⟩ = some (.int .i16 v) := by simp
            have r2 := alloc_cell r1 (.cells #[.int .u8 1, .int .i16 0, .int .i16 0, .int .i16 0, .int .i16 v] 59)
            have HX6 : Hid (Below w6.heap.size w6 (w6.alloc (.cells #[.int .u8 1, .int .i16 0, .int .i16 0, .int .i16 0, .int .i16 v] 59))) := (Below.refl _ _).alloc (Nat.le_refl _) _
            have HYZ : Hid ((w6.alloc (.cells #[.int .u8 1, .int .i16 0, .int .i16 0, .int .i16 0, .int .i16 v] 59)).heap.size = w6.heap.size + 1) := by show _ = _; simp
            have HLT5 : Hid (w5.heap.size < w6.heap.size) := by have h1 := HXZ.out; have h2 := HB6.out.size; show _ < _; omega
            generalize w6.alloc (.cells #[.int .u8 1, .int .i16 0, .int .i16 0, .int .i16 0, .int .i16 v] 59) = Y at *
            clear r0 r1
            go_upto_region 44 with (first | (go_at_call 28; refine (events_any [cRow ps] _ _ b [0] _ _ _ (ProgIn.below HP6.out ((HX6.out.alloc HX6.out.size _).mono HZ6.out)) HTINY.out (by have := HZ6.out; have := HX6.out.size; simp; omega) (ints_lit [0]) (by decide)).mono ?_; rintro e w7 hev; unfold EventsSays at hev; rw [HQ3.out] at hev; obtain ⟨hb7, ea, ecap, rfl, ho7⟩ := hev; have HO7 : Hid _ := ho7; have HB7 : Hid (Below Y.heap.size Y w7) := ((Below.refl _ _).alloc (Nat.le_refl _) _).trans (hb7.mono (by simp)); clear hb7 ho7))
            obtain ⟨gb, rfl, -, -, -, -, hgc, -⟩ := owns_cells HO7.out (by simp)
            have g1 : w7.cell? ⟨gb, 1, none⟩ = some (.int .u8 119) := hgc 1 _ rfl
            have g3 : w7.cell? ⟨gb, 3, none⟩ = some (.int .i16 v) := hgc 3 _ rfl
            have t0 := (HB7.out.cell (p := ⟨w6.heap.size, 0, none⟩) (show w6.heap.size < Y.heap.size by have := HYZ.out; omega)).trans s0
            have t4 := (HB7.out.cell (p := ⟨w6.heap.size, 4, none⟩) (show w6.heap.size < Y.heap.size by have := HYZ.out; omega)).trans s4
            have r3 := (HB7.out.cell (p := ⟨w5.heap.size, 0, none⟩) (show w5.heap.size < Y.heap.size by have := HYZ.out; have := HLT5.out; omega)).trans r2
            have HBE : Hid (Below w.heap.size w w7) := HBX.out.trans ((HX6.out.trans (HB7.out.mono HX6.out.size)).mono HBX.out.size)
            clear hgc r2 s0 s4
            go_wp2
            go_ret
            exact ⟨rfl, HBE.out⟩
        · have HQ1 : Hid _ := c_dead ps HPS.out (by rw [← HST.out]; exact hdead)
          clear hdead
          have heq := eq_store
          go_wp2_with (first | (go_at_call 19; have hnn := new_any (sb ++ ⟨#[119, 100]⟩) wr HLEN.out; refine Calls.mono hnn ?_; clear hnn; rintro e w4 hn; rw [HNEW.out] at hn; obtain ⟨hb4, b, rfl, hp4⟩ := hn; have HP4 : Hid _ := hp4; have HB4 : Hid (Below w.heap.size w w4) := HBW.out.trans (hb4.mono HBW.out.size); clear hb4 hp4) | (go_at_call 27; refine (play_any [cRow ps] _ _ b [] none 0 _ HP4.out HTINY.out (Nat.le_refl _) (fun h0 => by simp at h0) (by decide)).mono ?_; rintro e w5 ⟨rfl, hb5⟩; have HB5 : Hid (Below w.heap.size w w5) := HB4.out.trans (hb5.mono HB4.out.size); have HP5 : Hid _ := ProgIn.below HP4.out hb5; have HZ5 : Hid _ := hb5.size; clear hb5; rw [HQ1.out]; unfold resV))
          go_ret
          exact ⟨rfl, HB5.out.alloc HB5.out.size _⟩

end Go.Proofs.Ytfdafcnfefbcbaa
