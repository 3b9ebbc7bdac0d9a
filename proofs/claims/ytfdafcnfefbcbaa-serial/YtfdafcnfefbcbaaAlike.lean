/-
  Package interleavekeep: the contract of alike.
-/
import Derived.Test.YtfdafcnfefbcbaaWhole
namespace Go.Proofs.Ytfdafcnfefbcbaa
open Go.RowKit
set_option linter.unusedVariables false

theorem eq_vars9 (a b c d : Int) (w : World) : (Op.equalIn 9999 57 (.agg #[.int .i16 a, .int .i16 b, .int .i16 c, .int .i16 d]) (.agg #[.int .i16 a, .int .i16 b, .int .i16 c, .int .i16 d])).run Try.prog w = .ok true w := by
  have u3 := Try.underlying55
  have a3 := Try.isAgg55
  have z3 := Try.sizeOf55
  rw [show (9999 : Nat) = 9998 + 1 from rfl, Op.equalIn]
  simp only [Sem.run_bind, run_underlying Try.underlying57, Result.andThen_ok]
  simp only [Std.Legacy.Range.forIn_eq_forIn_range', Std.Legacy.Range.size, Nat.sub_zero, Nat.add_sub_cancel, Nat.div_one, List.range'_succ, List.range'_zero, List.forIn_cons, List.forIn_nil]
  go_simp

set_option maxRecDepth 100000 in
set_option maxHeartbeats 2000000 in
theorem alike_same (p : List (List Pl.POp)) (lo hi b : Nat) (ms ns : List Int) (ma na : Option Addr) (mcap ncap : Nat) (S : St) (es fs : List Ev) (w : World) (hp : ProgIn w lo hi b p) (hs : Tiny p) (hh : hi ≤ w.heap.size)
    (hm : IntsIn w ma ms) (hn : IntsIn w na ns) (hml : ms.length ≤ maxLen) (hnl : ns.length ≤ maxLen) (hf : follow p (beginTo p 4) [] 0 ms = some (S, es)) (hg : follow p (beginTo p 4) [] 0 ns = some (S, fs)) :
    Calls Try.prog 36 #[.pointer (some ⟨b, 0, none⟩), .slice ma ms.length mcap, .slice na ns.length ncap] w fun e w' => e = .returned (.bool true) ∧ Below w.heap.size w w' := by
  have HP : Hid (ProgIn w lo hi b p) := hp
  have HS : Hid _ := hs
  have HM : Hid (IntsIn w ma ms) := hm
  have HN : Hid (IntsIn w na ns) := hn
  have HML : Hid _ := hml
  have HNL : Hid _ := hnl
  have HF : Hid _ := hf
  have HG : Hid _ := hg
  have HV1 : Hid (playV p ms = .tuple #[resV (endOf S p) S.v0 S.v1 S.v2 S.v3, .int .i64 0]) := by show _ = _; unfold playV; rw [hf]
  have HV2 : Hid (playV p ns = .tuple #[resV (endOf S p) S.v0 S.v1 S.v2 S.v3, .int .i64 0]) := by show _ = _; unfold playV; rw [hg]
  have hrl := readyTo_length S p 4
  clear hp hs hm hn hml hnl hf hg
  go_enter Try.func36, Try.ntmps36
  go_wp2_with fail
  refine (play_any p lo hi b ms ma mcap _ HP.out HS.out hh HM.out HML.out).mono ?_
  rintro e w1 ⟨rfl, hb1⟩
  rw [HV1.out]
  unfold resV
  have HB1 : Hid _ := hb1
  clear hb1
  go_upto_region 2 with fail
  have HX : Hid (Below w.heap.size w (w1.alloc (.cells #[.int .u8 (endOf S p : Int), .int .i16 S.v0, .int .i16 S.v1, .int .i16 S.v2, .int .i16 S.v3] 59))) := HB1.out.alloc HB1.out.size _
  have c0 : (w1.alloc (.cells #[.int .u8 (endOf S p : Int), .int .i16 S.v0, .int .i16 S.v1, .int .i16 S.v2, .int .i16 S.v3] 59)).cell? ⟨w1.heap.size, 0, none⟩ = some (.int .u8 (endOf S p : Int)) := by simp
  have c1 : (w1.alloc (.cells #[.int .u8 (endOf S p : Int), .int .i16 S.v0, .int .i16 S.v1, .int .i16 S.v2, .int .i16 S.v3] 59)).cell? ⟨w1.heap.size, 1, none⟩ = some (.int .i16 S.v0) := by simp
  have c2 : (w1.alloc (.cells #[.int .u8 (endOf S p : Int), .int .i16 S.v0, .int .i16 S.v1, .int .i16 S.v2, .int .i16 S.v3] 59)).cell? ⟨w1.heap.size, 2, none⟩ = some (.int .i16 S.v1) := by simp
  have c3 : (w1.alloc (.cells #[.int .u8 (endOf S p : Int), .int .i16 S.v0, .int .i16 S.v1, .int .i16 S.v2, .int .i16 S.v3] 59)).cell? ⟨w1.heap.size, 3, none⟩ = some (.int .i16 S.v2) := by simp
  have c4 : (w1.alloc (.cells #[.int .u8 (endOf S p : Int), .int .i16 S.v0, .int .i16 S.v1, .int .i16 S.v2, .int .i16 S.v3] 59)).cell? ⟨w1.heap.size, 4, none⟩ = some (.int .i16 S.v3) := by simp
  have HZ : Hid ((w1.alloc (.cells #[.int .u8 (endOf S p : Int), .int .i16 S.v0, .int .i16 S.v1, .int .i16 S.v2, .int .i16 S.v3] 59)).heap.size = w1.heap.size + 1) := by show _ = _; simp
  generalize w1.alloc (.cells #[.int .u8 (endOf S p : Int), .int .i16 S.v0, .int .i16 S.v1, .int .i16 S.v2, .int .i16 S.v3] 59) = X at *
  have ltX : w1.heap.size < X.heap.size := by have := HZ.out; omega
  generalize w1.heap.size = A at *
  clear HB1
  go_wp2_with fail
  refine (play_any p lo hi b ns na ncap _ (HP.out.below (HX.out.mono hh)) HS.out (Nat.le_trans hh HX.out.size) (IntsIn.below HN.out HX.out) HNL.out).mono ?_
  rintro e w2 ⟨rfl, hb2⟩
  rw [HV2.out]
  unfold resV
  have d0 := (hb2.cell (p := ⟨A, 0, none⟩) ltX).trans c0
  have d1 := (hb2.cell (p := ⟨A, 1, none⟩) ltX).trans c1
  have d2 := (hb2.cell (p := ⟨A, 2, none⟩) ltX).trans c2
  have d3 := (hb2.cell (p := ⟨A, 3, none⟩) ltX).trans c3
  have d4 := (hb2.cell (p := ⟨A, 4, none⟩) ltX).trans c4
  have HX2 : Hid (Below w.heap.size w w2) := HX.out.trans (hb2.mono HX.out.size)
  have lt2 : A < w2.heap.size := Nat.lt_of_lt_of_le ltX hb2.size
  clear hb2 c0 c1 c2 c3 c4 ltX HZ HX
  go_upto_region 3 with fail
  have HY : Hid (Below w.heap.size w (w2.alloc (.cells #[.int .u8 (endOf S p : Int), .int .i16 S.v0, .int .i16 S.v1, .int .i16 S.v2, .int .i16 S.v3] 59))) := HX2.out.alloc HX2.out.size _
  have c0 : (w2.alloc (.cells #[.int .u8 (endOf S p : Int), .int .i16 S.v0, .int .i16 S.v1, .int .i16 S.v2, .int .i16 S.v3] 59)).cell? ⟨w2.heap.size, 0, none⟩ = some (.int .u8 (endOf S p : Int)) := by simp
  have c1 : (w2.alloc (.cells #[.int .u8 (endOf S p : Int), .int .i16 S.v0, .int .i16 S.v1, .int .i16 S.v2, .int .i16 S.v3] 59)).cell? ⟨w2.heap.size, 1, none⟩ = some (.int .i16 S.v0) := by simp
  have c2 : (w2.alloc (.cells #[.int .u8 (endOf S p : Int), .int .i16 S.v0, .int .i16 S.v1, .int .i16 S.v2, .int .i16 S.v3] 59)).cell? ⟨w2.heap.size, 2, none⟩ = some (.int .i16 S.v1) := by simp
  have c3 : (w2.alloc (.cells #[.int .u8 (endOf S p : Int), .int .i16 S.v0, .int .i16 S.v1, .int .i16 S.v2, .int .i16 S.v3] 59)).cell? ⟨w2.heap.size, 3, none⟩ = some (.int .i16 S.v2) := by simp
  have c4 : (w2.alloc (.cells #[.int .u8 (endOf S p : Int), .int .i16 S.v0, .int .i16 S.v1, .int .i16 S.v2, .int .i16 S.v3] 59)).cell? ⟨w2.heap.size, 4, none⟩ = some (.int .i16 S.v3) := by simp
  have f0 := alloc_cell d0 (.cells #[.int .u8 (endOf S p : Int), .int .i16 S.v0, .int .i16 S.v1, .int .i16 S.v2, .int .i16 S.v3] 59)
  have f1 := alloc_cell d1 (.cells #[.int .u8 (endOf S p : Int), .int .i16 S.v0, .int .i16 S.v1, .int .i16 S.v2, .int .i16 S.v3] 59)
  have f2 := alloc_cell d2 (.cells #[.int .u8 (endOf S p : Int), .int .i16 S.v0, .int .i16 S.v1, .int .i16 S.v2, .int .i16 S.v3] 59)
  have f3 := alloc_cell d3 (.cells #[.int .u8 (endOf S p : Int), .int .i16 S.v0, .int .i16 S.v1, .int .i16 S.v2, .int .i16 S.v3] 59)
  have f4 := alloc_cell d4 (.cells #[.int .u8 (endOf S p : Int), .int .i16 S.v0, .int .i16 S.v1, .int .i16 S.v2, .int .i16 S.v3] 59)
  have HZ : Hid ((w2.alloc (.cells #[.int .u8 (endOf S p : Int), .int .i16 S.v0, .int .i16 S.v1, .int .i16 S.v2, .int .i16 S.v3] 59)).heap.size = w2.heap.size + 1) := by show _ = _; simp
  generalize w2.alloc (.cells #[.int .u8 (endOf S p : Int), .int .i16 S.v0, .int .i16 S.v1, .int .i16 S.v2, .int .i16 S.v3] 59) = Y at *
  have ltY : w2.heap.size < Y.heap.size := by have := HZ.out; omega
  have ltA : A < Y.heap.size := by omega
  clear d0 d1 d2 d3 d4 lt2 HX2 HZ
  generalize w2.heap.size = C at *
  go_wp2_with fail
  refine (progReady_any p lo hi b ms ma mcap _ (HP.out.below (HY.out.mono hh)) HS.out (Nat.le_trans hh HY.out.size) (IntsIn.below HM.out HY.out) HML.out).mono ?_
  rintro e w3 hrs
  unfold ReadySays at hrs
  rw [HF.out] at hrs
  obtain ⟨hb3, la, lcap, rfl, ho3⟩ := hrs
  have HB3 : Hid (Below Y.heap.size Y w3) := hb3
  have HO3 : Hid (w3.ownsRow Y.heap.size 3 1 (.slice la (readyTo S p 4).length lcap) (readyTo S p 4).length (intCells (readyTo S p 4))) := ho3
  have HW3 : Hid (Below w.heap.size w w3) := HY.out.trans (hb3.mono HY.out.size)
  clear hb3 ho3
  go_wp2_with fail
  refine (progReady_any p lo hi b ns na ncap _ (HP.out.below (HW3.out.mono hh)) HS.out (Nat.le_trans hh HW3.out.size) (IntsIn.below HN.out HW3.out) HNL.out).mono ?_
  rintro e w4 hrs
  unfold ReadySays at hrs
  rw [HG.out] at hrs
  obtain ⟨hb4, ka, kcap, rfl, ho4⟩ := hrs
  have HB4 : Hid (Below Y.heap.size Y w4) := HB3.out.trans (hb4.mono HB3.out.size)
  have HO4 : Hid (w4.ownsRow w3.heap.size 3 1 (.slice ka (readyTo S p 4).length kcap) (readyTo S p 4).length (intCells (readyTo S p 4))) := ho4
  have HO3' : Hid (w4.ownsRow Y.heap.size 3 1 (.slice la (readyTo S p 4).length lcap) (readyTo S p 4).length (intCells (readyTo S p 4))) := ((ownsRow_in HO3.out).below hb4).1
  clear hb4 ho4
  go_wp2_with fail
  refine (sameInts_same (readyTo S p 4) la ka lcap kcap _ (ints_of_owns HO3'.out) (ints_of_owns HO4.out) (by omega)).mono ?_
  rintro e w5 ⟨rfl, hb5⟩
  have HB5 : Hid (Below Y.heap.size Y w5) := HB4.out.trans (hb5.mono HB4.out.size)
  have g0 := (HB5.out.cell (p := ⟨A, 0, none⟩) ltA).trans f0
  have g1 := (HB5.out.cell (p := ⟨A, 1, none⟩) ltA).trans f1
  have g2 := (HB5.out.cell (p := ⟨A, 2, none⟩) ltA).trans f2
  have g3 := (HB5.out.cell (p := ⟨A, 3, none⟩) ltA).trans f3
  have g4 := (HB5.out.cell (p := ⟨A, 4, none⟩) ltA).trans f4
  have k0 := (HB5.out.cell (p := ⟨C, 0, none⟩) ltY).trans c0
  have k1 := (HB5.out.cell (p := ⟨C, 1, none⟩) ltY).trans c1
  have k2 := (HB5.out.cell (p := ⟨C, 2, none⟩) ltY).trans c2
  have k3 := (HB5.out.cell (p := ⟨C, 3, none⟩) ltY).trans c3
  have k4 := (HB5.out.cell (p := ⟨C, 4, none⟩) ltY).trans c4
  clear hb5 f0 f1 f2 f3 f4 c0 c1 c2 c3 c4
  have heq := eq_vars9 S.v0 S.v1 S.v2 S.v3
  go_wp2
  go_ret
  exact ⟨rfl, HY.out.trans (HB5.out.mono HY.out.size)⟩

end Go.Proofs.Ytfdafcnfefbcbaa
