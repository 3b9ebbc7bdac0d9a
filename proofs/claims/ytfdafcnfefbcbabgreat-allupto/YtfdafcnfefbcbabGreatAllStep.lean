/-
 Package interleavelaw: the contract of World.step, by the kinds.
-/
import Derived.Test.YtfdafcnfefbcbabGreatAlt
namespace Go.Proofs.YtfdafcnfefbcbabGreat
open Go.RowKit
set_option linter.unusedVariables false
set_option maxRecDepth 100000
set_option maxHeartbeats 8000000

theorem step_ready {X : Nat → Prop} {Z w : World} {wb s np : Nat} (h : WOk X Z w wb s np) (hs : s ≤ 2000000) {B : Nat} (hB : B ≤ wb) (pp : Int) (hpp : -9223372036854775808 ≤ pp ∧ pp ≤ 9223372036854775807) (ms : List Int) (sa : Option Addr) (scap : Nat) (hm : SeqIn w sa ms) (hlen : ms.length ≤ 17592186044416) (t : ByteArray) :
  Calls Tryz.prog 4 #[.pointer (some ⟨wb, 0, none⟩), .agg #[.int .i64 3, .int .i64 pp, .slice sa ms.length scap, .string t]] w fun e w' => e = .returned (.bool true) ∧ Below B w w' ∧ WOk X Z w' wb (s + 1) np := by
 obtain ⟨D, nl, n, cs, rw, ps, I, E, R, h1, h2, h3, h4, h5, h6, h7⟩ := h
 have HC : Hid (ps.length = np ∧ np ≤ s ∧ nl ≤ 2 * s ∧ I.length ≤ 8 * s ∧ E.length ≤ 4 * s ∧ R.length ≤ 4 * s) := ⟨h2, h3, h4, h5, h6, h7⟩
 have HI : Hid (WInv wty wsz mkI mkE mkR X Z w wb D nl n cs rw ps I E R) := h1
 have HM : Hid (SeqIn w sa ms) := hm
 have hwl : wb < w.heap.size := h1.rows.lt
 have hpl : ps.length ≤ 2000000 := by omega
 have HPP : Hid (-9223372036854775808 ≤ pp ∧ pp ≤ 9223372036854775807) := hpp
 clear h1 h2 h3 h4 h5 h6 h7 hm hpp
 go_enter Tryz.func4, Tryz.ntmps4
 go_upto_region 1 with fail
 have HB0 : Hid (Below w.heap.size w (w.alloc (.cells #[.int .i64 3, .int .i64 pp, .slice sa ms.length scap, .string t] 33))) := (Below.refl _ _).alloc (Nat.le_refl _) _
 have x0 : (w.alloc (.cells #[.int .i64 3, .int .i64 pp, .slice sa ms.length scap, .string t] 33)).cell? ⟨w.heap.size, 0, none⟩ = some (.int .i64 3) := by simp
 have x1 : (w.alloc (.cells #[.int .i64 3, .int .i64 pp, .slice sa ms.length scap, .string t] 33)).cell? ⟨w.heap.size, 1, none⟩ = some (.int .i64 pp) := by simp
 have x2 : (w.alloc (.cells #[.int .i64 3, .int .i64 pp, .slice sa ms.length scap, .string t] 33)).cell? ⟨w.heap.size, 2, none⟩ = some (.slice sa ms.length scap) := by simp
 have x3 : (w.alloc (.cells #[.int .i64 3, .int .i64 pp, .slice sa ms.length scap, .string t] 33)).cell? ⟨w.heap.size, 3, none⟩ = some (.string t) := by simp
 have HZ0 : Hid ((w.alloc (.cells #[.int .i64 3, .int .i64 pp, .slice sa ms.length scap, .string t] 33)).heap.size = w.heap.size + 1) := by show _ = _; simp
 generalize (w.alloc (.cells #[.int .i64 3, .int .i64 pp, .slice sa ms.length scap, .string t] 33)) = W at *
 have HI0 : Hid (WInv wty wsz mkI mkE mkR X Z W wb D nl n cs rw ps I E R) := HI.out.below HB0.out
 have HWO : Hid (WOk X Z W wb s np) := ⟨D, nl, n, cs, rw, ps, I, E, R, HI0.out, HC.out⟩
 have HBV : Hid (Below B w W) := HB0.out.mono (by omega)
 by_cases hp0 : ps.length = 0
 ·have c0 : W.cell? ⟨wb, 0, none⟩ = some (.slice (rw 0).a (n 0) (rw 0).cap) := HI0.out.rows.cell 0 (by omega)
  rw [HI0.out.n0.1, hp0] at c0
  go_wp2
  go_ret
  exact ⟨rfl, HBV.out, HWO.out.more⟩
 ·obtain ⟨P0, g0, g1, cap0, cap1, -, -, r0, r1, c0, c1, d0, d1, fz, hg0, hg1, hl0, hl1, hnD⟩ := HI0.out.at (k := 0) (by omega)
  have hpn : ((ps.length : Int) == 0) = false := by rw [beq_eq_false_iff_ne]; omega
  have HR0 : Hid (rw 0 = ⟨some ⟨g0, 0, none⟩, cap0⟩) := r0
  clear r0 r1 c1 d0 d1 fz hg1 hl1 hnD
  go_upto_region 5 with fail
  refine wp_region_held_drew (S := fun w' => w'.cell? ⟨wb, 0, none⟩ = some (.slice (some ⟨g0, 0, none⟩) ps.length cap0) ∧ w'.cell? ⟨w.heap.size, 1, none⟩ = some (.int .i64 pp)) (by kernel_rfl) ⟨c0, x1⟩ (fun hHeld => ?_)
  refine takeS 0 (.pointer (some ⟨w.heap.size, 1, none⟩)) rfl hHeld ?_
  refine takeAt 1 (.int .i64 pp) rfl (.inl ⟨by rfl, fun w hw => by have hwa := hw.2; go_simp⟩) hHeld ?_
  refine takeR 2 (.pointer (some ⟨wb, 0, none⟩)) rfl hHeld ?_
  refine takeS 3 (.pointer (some ⟨wb, 0, none⟩)) rfl hHeld ?_
  refine takeS 4 (.pointer (some ⟨wb, 0, none⟩)) rfl hHeld ?_
  refine takeAt 5 (.slice (some ⟨g0, 0, none⟩) ps.length cap0) rfl (.inl ⟨by rfl, fun w hw => by have hwa := hw.1; go_simp⟩) hHeld ?_
  refine takeS 6 (.int .i64 (ps.length : Int)) rfl hHeld ?_
  refine wpAnyH_callg 7 _ (by kernel_rfl) rfl (by rfl) 7 #[.int .i64 pp, .int .i64 (ps.length : Int)] (by go_simp) _ (lawPick_any pp (ps.length : Int) _ HPP.out (by omega) (by omega)) ?_
  rintro e w6 ⟨⟨k, rfl, hk⟩, rfl⟩
  refine ⟨_, rfl, hHeld, ?_⟩
  simp only [List.getElem_toArray, List.getElem_cons_zero, List.getElem_cons_succ, Act.put, List.setIfInBounds_toArray, List.set_cons_zero, List.set_cons_succ]
  refine takeR 8 (.int .i64 (k : Int)) rfl hHeld ?_
  refine wpAnyH_done (by kernel_rfl) ?_ _
  have hkl : k < ps.length := by omega
  have HI1 : Hid (WInv wty wsz mkI mkE mkR X Z W.drew wb D nl n cs rw ps I E R) := HI0.out.below (Below.refl _ _).drew
  have HWO1 : Hid (WOk X Z W.drew wb s np) := HWO.out.below (Below.refl _ _).drew
  have HBV1 : Hid (Below B w W.drew) := HBV.out.drew
  have y0 : W.drew.cell? ⟨w.heap.size, 0, none⟩ = some (.int .i64 3) := x0
  have y1 : W.drew.cell? ⟨w.heap.size, 1, none⟩ = some (.int .i64 pp) := x1
  have y2 : W.drew.cell? ⟨w.heap.size, 2, none⟩ = some (.slice sa ms.length scap) := x2
  have y3 : W.drew.cell? ⟨w.heap.size, 3, none⟩ = some (.string t) := x3
  have HM1 : Hid (SeqIn W.drew sa ms) := HM.out.below (HB0.out.drew)
  clear hHeld c0 x0 x1 x2 x3 HI0 HWO HBV HB0 hl0 HR0 HZ0
  generalize W.drew = V at *
  obtain ⟨P, g0', g1', cap0', cap1', hP, hok, -, -, c0, c1, d0, -, -, hgg, -, hl0, -, -⟩ := HI1.out.at hkl
  have HOK : Hid (PrOk V D P) := hok
  have hknp : k < np := by have := HC.out.1; omega
  clear hP hok c1
  go_wp2_with fail
  refine (listed_ready HWO1.out hs hB HOK.out pp ms sa scap HM1.out hlen t).mono ?_
  rintro e w5 ⟨rfl, hB5, hW5⟩
  have HB5 : Hid (Below B V w5) := hB5
  have HW5 : Hid (WOk X Z w5 wb (s + 1) np) := hW5
  clear hB5 hW5
  go_wp2
  go_ret
  exact ⟨rfl, HBV1.out.trans HB5.out, HW5.out⟩

theorem step_cycle {X : Nat → Prop} {Z w : World} {wb s np : Nat} (h : WOk X Z w wb s np) (hs : s ≤ 2000000) {B : Nat} (hB : B ≤ wb) (pp : Int) (hpp : -9223372036854775808 ≤ pp ∧ pp ≤ 9223372036854775807) (ms : List Int) (sa : Option Addr) (scap : Nat) (hm : SeqIn w sa ms) (hlen : ms.length ≤ 17592186044416) (t : ByteArray) :
  Calls Tryz.prog 4 #[.pointer (some ⟨wb, 0, none⟩), .agg #[.int .i64 6, .int .i64 pp, .slice sa ms.length scap, .string t]] w fun e w' => e = .returned (.bool true) ∧ Below B w w' ∧ WOk X Z w' wb (s + 1) np := by
 obtain ⟨D, nl, n, cs, rw, ps, I, E, R, h1, h2, h3, h4, h5, h6, h7⟩ := h
 have HC : Hid (ps.length = np ∧ np ≤ s ∧ nl ≤ 2 * s ∧ I.length ≤ 8 * s ∧ E.length ≤ 4 * s ∧ R.length ≤ 4 * s) := ⟨h2, h3, h4, h5, h6, h7⟩
 have HI : Hid (WInv wty wsz mkI mkE mkR X Z w wb D nl n cs rw ps I E R) := h1
 have HM : Hid (SeqIn w sa ms) := hm
 have hwl : wb < w.heap.size := h1.rows.lt
 have hpl : ps.length ≤ 2000000 := by omega
 have HPP : Hid (-9223372036854775808 ≤ pp ∧ pp ≤ 9223372036854775807) := hpp
 clear h1 h2 h3 h4 h5 h6 h7 hm hpp
 go_enter Tryz.func4, Tryz.ntmps4
 go_upto_region 1 with fail
 have HB0 : Hid (Below w.heap.size w (w.alloc (.cells #[.int .i64 6, .int .i64 pp, .slice sa ms.length scap, .string t] 33))) := (Below.refl _ _).alloc (Nat.le_refl _) _
 have x0 : (w.alloc (.cells #[.int .i64 6, .int .i64 pp, .slice sa ms.length scap, .string t] 33)).cell? ⟨w.heap.size, 0, none⟩ = some (.int .i64 6) := by simp
 have x1 : (w.alloc (.cells #[.int .i64 6, .int .i64 pp, .slice sa ms.length scap, .string t] 33)).cell? ⟨w.heap.size, 1, none⟩ = some (.int .i64 pp) := by simp
 have x2 : (w.alloc (.cells #[.int .i64 6, .int .i64 pp, .slice sa ms.length scap, .string t] 33)).cell? ⟨w.heap.size, 2, none⟩ = some (.slice sa ms.length scap) := by simp
 have x3 : (w.alloc (.cells #[.int .i64 6, .int .i64 pp, .slice sa ms.length scap, .string t] 33)).cell? ⟨w.heap.size, 3, none⟩ = some (.string t) := by simp
 have HZ0 : Hid ((w.alloc (.cells #[.int .i64 6, .int .i64 pp, .slice sa ms.length scap, .string t] 33)).heap.size = w.heap.size + 1) := by show _ = _; simp
 generalize (w.alloc (.cells #[.int .i64 6, .int .i64 pp, .slice sa ms.length scap, .string t] 33)) = W at *
 have HI0 : Hid (WInv wty wsz mkI mkE mkR X Z W wb D nl n cs rw ps I E R) := HI.out.below HB0.out
 have HWO : Hid (WOk X Z W wb s np) := ⟨D, nl, n, cs, rw, ps, I, E, R, HI0.out, HC.out⟩
 have HBV : Hid (Below B w W) := HB0.out.mono (by omega)
 by_cases hp0 : ps.length = 0
 ·have c0 : W.cell? ⟨wb, 0, none⟩ = some (.slice (rw 0).a (n 0) (rw 0).cap) := HI0.out.rows.cell 0 (by omega)
  rw [HI0.out.n0.1, hp0] at c0
  go_wp2
  go_ret
  exact ⟨rfl, HBV.out, HWO.out.more⟩
 ·obtain ⟨P0, g0, g1, cap0, cap1, -, -, r0, r1, c0, c1, d0, d1, fz, hg0, hg1, hl0, hl1, hnD⟩ := HI0.out.at (k := 0) (by omega)
  have hpn : ((ps.length : Int) == 0) = false := by rw [beq_eq_false_iff_ne]; omega
  have HR0 : Hid (rw 0 = ⟨some ⟨g0, 0, none⟩, cap0⟩) := r0
  clear r0 r1 c1 d0 d1 fz hg1 hl1 hnD
  go_upto_region 5 with fail
  refine wp_region_held_drew (S := fun w' => w'.cell? ⟨wb, 0, none⟩ = some (.slice (some ⟨g0, 0, none⟩) ps.length cap0) ∧ w'.cell? ⟨w.heap.size, 1, none⟩ = some (.int .i64 pp)) (by kernel_rfl) ⟨c0, x1⟩ (fun hHeld => ?_)
  refine takeS 0 (.pointer (some ⟨w.heap.size, 1, none⟩)) rfl hHeld ?_
  refine takeAt 1 (.int .i64 pp) rfl (.inl ⟨by rfl, fun w hw => by have hwa := hw.2; go_simp⟩) hHeld ?_
  refine takeR 2 (.pointer (some ⟨wb, 0, none⟩)) rfl hHeld ?_
  refine takeS 3 (.pointer (some ⟨wb, 0, none⟩)) rfl hHeld ?_
  refine takeS 4 (.pointer (some ⟨wb, 0, none⟩)) rfl hHeld ?_
  refine takeAt 5 (.slice (some ⟨g0, 0, none⟩) ps.length cap0) rfl (.inl ⟨by rfl, fun w hw => by have hwa := hw.1; go_simp⟩) hHeld ?_
  refine takeS 6 (.int .i64 (ps.length : Int)) rfl hHeld ?_
  refine wpAnyH_callg 7 _ (by kernel_rfl) rfl (by rfl) 7 #[.int .i64 pp, .int .i64 (ps.length : Int)] (by go_simp) _ (lawPick_any pp (ps.length : Int) _ HPP.out (by omega) (by omega)) ?_
  rintro e w6 ⟨⟨k, rfl, hk⟩, rfl⟩
  refine ⟨_, rfl, hHeld, ?_⟩
  simp only [List.getElem_toArray, List.getElem_cons_zero, List.getElem_cons_succ, Act.put, List.setIfInBounds_toArray, List.set_cons_zero, List.set_cons_succ]
  refine takeR 8 (.int .i64 (k : Int)) rfl hHeld ?_
  refine wpAnyH_done (by kernel_rfl) ?_ _
  have hkl : k < ps.length := by omega
  have HI1 : Hid (WInv wty wsz mkI mkE mkR X Z W.drew wb D nl n cs rw ps I E R) := HI0.out.below (Below.refl _ _).drew
  have HWO1 : Hid (WOk X Z W.drew wb s np) := HWO.out.below (Below.refl _ _).drew
  have HBV1 : Hid (Below B w W.drew) := HBV.out.drew
  have y0 : W.drew.cell? ⟨w.heap.size, 0, none⟩ = some (.int .i64 6) := x0
  have y1 : W.drew.cell? ⟨w.heap.size, 1, none⟩ = some (.int .i64 pp) := x1
  have y2 : W.drew.cell? ⟨w.heap.size, 2, none⟩ = some (.slice sa ms.length scap) := x2
  have y3 : W.drew.cell? ⟨w.heap.size, 3, none⟩ = some (.string t) := x3
  have HM1 : Hid (SeqIn W.drew sa ms) := HM.out.below (HB0.out.drew)
  clear hHeld c0 x0 x1 x2 x3 HI0 HWO HBV HB0 hl0 HR0 HZ0
  generalize W.drew = V at *
  obtain ⟨P, g0', g1', cap0', cap1', hP, hok, -, -, c0, c1, d0, -, -, hgg, -, hl0, -, -⟩ := HI1.out.at hkl
  have HOK : Hid (PrOk V D P) := hok
  have hknp : k < np := by have := HC.out.1; omega
  clear hP hok c1
  go_wp2_with fail
  refine (listed_cycle HWO1.out hs hB HOK.out pp ms sa scap HM1.out hlen t).mono ?_
  rintro e w5 ⟨rfl, hB5, hW5⟩
  have HB5 : Hid (Below B V w5) := hB5
  have HW5 : Hid (WOk X Z w5 wb (s + 1) np) := hW5
  clear hB5 hW5
  go_wp2
  go_ret
  exact ⟨rfl, HBV1.out.trans HB5.out, HW5.out⟩

theorem step_arrange {X : Nat → Prop} {Z w : World} {wb s np : Nat} (h : WOk X Z w wb s np) (hs : s ≤ 2000000) {B : Nat} (hB : B ≤ wb) (pp : Int) (hpp : -9223372036854775808 ≤ pp ∧ pp ≤ 9223372036854775807) (ms : List Int) (sa : Option Addr) (scap : Nat) (hm : SeqIn w sa ms) (hlen : ms.length ≤ 17592186044416) (t : ByteArray) :
  Calls Tryz.prog 4 #[.pointer (some ⟨wb, 0, none⟩), .agg #[.int .i64 7, .int .i64 pp, .slice sa ms.length scap, .string t]] w fun e w' => e = .returned (.bool true) ∧ Below B w w' ∧ WOk X Z w' wb (s + 1) np := by
 obtain ⟨D, nl, n, cs, rw, ps, I, E, R, h1, h2, h3, h4, h5, h6, h7⟩ := h
 have HC : Hid (ps.length = np ∧ np ≤ s ∧ nl ≤ 2 * s ∧ I.length ≤ 8 * s ∧ E.length ≤ 4 * s ∧ R.length ≤ 4 * s) := ⟨h2, h3, h4, h5, h6, h7⟩
 have HI : Hid (WInv wty wsz mkI mkE mkR X Z w wb D nl n cs rw ps I E R) := h1
 have HM : Hid (SeqIn w sa ms) := hm
 have hwl : wb < w.heap.size := h1.rows.lt
 have hpl : ps.length ≤ 2000000 := by omega
 have HPP : Hid (-9223372036854775808 ≤ pp ∧ pp ≤ 9223372036854775807) := hpp
 clear h1 h2 h3 h4 h5 h6 h7 hm hpp
 go_enter Tryz.func4, Tryz.ntmps4
 go_upto_region 1 with fail
 have HB0 : Hid (Below w.heap.size w (w.alloc (.cells #[.int .i64 7, .int .i64 pp, .slice sa ms.length scap, .string t] 33))) := (Below.refl _ _).alloc (Nat.le_refl _) _
 have x0 : (w.alloc (.cells #[.int .i64 7, .int .i64 pp, .slice sa ms.length scap, .string t] 33)).cell? ⟨w.heap.size, 0, none⟩ = some (.int .i64 7) := by simp
 have x1 : (w.alloc (.cells #[.int .i64 7, .int .i64 pp, .slice sa ms.length scap, .string t] 33)).cell? ⟨w.heap.size, 1, none⟩ = some (.int .i64 pp) := by simp
 have x2 : (w.alloc (.cells #[.int .i64 7, .int .i64 pp, .slice sa ms.length scap, .string t] 33)).cell? ⟨w.heap.size, 2, none⟩ = some (.slice sa ms.length scap) := by simp
 have x3 : (w.alloc (.cells #[.int .i64 7, .int .i64 pp, .slice sa ms.length scap, .string t] 33)).cell? ⟨w.heap.size, 3, none⟩ = some (.string t) := by simp
 have HZ0 : Hid ((w.alloc (.cells #[.int .i64 7, .int .i64 pp, .slice sa ms.length scap, .string t] 33)).heap.size = w.heap.size + 1) := by show _ = _; simp
 generalize (w.alloc (.cells #[.int .i64 7, .int .i64 pp, .slice sa ms.length scap, .string t] 33)) = W at *
 have HI0 : Hid (WInv wty wsz mkI mkE mkR X Z W wb D nl n cs rw ps I E R) := HI.out.below HB0.out
 have HWO : Hid (WOk X Z W wb s np) := ⟨D, nl, n, cs, rw, ps, I, E, R, HI0.out, HC.out⟩
 have HBV : Hid (Below B w W) := HB0.out.mono (by omega)
 by_cases hp0 : ps.length = 0
 ·have c0 : W.cell? ⟨wb, 0, none⟩ = some (.slice (rw 0).a (n 0) (rw 0).cap) := HI0.out.rows.cell 0 (by omega)
  rw [HI0.out.n0.1, hp0] at c0
  go_wp2
  go_ret
  exact ⟨rfl, HBV.out, HWO.out.more⟩
 ·obtain ⟨P0, g0, g1, cap0, cap1, -, -, r0, r1, c0, c1, d0, d1, fz, hg0, hg1, hl0, hl1, hnD⟩ := HI0.out.at (k := 0) (by omega)
  have hpn : ((ps.length : Int) == 0) = false := by rw [beq_eq_false_iff_ne]; omega
  have HR0 : Hid (rw 0 = ⟨some ⟨g0, 0, none⟩, cap0⟩) := r0
  clear r0 r1 c1 d0 d1 fz hg1 hl1 hnD
  go_upto_region 5 with fail
  refine wp_region_held_drew (S := fun w' => w'.cell? ⟨wb, 0, none⟩ = some (.slice (some ⟨g0, 0, none⟩) ps.length cap0) ∧ w'.cell? ⟨w.heap.size, 1, none⟩ = some (.int .i64 pp)) (by kernel_rfl) ⟨c0, x1⟩ (fun hHeld => ?_)
  refine takeS 0 (.pointer (some ⟨w.heap.size, 1, none⟩)) rfl hHeld ?_
  refine takeAt 1 (.int .i64 pp) rfl (.inl ⟨by rfl, fun w hw => by have hwa := hw.2; go_simp⟩) hHeld ?_
  refine takeR 2 (.pointer (some ⟨wb, 0, none⟩)) rfl hHeld ?_
  refine takeS 3 (.pointer (some ⟨wb, 0, none⟩)) rfl hHeld ?_
  refine takeS 4 (.pointer (some ⟨wb, 0, none⟩)) rfl hHeld ?_
  refine takeAt 5 (.slice (some ⟨g0, 0, none⟩) ps.length cap0) rfl (.inl ⟨by rfl, fun w hw => by have hwa := hw.1; go_simp⟩) hHeld ?_
  refine takeS 6 (.int .i64 (ps.length : Int)) rfl hHeld ?_
  refine wpAnyH_callg 7 _ (by kernel_rfl) rfl (by rfl) 7 #[.int .i64 pp, .int .i64 (ps.length : Int)] (by go_simp) _ (lawPick_any pp (ps.length : Int) _ HPP.out (by omega) (by omega)) ?_
  rintro e w6 ⟨⟨k, rfl, hk⟩, rfl⟩
  refine ⟨_, rfl, hHeld, ?_⟩
  simp only [List.getElem_toArray, List.getElem_cons_zero, List.getElem_cons_succ, Act.put, List.setIfInBounds_toArray, List.set_cons_zero, List.set_cons_succ]
  refine takeR 8 (.int .i64 (k : Int)) rfl hHeld ?_
  refine wpAnyH_done (by kernel_rfl) ?_ _
  have hkl : k < ps.length := by omega
  have HI1 : Hid (WInv wty wsz mkI mkE mkR X Z W.drew wb D nl n cs rw ps I E R) := HI0.out.below (Below.refl _ _).drew
  have HWO1 : Hid (WOk X Z W.drew wb s np) := HWO.out.below (Below.refl _ _).drew
  have HBV1 : Hid (Below B w W.drew) := HBV.out.drew
  have y0 : W.drew.cell? ⟨w.heap.size, 0, none⟩ = some (.int .i64 7) := x0
  have y1 : W.drew.cell? ⟨w.heap.size, 1, none⟩ = some (.int .i64 pp) := x1
  have y2 : W.drew.cell? ⟨w.heap.size, 2, none⟩ = some (.slice sa ms.length scap) := x2
  have y3 : W.drew.cell? ⟨w.heap.size, 3, none⟩ = some (.string t) := x3
  have HM1 : Hid (SeqIn W.drew sa ms) := HM.out.below (HB0.out.drew)
  clear hHeld c0 x0 x1 x2 x3 HI0 HWO HBV HB0 hl0 HR0 HZ0
  generalize W.drew = V at *
  obtain ⟨P, g0', g1', cap0', cap1', hP, hok, -, -, c0, c1, d0, -, -, hgg, -, hl0, -, -⟩ := HI1.out.at hkl
  have HOK : Hid (PrOk V D P) := hok
  have hknp : k < np := by have := HC.out.1; omega
  clear hP hok c1
  go_wp2_with fail
  refine (listed_arrange HWO1.out hs hB HOK.out pp ms sa scap HM1.out hlen t).mono ?_
  rintro e w5 ⟨rfl, hB5, hW5⟩
  have HB5 : Hid (Below B V w5) := hB5
  have HW5 : Hid (WOk X Z w5 wb (s + 1) np) := hW5
  clear hB5 hW5
  go_wp2
  go_ret
  exact ⟨rfl, HBV1.out.trans HB5.out, HW5.out⟩

theorem step_events {X : Nat → Prop} {Z w : World} {wb s np : Nat} (h : WOk X Z w wb s np) (hs : s ≤ 2000000) {B : Nat} (hB : B ≤ wb) (pp : Int) (hpp : -9223372036854775808 ≤ pp ∧ pp ≤ 9223372036854775807) (ms : List Int) (sa : Option Addr) (scap : Nat) (hm : SeqIn w sa ms) (hlen : ms.length ≤ 17592186044416) (t : ByteArray) :
  Calls Tryz.prog 4 #[.pointer (some ⟨wb, 0, none⟩), .agg #[.int .i64 5, .int .i64 pp, .slice sa ms.length scap, .string t]] w fun e w' => e = .returned (.bool true) ∧ Below B w w' ∧ WOk X Z w' wb (s + 1) np := by
 obtain ⟨D, nl, n, cs, rw, ps, I, E, R, h1, h2, h3, h4, h5, h6, h7⟩ := h
 have HC : Hid (ps.length = np ∧ np ≤ s ∧ nl ≤ 2 * s ∧ I.length ≤ 8 * s ∧ E.length ≤ 4 * s ∧ R.length ≤ 4 * s) := ⟨h2, h3, h4, h5, h6, h7⟩
 have HI : Hid (WInv wty wsz mkI mkE mkR X Z w wb D nl n cs rw ps I E R) := h1
 have HM : Hid (SeqIn w sa ms) := hm
 have hwl : wb < w.heap.size := h1.rows.lt
 have hpl : ps.length ≤ 2000000 := by omega
 have HPP : Hid (-9223372036854775808 ≤ pp ∧ pp ≤ 9223372036854775807) := hpp
 clear h1 h2 h3 h4 h5 h6 h7 hm hpp
 go_enter Tryz.func4, Tryz.ntmps4
 go_upto_region 1 with fail
 have HB0 : Hid (Below w.heap.size w (w.alloc (.cells #[.int .i64 5, .int .i64 pp, .slice sa ms.length scap, .string t] 33))) := (Below.refl _ _).alloc (Nat.le_refl _) _
 have x0 : (w.alloc (.cells #[.int .i64 5, .int .i64 pp, .slice sa ms.length scap, .string t] 33)).cell? ⟨w.heap.size, 0, none⟩ = some (.int .i64 5) := by simp
 have x1 : (w.alloc (.cells #[.int .i64 5, .int .i64 pp, .slice sa ms.length scap, .string t] 33)).cell? ⟨w.heap.size, 1, none⟩ = some (.int .i64 pp) := by simp
 have x2 : (w.alloc (.cells #[.int .i64 5, .int .i64 pp, .slice sa ms.length scap, .string t] 33)).cell? ⟨w.heap.size, 2, none⟩ = some (.slice sa ms.length scap) := by simp
 have x3 : (w.alloc (.cells #[.int .i64 5, .int .i64 pp, .slice sa ms.length scap, .string t] 33)).cell? ⟨w.heap.size, 3, none⟩ = some (.string t) := by simp
 have HZ0 : Hid ((w.alloc (.cells #[.int .i64 5, .int .i64 pp, .slice sa ms.length scap, .string t] 33)).heap.size = w.heap.size + 1) := by show _ = _; simp
 generalize (w.alloc (.cells #[.int .i64 5, .int .i64 pp, .slice sa ms.length scap, .string t] 33)) = W at *
 have HI0 : Hid (WInv wty wsz mkI mkE mkR X Z W wb D nl n cs rw ps I E R) := HI.out.below HB0.out
 have HWO : Hid (WOk X Z W wb s np) := ⟨D, nl, n, cs, rw, ps, I, E, R, HI0.out, HC.out⟩
 have HBV : Hid (Below B w W) := HB0.out.mono (by omega)
 by_cases hp0 : ps.length = 0
 ·have c0 : W.cell? ⟨wb, 0, none⟩ = some (.slice (rw 0).a (n 0) (rw 0).cap) := HI0.out.rows.cell 0 (by omega)
  rw [HI0.out.n0.1, hp0] at c0
  go_wp2
  go_ret
  exact ⟨rfl, HBV.out, HWO.out.more⟩
 ·obtain ⟨P0, g0, g1, cap0, cap1, -, -, r0, r1, c0, c1, d0, d1, fz, hg0, hg1, hl0, hl1, hnD⟩ := HI0.out.at (k := 0) (by omega)
  have hpn : ((ps.length : Int) == 0) = false := by rw [beq_eq_false_iff_ne]; omega
  have HR0 : Hid (rw 0 = ⟨some ⟨g0, 0, none⟩, cap0⟩) := r0
  clear r0 r1 c1 d0 d1 fz hg1 hl1 hnD
  go_upto_region 5 with fail
  refine wp_region_held_drew (S := fun w' => w'.cell? ⟨wb, 0, none⟩ = some (.slice (some ⟨g0, 0, none⟩) ps.length cap0) ∧ w'.cell? ⟨w.heap.size, 1, none⟩ = some (.int .i64 pp)) (by kernel_rfl) ⟨c0, x1⟩ (fun hHeld => ?_)
  refine takeS 0 (.pointer (some ⟨w.heap.size, 1, none⟩)) rfl hHeld ?_
  refine takeAt 1 (.int .i64 pp) rfl (.inl ⟨by rfl, fun w hw => by have hwa := hw.2; go_simp⟩) hHeld ?_
  refine takeR 2 (.pointer (some ⟨wb, 0, none⟩)) rfl hHeld ?_
  refine takeS 3 (.pointer (some ⟨wb, 0, none⟩)) rfl hHeld ?_
  refine takeS 4 (.pointer (some ⟨wb, 0, none⟩)) rfl hHeld ?_
  refine takeAt 5 (.slice (some ⟨g0, 0, none⟩) ps.length cap0) rfl (.inl ⟨by rfl, fun w hw => by have hwa := hw.1; go_simp⟩) hHeld ?_
  refine takeS 6 (.int .i64 (ps.length : Int)) rfl hHeld ?_
  refine wpAnyH_callg 7 _ (by kernel_rfl) rfl (by rfl) 7 #[.int .i64 pp, .int .i64 (ps.length : Int)] (by go_simp) _ (lawPick_any pp (ps.length : Int) _ HPP.out (by omega) (by omega)) ?_
  rintro e w6 ⟨⟨k, rfl, hk⟩, rfl⟩
  refine ⟨_, rfl, hHeld, ?_⟩
  simp only [List.getElem_toArray, List.getElem_cons_zero, List.getElem_cons_succ, Act.put, List.setIfInBounds_toArray, List.set_cons_zero, List.set_cons_succ]
  refine takeR 8 (.int .i64 (k : Int)) rfl hHeld ?_
  refine wpAnyH_done (by kernel_rfl) ?_ _
  have hkl : k < ps.length := by omega
  have HI1 : Hid (WInv wty wsz mkI mkE mkR X Z W.drew wb D nl n cs rw ps I E R) := HI0.out.below (Below.refl _ _).drew
  have HWO1 : Hid (WOk X Z W.drew wb s np) := HWO.out.below (Below.refl _ _).drew
  have HBV1 : Hid (Below B w W.drew) := HBV.out.drew
  have y0 : W.drew.cell? ⟨w.heap.size, 0, none⟩ = some (.int .i64 5) := x0
  have y1 : W.drew.cell? ⟨w.heap.size, 1, none⟩ = some (.int .i64 pp) := x1
  have y2 : W.drew.cell? ⟨w.heap.size, 2, none⟩ = some (.slice sa ms.length scap) := x2
  have y3 : W.drew.cell? ⟨w.heap.size, 3, none⟩ = some (.string t) := x3
  have HM1 : Hid (SeqIn W.drew sa ms) := HM.out.below (HB0.out.drew)
  clear hHeld c0 x0 x1 x2 x3 HI0 HWO HBV HB0 hl0 HR0 HZ0
  generalize W.drew = V at *
  obtain ⟨P, g0', g1', cap0', cap1', hP, hok, -, -, c0, c1, d0, -, -, hgg, -, hl0, -, -⟩ := HI1.out.at hkl
  have HOK : Hid (PrOk V D P) := hok
  have hknp : k < np := by have := HC.out.1; omega
  clear hP hok c1
  go_wp2_with fail
  refine (listed_events HWO1.out hs hB HOK.out pp ms sa scap HM1.out hlen t).mono ?_
  rintro e w5 ⟨rfl, hB5, hW5⟩
  have HB5 : Hid (Below B V w5) := hB5
  have HW5 : Hid (WOk X Z w5 wb (s + 1) np) := hW5
  clear hB5 hW5
  go_wp2
  go_ret
  exact ⟨rfl, HBV1.out.trans HB5.out, HW5.out⟩

theorem step_check {X : Nat → Prop} {Z w : World} {wb s np : Nat} (h : WOk X Z w wb s np) (hs : s ≤ 2000000) {B : Nat} (hB : B ≤ wb) (pp : Int) (hpp : -9223372036854775808 ≤ pp ∧ pp ≤ 9223372036854775807) (ms : List Int) (sa : Option Addr) (scap : Nat) (hm : SeqIn w sa ms) (hlen : ms.length ≤ 17592186044416) (t : ByteArray) :
  Calls Tryz.prog 4 #[.pointer (some ⟨wb, 0, none⟩), .agg #[.int .i64 8, .int .i64 pp, .slice sa ms.length scap, .string t]] w fun e w' => e = .returned (.bool true) ∧ Below B w w' ∧ WOk X Z w' wb (s + 1) np := by
 obtain ⟨D, nl, n, cs, rw, ps, I, E, R, h1, h2, h3, h4, h5, h6, h7⟩ := h
 have HC : Hid (ps.length = np ∧ np ≤ s ∧ nl ≤ 2 * s ∧ I.length ≤ 8 * s ∧ E.length ≤ 4 * s ∧ R.length ≤ 4 * s) := ⟨h2, h3, h4, h5, h6, h7⟩
 have HI : Hid (WInv wty wsz mkI mkE mkR X Z w wb D nl n cs rw ps I E R) := h1
 have HM : Hid (SeqIn w sa ms) := hm
 have hwl : wb < w.heap.size := h1.rows.lt
 have hpl : ps.length ≤ 2000000 := by omega
 have HPP : Hid (-9223372036854775808 ≤ pp ∧ pp ≤ 9223372036854775807) := hpp
 clear h1 h2 h3 h4 h5 h6 h7 hm hpp
 go_enter Tryz.func4, Tryz.ntmps4
 go_upto_region 1 with fail
 have HB0 : Hid (Below w.heap.size w (w.alloc (.cells #[.int .i64 8, .int .i64 pp, .slice sa ms.length scap, .string t] 33))) := (Below.refl _ _).alloc (Nat.le_refl _) _
 have x0 : (w.alloc (.cells #[.int .i64 8, .int .i64 pp, .slice sa ms.length scap, .string t] 33)).cell? ⟨w.heap.size, 0, none⟩ = some (.int .i64 8) := by simp
 have x1 : (w.alloc (.cells #[.int .i64 8, .int .i64 pp, .slice sa ms.length scap, .string t] 33)).cell? ⟨w.heap.size, 1, none⟩ = some (.int .i64 pp) := by simp
 have x2 : (w.alloc (.cells #[.int .i64 8, .int .i64 pp, .slice sa ms.length scap, .string t] 33)).cell? ⟨w.heap.size, 2, none⟩ = some (.slice sa ms.length scap) := by simp
 have x3 : (w.alloc (.cells #[.int .i64 8, .int .i64 pp, .slice sa ms.length scap, .string t] 33)).cell? ⟨w.heap.size, 3, none⟩ = some (.string t) := by simp
 have HZ0 : Hid ((w.alloc (.cells #[.int .i64 8, .int .i64 pp, .slice sa ms.length scap, .string t] 33)).heap.size = w.heap.size + 1) := by show _ = _; simp
 generalize (w.alloc (.cells #[.int .i64 8, .int .i64 pp, .slice sa ms.length scap, .string t] 33)) = W at *
 have HI0 : Hid (WInv wty wsz mkI mkE mkR X Z W wb D nl n cs rw ps I E R) := HI.out.below HB0.out
 have HWO : Hid (WOk X Z W wb s np) := ⟨D, nl, n, cs, rw, ps, I, E, R, HI0.out, HC.out⟩
 have HBV : Hid (Below B w W) := HB0.out.mono (by omega)
 by_cases hp0 : ps.length = 0
 ·have c0 : W.cell? ⟨wb, 0, none⟩ = some (.slice (rw 0).a (n 0) (rw 0).cap) := HI0.out.rows.cell 0 (by omega)
  rw [HI0.out.n0.1, hp0] at c0
  go_wp2
  go_ret
  exact ⟨rfl, HBV.out, HWO.out.more⟩
 ·obtain ⟨P0, g0, g1, cap0, cap1, -, -, r0, r1, c0, c1, d0, d1, fz, hg0, hg1, hl0, hl1, hnD⟩ := HI0.out.at (k := 0) (by omega)
  have hpn : ((ps.length : Int) == 0) = false := by rw [beq_eq_false_iff_ne]; omega
  have HR0 : Hid (rw 0 = ⟨some ⟨g0, 0, none⟩, cap0⟩) := r0
  clear r0 r1 c1 d0 d1 fz hg1 hl1 hnD
  go_upto_region 5 with fail
  refine wp_region_held_drew (S := fun w' => w'.cell? ⟨wb, 0, none⟩ = some (.slice (some ⟨g0, 0, none⟩) ps.length cap0) ∧ w'.cell? ⟨w.heap.size, 1, none⟩ = some (.int .i64 pp)) (by kernel_rfl) ⟨c0, x1⟩ (fun hHeld => ?_)
  refine takeS 0 (.pointer (some ⟨w.heap.size, 1, none⟩)) rfl hHeld ?_
  refine takeAt 1 (.int .i64 pp) rfl (.inl ⟨by rfl, fun w hw => by have hwa := hw.2; go_simp⟩) hHeld ?_
  refine takeR 2 (.pointer (some ⟨wb, 0, none⟩)) rfl hHeld ?_
  refine takeS 3 (.pointer (some ⟨wb, 0, none⟩)) rfl hHeld ?_
  refine takeS 4 (.pointer (some ⟨wb, 0, none⟩)) rfl hHeld ?_
  refine takeAt 5 (.slice (some ⟨g0, 0, none⟩) ps.length cap0) rfl (.inl ⟨by rfl, fun w hw => by have hwa := hw.1; go_simp⟩) hHeld ?_
  refine takeS 6 (.int .i64 (ps.length : Int)) rfl hHeld ?_
  refine wpAnyH_callg 7 _ (by kernel_rfl) rfl (by rfl) 7 #[.int .i64 pp, .int .i64 (ps.length : Int)] (by go_simp) _ (lawPick_any pp (ps.length : Int) _ HPP.out (by omega) (by omega)) ?_
  rintro e w6 ⟨⟨k, rfl, hk⟩, rfl⟩
  refine ⟨_, rfl, hHeld, ?_⟩
  simp only [List.getElem_toArray, List.getElem_cons_zero, List.getElem_cons_succ, Act.put, List.setIfInBounds_toArray, List.set_cons_zero, List.set_cons_succ]
  refine takeR 8 (.int .i64 (k : Int)) rfl hHeld ?_
  refine wpAnyH_done (by kernel_rfl) ?_ _
  have hkl : k < ps.length := by omega
  have HI1 : Hid (WInv wty wsz mkI mkE mkR X Z W.drew wb D nl n cs rw ps I E R) := HI0.out.below (Below.refl _ _).drew
  have HWO1 : Hid (WOk X Z W.drew wb s np) := HWO.out.below (Below.refl _ _).drew
  have HBV1 : Hid (Below B w W.drew) := HBV.out.drew
  have y0 : W.drew.cell? ⟨w.heap.size, 0, none⟩ = some (.int .i64 8) := x0
  have y1 : W.drew.cell? ⟨w.heap.size, 1, none⟩ = some (.int .i64 pp) := x1
  have y2 : W.drew.cell? ⟨w.heap.size, 2, none⟩ = some (.slice sa ms.length scap) := x2
  have y3 : W.drew.cell? ⟨w.heap.size, 3, none⟩ = some (.string t) := x3
  have HM1 : Hid (SeqIn W.drew sa ms) := HM.out.below (HB0.out.drew)
  clear hHeld c0 x0 x1 x2 x3 HI0 HWO HBV HB0 hl0 HR0 HZ0
  generalize W.drew = V at *
  obtain ⟨P, g0', g1', cap0', cap1', hP, hok, -, -, c0, c1, d0, -, -, hgg, -, hl0, -, -⟩ := HI1.out.at hkl
  have HOK : Hid (PrOk V D P) := hok
  have hknp : k < np := by have := HC.out.1; omega
  clear hP hok c1
  go_wp2_with fail
  refine (wholes_check HWO1.out hs hB k hknp pp ms sa scap t).mono ?_
  rintro e w5 ⟨rfl, hB5, hW5⟩
  have HB5 : Hid (Below B V w5) := hB5
  have HW5 : Hid (WOk X Z w5 wb (s + 1) np) := hW5
  clear hB5 hW5
  go_wp2
  go_ret
  exact ⟨rfl, HBV1.out.trans HB5.out, HW5.out⟩

theorem step_ends {X : Nat → Prop} {Z w : World} {wb s np : Nat} (h : WOk X Z w wb s np) (hs : s ≤ 2000000) {B : Nat} (hB : B ≤ wb) (pp : Int) (hpp : -9223372036854775808 ≤ pp ∧ pp ≤ 9223372036854775807) (ms : List Int) (sa : Option Addr) (scap : Nat) (hm : SeqIn w sa ms) (hlen : ms.length ≤ 17592186044416) (t : ByteArray) :
  Calls Tryz.prog 4 #[.pointer (some ⟨wb, 0, none⟩), .agg #[.int .i64 9, .int .i64 pp, .slice sa ms.length scap, .string t]] w fun e w' => e = .returned (.bool true) ∧ Below B w w' ∧ WOk X Z w' wb (s + 1) np := by
 obtain ⟨D, nl, n, cs, rw, ps, I, E, R, h1, h2, h3, h4, h5, h6, h7⟩ := h
 have HC : Hid (ps.length = np ∧ np ≤ s ∧ nl ≤ 2 * s ∧ I.length ≤ 8 * s ∧ E.length ≤ 4 * s ∧ R.length ≤ 4 * s) := ⟨h2, h3, h4, h5, h6, h7⟩
 have HI : Hid (WInv wty wsz mkI mkE mkR X Z w wb D nl n cs rw ps I E R) := h1
 have HM : Hid (SeqIn w sa ms) := hm
 have hwl : wb < w.heap.size := h1.rows.lt
 have hpl : ps.length ≤ 2000000 := by omega
 have HPP : Hid (-9223372036854775808 ≤ pp ∧ pp ≤ 9223372036854775807) := hpp
 clear h1 h2 h3 h4 h5 h6 h7 hm hpp
 go_enter Tryz.func4, Tryz.ntmps4
 go_upto_region 1 with fail
 have HB0 : Hid (Below w.heap.size w (w.alloc (.cells #[.int .i64 9, .int .i64 pp, .slice sa ms.length scap, .string t] 33))) := (Below.refl _ _).alloc (Nat.le_refl _) _
 have x0 : (w.alloc (.cells #[.int .i64 9, .int .i64 pp, .slice sa ms.length scap, .string t] 33)).cell? ⟨w.heap.size, 0, none⟩ = some (.int .i64 9) := by simp
 have x1 : (w.alloc (.cells #[.int .i64 9, .int .i64 pp, .slice sa ms.length scap, .string t] 33)).cell? ⟨w.heap.size, 1, none⟩ = some (.int .i64 pp) := by simp
 have x2 : (w.alloc (.cells #[.int .i64 9, .int .i64 pp, .slice sa ms.length scap, .string t] 33)).cell? ⟨w.heap.size, 2, none⟩ = some (.slice sa ms.length scap) := by simp
 have x3 : (w.alloc (.cells #[.int .i64 9, .int .i64 pp, .slice sa ms.length scap, .string t] 33)).cell? ⟨w.heap.size, 3, none⟩ = some (.string t) := by simp
 have HZ0 : Hid ((w.alloc (.cells #[.int .i64 9, .int .i64 pp, .slice sa ms.length scap, .string t] 33)).heap.size = w.heap.size + 1) := by show _ = _; simp
 generalize (w.alloc (.cells #[.int .i64 9, .int .i64 pp, .slice sa ms.length scap, .string t] 33)) = W at *
 have HI0 : Hid (WInv wty wsz mkI mkE mkR X Z W wb D nl n cs rw ps I E R) := HI.out.below HB0.out
 have HWO : Hid (WOk X Z W wb s np) := ⟨D, nl, n, cs, rw, ps, I, E, R, HI0.out, HC.out⟩
 have HBV : Hid (Below B w W) := HB0.out.mono (by omega)
 by_cases hp0 : ps.length = 0
 ·have c0 : W.cell? ⟨wb, 0, none⟩ = some (.slice (rw 0).a (n 0) (rw 0).cap) := HI0.out.rows.cell 0 (by omega)
  rw [HI0.out.n0.1, hp0] at c0
  go_wp2
  go_ret
  exact ⟨rfl, HBV.out, HWO.out.more⟩
 ·obtain ⟨P0, g0, g1, cap0, cap1, -, -, r0, r1, c0, c1, d0, d1, fz, hg0, hg1, hl0, hl1, hnD⟩ := HI0.out.at (k := 0) (by omega)
  have hpn : ((ps.length : Int) == 0) = false := by rw [beq_eq_false_iff_ne]; omega
  have HR0 : Hid (rw 0 = ⟨some ⟨g0, 0, none⟩, cap0⟩) := r0
  clear r0 r1 c1 d0 d1 fz hg1 hl1 hnD
  go_upto_region 5 with fail
  refine wp_region_held_drew (S := fun w' => w'.cell? ⟨wb, 0, none⟩ = some (.slice (some ⟨g0, 0, none⟩) ps.length cap0) ∧ w'.cell? ⟨w.heap.size, 1, none⟩ = some (.int .i64 pp)) (by kernel_rfl) ⟨c0, x1⟩ (fun hHeld => ?_)
  refine takeS 0 (.pointer (some ⟨w.heap.size, 1, none⟩)) rfl hHeld ?_
  refine takeAt 1 (.int .i64 pp) rfl (.inl ⟨by rfl, fun w hw => by have hwa := hw.2; go_simp⟩) hHeld ?_
  refine takeR 2 (.pointer (some ⟨wb, 0, none⟩)) rfl hHeld ?_
  refine takeS 3 (.pointer (some ⟨wb, 0, none⟩)) rfl hHeld ?_
  refine takeS 4 (.pointer (some ⟨wb, 0, none⟩)) rfl hHeld ?_
  refine takeAt 5 (.slice (some ⟨g0, 0, none⟩) ps.length cap0) rfl (.inl ⟨by rfl, fun w hw => by have hwa := hw.1; go_simp⟩) hHeld ?_
  refine takeS 6 (.int .i64 (ps.length : Int)) rfl hHeld ?_
  refine wpAnyH_callg 7 _ (by kernel_rfl) rfl (by rfl) 7 #[.int .i64 pp, .int .i64 (ps.length : Int)] (by go_simp) _ (lawPick_any pp (ps.length : Int) _ HPP.out (by omega) (by omega)) ?_
  rintro e w6 ⟨⟨k, rfl, hk⟩, rfl⟩
  refine ⟨_, rfl, hHeld, ?_⟩
  simp only [List.getElem_toArray, List.getElem_cons_zero, List.getElem_cons_succ, Act.put, List.setIfInBounds_toArray, List.set_cons_zero, List.set_cons_succ]
  refine takeR 8 (.int .i64 (k : Int)) rfl hHeld ?_
  refine wpAnyH_done (by kernel_rfl) ?_ _
  have hkl : k < ps.length := by omega
  have HI1 : Hid (WInv wty wsz mkI mkE mkR X Z W.drew wb D nl n cs rw ps I E R) := HI0.out.below (Below.refl _ _).drew
  have HWO1 : Hid (WOk X Z W.drew wb s np) := HWO.out.below (Below.refl _ _).drew
  have HBV1 : Hid (Below B w W.drew) := HBV.out.drew
  have y0 : W.drew.cell? ⟨w.heap.size, 0, none⟩ = some (.int .i64 9) := x0
  have y1 : W.drew.cell? ⟨w.heap.size, 1, none⟩ = some (.int .i64 pp) := x1
  have y2 : W.drew.cell? ⟨w.heap.size, 2, none⟩ = some (.slice sa ms.length scap) := x2
  have y3 : W.drew.cell? ⟨w.heap.size, 3, none⟩ = some (.string t) := x3
  have HM1 : Hid (SeqIn W.drew sa ms) := HM.out.below (HB0.out.drew)
  clear hHeld c0 x0 x1 x2 x3 HI0 HWO HBV HB0 hl0 HR0 HZ0
  generalize W.drew = V at *
  obtain ⟨P, g0', g1', cap0', cap1', hP, hok, -, -, c0, c1, d0, -, -, hgg, -, hl0, -, -⟩ := HI1.out.at hkl
  have HOK : Hid (PrOk V D P) := hok
  have hknp : k < np := by have := HC.out.1; omega
  clear hP hok c1
  go_wp2_with fail
  refine (wholes_ends HWO1.out hs hB k hknp pp ms sa scap t).mono ?_
  rintro e w5 ⟨rfl, hB5, hW5⟩
  have HB5 : Hid (Below B V w5) := hB5
  have HW5 : Hid (WOk X Z w5 wb (s + 1) np) := hW5
  clear hB5 hW5
  go_wp2
  go_ret
  exact ⟨rfl, HBV1.out.trans HB5.out, HW5.out⟩

end Go.Proofs.YtfdafcnfefbcbabGreat
