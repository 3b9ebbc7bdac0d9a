/-
 Several texts of ours in one: AllTook, AllListed, AllWholes.
-/
import Derived.Test.YtfdafcnfefbcbabGreatAlw
import Derived.Test.YtfdafcnfefbcbabGreatAllEvents
import Derived.Test.YtfdafcnfefbcbabGreatAllRess
import Derived.Test.YtfdafcnfefbcbabGreatLwb
/-
 Lists come out of a step.
-/
namespace Go.Proofs.YtfdafcnfefbcbabGreat
open Go.RowKit
set_option linter.unusedVariables false
set_option maxRecDepth 100000
set_option maxHeartbeats 8000000

theorem took_evs {X : Nat → Prop} {Z w : World} {wb s np : Nat} (h : WOk X Z w wb s np) (hs : s ≤ 2000000) {B : Nat} (hB : B ≤ wb) (w1 : World) (hb : Below w.heap.size w w1) (xs : List Ev) (la : Option Addr) (lcap : Nat) (hl : w1.ownsRow w.heap.size 59 6 (.slice la xs.length lcap) xs.length (evCells xs)) (hx : xs.length ≤ 4000) :
  Calls Tryz.prog 22 #[.pointer (some ⟨wb, 0, none⟩), .slice la xs.length lcap] w1 fun e w' => e = .returned (.tuple #[]) ∧ Below B w1 w' ∧ WOk X Z w' wb (s + 1) np := by
 obtain ⟨D, nl, n, cs, rw, ps, I, E, R, h1, h2, h3, h4, h5, h6, h7⟩ := h
 have hw := h1.below hb
 have hq : ∀ q, ownOf la = some q → ¬ D q ∧ q ≠ wb ∧ ∀ i, i < 5 → ownOf (rw i).a ≠ some q := fun q e => h1.apart (hl.lt q (by rw [own_of]; exact e)).1
 refine (takeEvents_any hw.rows xs la lcap w.heap.size hl hb.size hq (by omega) (by rw [h1.n3.1]; omega) (by omega)).mono ?_
 rintro e w' ⟨rfl, W, D1, hfr, hd1, hd2, hrows, la', lcap', recs, rw', NB, hr, ht⟩
 have hlt := h1.rows.lt
 have hW := hw.counted hrows (fun q hd => ⟨hd1 q hd, hfr.block q (hw.rows.dlt q hd) (fun e => hw.rows.dO.1 (e ▸ hd))⟩) hfr.size
 have hq1 : ∀ q, ownOf la = some q → ¬ D1 q := fun q e hd => by
  rcases hd2 q hd with hd | hd
  ·exact (hq q e).1 hd
  ·have := (hl.lt q (by rw [own_of]; exact e)).2; omega
 have b1 : Below B w1 W := hfr.below (fun k e => by omega) (by have := hb.size; omega)
 refine ⟨rfl, b1.trans (ht.base hrows hB (fun q e => by have := (hl.lt q (by rw [own_of]; exact e)).1; omega)), _, _, _, _, _, _, _, _, _, hW.evs ht hq1 rfl, h2, by omega, by omega, by omega, by simp [hr]; omega, by omega⟩

theorem took_ress {X : Nat → Prop} {Z w : World} {wb s np : Nat} (h : WOk X Z w wb s np) (hs : s ≤ 2000000) {B : Nat} (hB : B ≤ wb) (w1 : World) (hb : Below w.heap.size w w1) (xs : List Res) (la : Option Addr) (lcap : Nat) (hl : w1.ownsRow w.heap.size 66 5 (.slice la xs.length lcap) xs.length (resCells xs)) (hx : xs.length ≤ 100000000) :
  Calls Tryz.prog 27 #[.pointer (some ⟨wb, 0, none⟩), .slice la xs.length lcap] w1 fun e w' => e = .returned (.tuple #[]) ∧ Below B w1 w' ∧ WOk X Z w' wb (s + 1) np := by
 obtain ⟨D, nl, n, cs, rw, ps, I, E, R, h1, h2, h3, h4, h5, h6, h7⟩ := h
 have hw := h1.below hb
 have hq : ∀ q, ownOf la = some q → ¬ D q ∧ q ≠ wb ∧ ∀ i, i < 5 → ownOf (rw i).a ≠ some q := fun q e => h1.apart (hl.lt q (by rw [own_of]; exact e)).1
 refine (takeResults_any hw.rows xs la lcap w.heap.size hl hb.size hq (by omega) (by rw [h1.n4.1]; omega) (by omega)).mono ?_
 rintro e w' ⟨rfl, W, D1, hfr, hd1, hd2, hrows, la', lcap', recs, rw', NB, hr, ht⟩
 have hlt := h1.rows.lt
 have hW := hw.counted hrows (fun q hd => ⟨hd1 q hd, hfr.block q (hw.rows.dlt q hd) (fun e => hw.rows.dO.1 (e ▸ hd))⟩) hfr.size
 have hq1 : ∀ q, ownOf la = some q → ¬ D1 q := fun q e hd => by
  rcases hd2 q hd with hd | hd
  ·exact (hq q e).1 hd
  ·have := (hl.lt q (by rw [own_of]; exact e)).2; omega
 have b1 : Below B w1 W := hfr.below (fun k e => by omega) (by have := hb.size; omega)
 refine ⟨rfl, b1.trans (ht.base hrows hB (fun q e => by have := (hl.lt q (by rw [own_of]; exact e)).1; omega)), _, _, _, _, _, _, _, _, _, hW.ress ht hq1 rfl, h2, by omega, by omega, by omega, by omega, by simp [hr]; omega⟩

/-- One list of numbers. -/
theorem took_one {X : Nat → Prop} {Z w : World} {wb s np : Nat} (h : WOk X Z w wb s np) (hs : s ≤ 2000000) {B : Nat} (hB : B ≤ wb) (w1 : World) (hb : Below w.heap.size w w1) (xs : List Int) (la : Option Addr) (lcap : Nat) (hl : w1.ownsRow w.heap.size 3 1 (.slice la xs.length lcap) xs.length (intCells xs)) (hx : xs.length ≤ 4000) :
  Calls Tryz.prog 23 #[.pointer (some ⟨wb, 0, none⟩), .slice la xs.length lcap] w1 fun e w' => e = .returned (.tuple #[]) ∧ Below B w1 w' ∧ WOk X Z w' wb (s + 1) np := by
 refine (took_ints h hs hB w1 hb xs la lcap hl hx).mono ?_
 rintro e w' ⟨rfl, hB', -, -, D, nl, n, cs, rw, ps, I, E, R, h1, h2, h3, h4, h5, h6, h7, -⟩
 exact ⟨rfl, hB', D, nl, n, cs, rw, ps, I, E, R, h1, h2, by omega, by omega, by omega, by omega, by omega⟩

/-- A second list of numbers. -/
theorem took_two {X : Nat → Prop} {Z w : World} {wb s np : Nat} (hs : s ≤ 2000000) {B : Nat} (hB : B ≤ wb) {D : Nat → Prop} {nl : Nat} {n : Nat → Nat} {cs : Nat → List Value} {rw : Nat → Rw} {ps : List Pr} {I E R : List Rec} (h : WInv wty wsz mkI mkE mkR X Z w wb D nl n cs rw ps I E R) (hc : ps.length = np ∧ np ≤ s ∧ nl ≤ 2 * s + 1 ∧ I.length ≤ 8 * s + 4 ∧ E.length ≤ 4 * s ∧ R.length ≤ 4 * s) (xs : List Int) (la : Option Addr) (lcap base : Nat) (hl : w.ownsRow base 3 1 (.slice la xs.length lcap) xs.length (intCells xs)) (hb : base ≤ w.heap.size) (hlB : ∀ q, ownOf la = some q → B ≤ q)
  (hq : ∀ q, ownOf la = some q → ¬ D q ∧ q ≠ wb ∧ ∀ i, i < 5 → ownOf (rw i).a ≠ some q) (hx : xs.length ≤ 4000) :
  Calls Tryz.prog 23 #[.pointer (some ⟨wb, 0, none⟩), .slice la xs.length lcap] w fun e w' => e = .returned (.tuple #[]) ∧ Below B w w' ∧ WOk X Z w' wb (s + 1) np := by
 obtain ⟨h2, h3, h4, h5, h6, h7⟩ := hc
 refine (takeInts_any h.rows xs la lcap base hl hb hq (by omega) (by rw [h.n2.1]; omega) (by omega)).mono ?_
 rintro e w' ⟨rfl, la', lcap', recs, rw', NB, hr, ht⟩
 exact ⟨rfl, ht.base h.rows hB hlB, _, _, _, _, _, _, _, _, _, h.ints ht (fun q e => (hq q e).1) rfl, h2, by omega, by omega, by simp [hr]; omega, by omega, by omega⟩

theorem listed_ready {X : Nat → Prop} {Z w : World} {wb s np : Nat} (h : WOk X Z w wb s np) (hs : s ≤ 2000000) {B : Nat} (hB : B ≤ wb) {D : Nat → Prop} {P : Pr} (hP : PrOk w D P) (pp : Int) (ms : List Int) (sa : Option Addr) (scap : Nat) (hm : SeqIn w sa ms) (hlen : ms.length ≤ 17592186044416) (t : ByteArray) :
  Calls Tryz.prog 10 #[.pointer (some ⟨wb, 0, none⟩), .pointer (some ⟨P.b, 0, none⟩), .agg #[.int .i64 3, .int .i64 pp, .slice sa ms.length scap, .string t]] w fun e w' => e = .returned (.bool true) ∧ Below B w w' ∧ WOk X Z w' wb (s + 1) np := by
 have hwl : B ≤ w.heap.size := by obtain ⟨D, nl, n, cs, rw, ps, I, E, R, h1, -⟩ := h; have := h1.rows.lt; omega
 have H : Hid (WOk X Z w wb s np) := h
 have HP : Hid (PrOk w D P) := hP
 have HM : Hid (SeqIn w sa ms) := hm
 clear h hP hm
 go_enter Tryz.func10, Tryz.ntmps10
 go_wp2_with fail
 have HB0 : Hid (Below w.heap.size w (w.alloc (.cells #[.int .i64 3, .int .i64 pp, .slice sa ms.length scap, .string t] 33))) := (Below.refl _ _).alloc (Nat.le_refl _) _
 have hz0 : (w.alloc (.cells #[.int .i64 3, .int .i64 pp, .slice sa ms.length scap, .string t] 33)).heap.size = w.heap.size + 1 := by simp
 have hhi := HP.out.hi
 refine (lawReady_any (HP.out.two.below (HB0.out.mono hhi)) HP.out.tiny (by omega) ms sa scap (HM.out.below HB0.out) hlen).mono ?_
 rintro e w1 ⟨hb1, ra, rcap, xs, rfl, ho1, hx1⟩
 have HB1 : Hid (Below w.heap.size w w1) := HB0.out.trans (hb1.mono (by omega))
 have HO1 : Hid (w1.ownsRow w.heap.size 3 1 (.slice ra xs.length rcap) xs.length (intCells xs)) := ((ownsRow_in ho1).mono (by omega) (Nat.le_refl _)).1
 have HX1 : Hid (xs.length ≤ 4000) := hx1
 clear hb1 ho1 hz0
 go_wp2_with fail
 refine (took_one H.out hs hB w1 HB1.out xs ra rcap HO1.out HX1.out).mono ?_
 rintro e w2 ⟨rfl, hB2, hW2⟩
 have HB2 : Hid _ := hB2
 have HW2 : Hid _ := hW2
 clear hB2 hW2
 go_wp2
 go_ret
 exact ⟨rfl, (HB1.out.mono hwl).trans HB2.out, HW2.out⟩

theorem listed_cycle {X : Nat → Prop} {Z w : World} {wb s np : Nat} (h : WOk X Z w wb s np) (hs : s ≤ 2000000) {B : Nat} (hB : B ≤ wb) {D : Nat → Prop} {P : Pr} (hP : PrOk w D P) (pp : Int) (ms : List Int) (sa : Option Addr) (scap : Nat) (hm : SeqIn w sa ms) (hlen : ms.length ≤ 17592186044416) (t : ByteArray) :
  Calls Tryz.prog 10 #[.pointer (some ⟨wb, 0, none⟩), .pointer (some ⟨P.b, 0, none⟩), .agg #[.int .i64 6, .int .i64 pp, .slice sa ms.length scap, .string t]] w fun e w' => e = .returned (.bool true) ∧ Below B w w' ∧ WOk X Z w' wb (s + 1) np := by
 have hwl : B ≤ w.heap.size := by obtain ⟨D, nl, n, cs, rw, ps, I, E, R, h1, -⟩ := h; have := h1.rows.lt; omega
 have H : Hid (WOk X Z w wb s np) := h
 have HP : Hid (PrOk w D P) := hP
 have HM : Hid (SeqIn w sa ms) := hm
 clear h hP hm
 go_enter Tryz.func10, Tryz.ntmps10
 go_wp2_with fail
 have HB0 : Hid (Below w.heap.size w (w.alloc (.cells #[.int .i64 6, .int .i64 pp, .slice sa ms.length scap, .string t] 33))) := (Below.refl _ _).alloc (Nat.le_refl _) _
 have hz0 : (w.alloc (.cells #[.int .i64 6, .int .i64 pp, .slice sa ms.length scap, .string t] 33)).heap.size = w.heap.size + 1 := by simp
 have hhi := HP.out.hi
 refine (lawCycle_any (HP.out.two.below (HB0.out.mono hhi)) HP.out.tiny (by omega) ms sa scap (HM.out.below HB0.out) hlen).mono ?_
 rintro e w1 ⟨hb1, ra, rcap, xs, hans, rfl, ho1⟩
 have HB1 : Hid (Below w.heap.size w w1) := HB0.out.trans (hb1.mono (by omega))
 have HO1 : Hid (w1.ownsRow w.heap.size 3 1 (.slice ra xs.length rcap) xs.length (intCells xs)) := ((ownsRow_in ho1).mono (by omega) (Nat.le_refl _)).1
 have HX1 : Hid (xs.length ≤ 4000) := by rw [hans]; exact cycAns_len HP.out.two HP.out.tiny hhi ms
 clear hb1 ho1 hz0 hans
 go_wp2_with fail
 refine (took_one H.out hs hB w1 HB1.out xs ra rcap HO1.out HX1.out).mono ?_
 rintro e w2 ⟨rfl, hB2, hW2⟩
 have HB2 : Hid _ := hB2
 have HW2 : Hid _ := hW2
 clear hB2 hW2
 go_wp2
 go_ret
 exact ⟨rfl, (HB1.out.mono hwl).trans HB2.out, HW2.out⟩

theorem listed_arrange {X : Nat → Prop} {Z w : World} {wb s np : Nat} (h : WOk X Z w wb s np) (hs : s ≤ 2000000) {B : Nat} (hB : B ≤ wb) {D : Nat → Prop} {P : Pr} (hP : PrOk w D P) (pp : Int) (ms : List Int) (sa : Option Addr) (scap : Nat) (hm : SeqIn w sa ms) (hlen : ms.length ≤ 17592186044416) (t : ByteArray) :
  Calls Tryz.prog 10 #[.pointer (some ⟨wb, 0, none⟩), .pointer (some ⟨P.b, 0, none⟩), .agg #[.int .i64 7, .int .i64 pp, .slice sa ms.length scap, .string t]] w fun e w' => e = .returned (.bool true) ∧ Below B w w' ∧ WOk X Z w' wb (s + 1) np := by
 have hwl : B ≤ w.heap.size := by obtain ⟨D, nl, n, cs, rw, ps, I, E, R, h1, -⟩ := h; have := h1.rows.lt; omega
 have H : Hid (WOk X Z w wb s np) := h
 have HP : Hid (PrOk w D P) := hP
 have HM : Hid (SeqIn w sa ms) := hm
 clear h hP hm
 go_enter Tryz.func10, Tryz.ntmps10
 go_wp2_with fail
 have HB0 : Hid (Below w.heap.size w (w.alloc (.cells #[.int .i64 7, .int .i64 pp, .slice sa ms.length scap, .string t] 33))) := (Below.refl _ _).alloc (Nat.le_refl _) _
 have hz0 : (w.alloc (.cells #[.int .i64 7, .int .i64 pp, .slice sa ms.length scap, .string t] 33)).heap.size = w.heap.size + 1 := by simp
 have hhi := HP.out.hi
 refine (lawArrange_any (HP.out.two.below (HB0.out.mono hhi)) HP.out.tiny (by omega) ms sa scap (HM.out.below HB0.out) hlen).mono ?_
 rintro e w1 ⟨hb1, ra, rcap, xs, rfl, ho1, hx1⟩
 have HB1 : Hid (Below w.heap.size w w1) := HB0.out.trans (hb1.mono (by omega))
 have HO1 : Hid (w1.ownsRow w.heap.size 3 1 (.slice ra xs.length rcap) xs.length (intCells xs)) := ((ownsRow_in ho1).mono (by omega) (Nat.le_refl _)).1
 have HX1 : Hid (xs.length ≤ 4000) := hx1
 clear hb1 ho1 hz0
 go_wp2_with fail
 refine (took_one H.out hs hB w1 HB1.out xs ra rcap HO1.out HX1.out).mono ?_
 rintro e w2 ⟨rfl, hB2, hW2⟩
 have HB2 : Hid _ := hB2
 have HW2 : Hid _ := hW2
 clear hB2 hW2
 go_wp2
 go_ret
 exact ⟨rfl, (HB1.out.mono hwl).trans HB2.out, HW2.out⟩

theorem listed_events {X : Nat → Prop} {Z w : World} {wb s np : Nat} (h : WOk X Z w wb s np) (hs : s ≤ 2000000) {B : Nat} (hB : B ≤ wb) {D : Nat → Prop} {P : Pr} (hP : PrOk w D P) (pp : Int) (ms : List Int) (sa : Option Addr) (scap : Nat) (hm : SeqIn w sa ms) (hlen : ms.length ≤ 17592186044416) (t : ByteArray) :
  Calls Tryz.prog 10 #[.pointer (some ⟨wb, 0, none⟩), .pointer (some ⟨P.b, 0, none⟩), .agg #[.int .i64 5, .int .i64 pp, .slice sa ms.length scap, .string t]] w fun e w' => e = .returned (.bool true) ∧ Below B w w' ∧ WOk X Z w' wb (s + 1) np := by
 have hwl : B ≤ w.heap.size := by obtain ⟨D, nl, n, cs, rw, ps, I, E, R, h1, -⟩ := h; have := h1.rows.lt; omega
 have H : Hid (WOk X Z w wb s np) := h
 have HP : Hid (PrOk w D P) := hP
 have HM : Hid (SeqIn w sa ms) := hm
 clear h hP hm
 go_enter Tryz.func10, Tryz.ntmps10
 go_wp2_with fail
 have HB0 : Hid (Below w.heap.size w (w.alloc (.cells #[.int .i64 5, .int .i64 pp, .slice sa ms.length scap, .string t] 33))) := (Below.refl _ _).alloc (Nat.le_refl _) _
 have hz0 : (w.alloc (.cells #[.int .i64 5, .int .i64 pp, .slice sa ms.length scap, .string t] 33)).heap.size = w.heap.size + 1 := by simp
 have hhi := HP.out.hi
 refine (lawEvents_any (HP.out.two.below (HB0.out.mono hhi)) HP.out.tiny (by omega) ms sa scap (HM.out.below HB0.out) hlen).mono ?_
 rintro e w1 ⟨hb1, ra, rcap, xs, rfl, ho1, hx1⟩
 have HB1 : Hid (Below w.heap.size w w1) := HB0.out.trans (hb1.mono (by omega))
 have HO1 : Hid (w1.ownsRow w.heap.size 59 6 (.slice ra xs.length rcap) xs.length (evCells xs)) := ((ownsRow_in ho1).mono (by omega) (Nat.le_refl _)).1
 have HX1 : Hid (xs.length ≤ 4000) := hx1
 clear hb1 ho1 hz0
 go_wp2_with fail
 refine (took_evs H.out hs hB w1 HB1.out xs ra rcap HO1.out HX1.out).mono ?_
 rintro e w2 ⟨rfl, hB2, hW2⟩
 have HB2 : Hid _ := hB2
 have HW2 : Hid _ := hW2
 clear hB2 hW2
 go_wp2
 go_ret
 exact ⟨rfl, (HB1.out.mono hwl).trans HB2.out, HW2.out⟩

/-- A program of the World, by its number. -/
theorem WInv.at {X : Nat → Prop} {Z w : World} {wb : Nat} {D : Nat → Prop} {nl : Nat} {n : Nat → Nat} {cs : Nat → List Value} {rw : Nat → Rw} {ps : List Pr} {I E R : List Rec} (h : WInv wty wsz mkI mkE mkR X Z w wb D nl n cs rw ps I E R) {k : Nat} (hk : k < ps.length) :
  ∃ P g0 g1 cap0 cap1, ps[k]? = some P ∧ PrOk w D P ∧ rw 0 = ⟨some ⟨g0, 0, none⟩, cap0⟩ ∧ rw 1 = ⟨some ⟨g1, 0, none⟩, cap1⟩ ∧ w.cell? ⟨wb, 0, none⟩ = some (.slice (some ⟨g0, 0, none⟩) ps.length cap0) ∧ w.cell? ⟨wb, 1, none⟩ = some (.slice (some ⟨g1, 0, none⟩) ps.length cap1) ∧ w.cell? ⟨g0, k, none⟩ = some (.pointer (some ⟨P.b, 0, none⟩)) ∧ w.cell? ⟨g1, k, none⟩ = some P.all ∧ (∀ j, w.frozen? ⟨g1, j, none⟩ = false) ∧ wb < g0 ∧ wb < g1 ∧ g0 < w.heap.size ∧ g1 < w.heap.size ∧ ¬ D g1 := by
 have hP : ps[k]? = some ps[k] := List.getElem?_eq_getElem hk
 have o0 := h.rows.own 0 (by omega)
 have o1 := h.rows.own 1 (by omega)
 have c0 := h.rows.cell 0 (by omega)
 have c1 := h.rows.cell 1 (by omega)
 rw [h.n0.1] at o0 c0
 rw [h.n0.2] at o0
 rw [h.n1.1] at o1 c1
 rw [h.n1.2] at o1
 obtain ⟨g0, cap0, e0, hb0, hl0⟩ := o0.form (by omega)
 obtain ⟨g1, cap1, e1, hb1, hl1⟩ := o1.form (by omega)
 have r0 : rw 0 = ⟨some ⟨g0, 0, none⟩, cap0⟩ := by
  cases hr : rw 0 with
  | mk a c => rw [hr] at e0; cases e0; rfl
 have r1 : rw 1 = ⟨some ⟨g1, 0, none⟩, cap1⟩ := by
  cases hr : rw 1 with
  | mk a c => rw [hr] at e1; cases e1; rfl
 rw [r0] at c0 o0
 rw [r1] at c1 o1
 refine ⟨ps[k], g0, g1, cap0, cap1, hP, h.pr _ (List.getElem_mem hk), r0, r1, c0, c1, ?_, ?_, fun j => o1.frozenAt j, by omega, by omega, hl0, hl1, h.rows.dO.2 1 (by omega) g1 (by rw [r1]; rfl)⟩
 ·rw [o0.cellAt k (by show k < ps.length * 1; omega), List.getElem?_map, hP]; rfl
 ·rw [o1.cellAt k (by show k < ps.length * 1; omega), List.getElem?_map, hP]; rfl

/-- What all whole schedules of a program come to is kept. -/
theorem WInv.setAll {X : Nat → Prop} {Z w w2 : World} {wb : Nat} {D : Nat → Prop} {nl : Nat} {n : Nat → Nat} {cs : Nat → List Value} {rw : Nat → Rw} {ps : List Pr} {I E R : List Rec} (h : WInv wty wsz mkI mkE mkR X Z w wb D nl n cs rw ps I E R) {k ab : Nat} {P : Pr} {ra : Option Addr} {rcap : Nat} (hP : ps[k]? = some P) (hab : D ab) (hra : 0 < (outcomesOf P.p).length → ∀ q, ownOf ra = some q → D q) (hS : SrtAt w ab (checkOf P.p).isNone (outcomesOf P.p) (outcomesOf P.p).length ra rcap)
  (hw : WRows wty wsz w2 wb D nl n (upd cs 1 ((cs 1).set k (.pointer (some ⟨ab, 0, none⟩)))) rw) (hfr : ∀ q, D q → w2.heap[q]? = w.heap[q]?) (hz : w.heap.size ≤ w2.heap.size) :
  WInv wty wsz mkI mkE mkR X Z w2 wb D nl n (upd cs 1 ((cs 1).set k (.pointer (some ⟨ab, 0, none⟩)))) rw (ps.set k { P with al := some ab, ra := ra, rcap := rcap }) I E R := by
 have hk := (List.getElem?_eq_some_iff.1 hP).1
 have hD : ∀ q, D q → D q ∧ w2.heap[q]? = w.heap[q]? := fun q hq => ⟨hq, hfr q hq⟩
 have hm : P ∈ ps := List.mem_of_getElem? hP
 refine ⟨hw, ⟨by rw [List.length_set]; exact h.n0.1, ?_⟩, ⟨by rw [List.length_set]; exact h.n1.1, ?_⟩, by rw [upd_off _ _ (by omega)]; exact h.n2, by rw [upd_off _ _ (by omega)]; exact h.n3, by rw [upd_off _ _ (by omega)]; exact h.n4, fun Q hQ => ?_, fun r hr => (h.rI r hr).of hD, fun r hr => (h.rE r hr).of hD, fun r hr => (h.rR r hr).of hD, fun q hx => ⟨(hD q (h.ex q hx).1).1, (hD q (h.ex q hx).1).2.trans (h.ex q hx).2⟩⟩
 ·rw [upd_off _ _ (by omega), h.n0.2, List.map_set]
  apply List.ext_getElem?
  intro i
  by_cases e : i = k
  ·subst e
   rw [List.getElem?_set_self (by simpa using hk), List.getElem?_map, hP]; rfl
  ·rw [List.getElem?_set_ne (fun x => e x.symm)]
 ·rw [upd_at, h.n1.2, List.map_set]; rfl
 ·rcases List.mem_or_eq_of_mem_set hQ with hQ | rfl
  ·exact (h.pr Q hQ).of hD hz
  ·have hp := h.pr P hm
   have : PrOk w D { P with al := some ab, ra := ra, rcap := rcap } := ⟨hp.two, hp.tiny, hp.ten, hp.hi, hp.dt, fun ab' e => by cases e; exact ⟨hab, hra, hS⟩⟩
   exact this.of hD hz

theorem SrtAt.own_lt {w : World} {ab : Nat} {at_ : Bool} {L : List Res} {N : Nat} {ra : Option Addr} {rcap : Nat} (h : SrtAt w ab at_ L N ra rcap) (h0 : 0 < N) {q : Nat} (hq : ownOf ra = some q) : ab < q ∧ q < w.heap.size := by
 obtain ⟨g, e, h1, h2, -⟩ := h.row h0
 rw [e] at hq
 cases hq
 exact ⟨h1, h2⟩

theorem outs_len {p : List (List Pl.POp)} (h10 : Pl.countShared p ≤ 10) : (outcomesOf p).length ≤ 100000000 := by
 have h1 := gather_length p (remS p (beginTo p 4) + 1) (beginTo p 4) []
 have h2 : remS p (beginTo p 4) ≤ 10 := Nat.le_trans (rem_count p _) h10
 have h3 : 4 ^ (remS p (beginTo p 4) + 1) ≤ 4194304 := Nat.le_trans (Nat.pow_le_pow_right (by omega) (show remS p (beginTo p 4) + 1 ≤ 11 by omega)) (by decide)
 unfold outcomesOf
 simp only [List.length_nil, Nat.zero_add] at h1
 omega

theorem wholes_check {X : Nat → Prop} {Z w : World} {wb s np : Nat} (h : WOk X Z w wb s np) (hs : s ≤ 2000000) {B : Nat} (hB : B ≤ wb) (k : Nat) (hk : k < np) (pp : Int) (ms : List Int) (sa : Option Addr) (scap : Nat) (t : ByteArray) :
  Calls Tryz.prog 11 #[.pointer (some ⟨wb, 0, none⟩), .int .i64 (k : Int), .agg #[.int .i64 8, .int .i64 pp, .slice sa ms.length scap, .string t]] w fun e w' => e = .returned (.bool true) ∧ Below B w w' ∧ WOk X Z w' wb (s + 1) np := by
 obtain ⟨D, nl, n, cs, rw, ps, I, E, R, h1, h2, h3, h4, h5, h6, h7⟩ := h
 have HC : Hid (ps.length = np ∧ np ≤ s ∧ nl ≤ 2 * s ∧ I.length ≤ 8 * s ∧ E.length ≤ 4 * s ∧ R.length ≤ 4 * s) := ⟨h2, h3, h4, h5, h6, h7⟩
 have HI : Hid (WInv wty wsz mkI mkE mkR X Z w wb D nl n cs rw ps I E R) := h1
 have hwl : wb < w.heap.size := h1.rows.lt
 have hkp : k < ps.length := by omega
 clear h1 h2 h3 h4 h5 h6 h7
 go_enter Tryz.func11, Tryz.ntmps11
 go_upto_region 1 with fail
 have HB0 : Hid (Below w.heap.size w (w.alloc (.cells #[.int .i64 8, .int .i64 pp, .slice sa ms.length scap, .string t] 33))) := (Below.refl _ _).alloc (Nat.le_refl _) _
 have HX0 : Hid ((w.alloc (.cells #[.int .i64 8, .int .i64 pp, .slice sa ms.length scap, .string t] 33)).cell? ⟨w.heap.size, 0, none⟩ = some (.int .i64 8)) := by show _ = _; simp
 have HZ0 : Hid ((w.alloc (.cells #[.int .i64 8, .int .i64 pp, .slice sa ms.length scap, .string t] 33)).heap.size = w.heap.size + 1) := by show _ = _; simp
 generalize (w.alloc (.cells #[.int .i64 8, .int .i64 pp, .slice sa ms.length scap, .string t] 33)) = W at *
 have HI0 : Hid (WInv wty wsz mkI mkE mkR X Z W wb D nl n cs rw ps I E R) := HI.out.below HB0.out
 obtain ⟨P, g0, g1, cap0, cap1, hP, hok, r0, r1, c0, c1, d0, d1, fz, hg0, hg1, hl0, hl1, hnD⟩ := HI0.out.at hkp
 have HPP : Hid (ps[k]? = some P) := hP
 have HOK : Hid (PrOk W D P) := hok
 have HR1 : Hid (rw 1 = ⟨some ⟨g1, 0, none⟩, cap1⟩) := r1
 have HND : Hid (¬ D g1) := hnD
 have HFZ : Hid (∀ j, W.frozen? ⟨g1, j, none⟩ = false) := fz
 have HC1 : Hid (W.cell? ⟨wb, 1, none⟩ = some (.slice (some ⟨g1, 0, none⟩) ps.length cap1)) := c1
 have HD1 : Hid (W.cell? ⟨g1, k, none⟩ = some P.all) := d1
 have hzw := HZ0.out
 clear hP hok r0 r1 hnD fz
 have hkn : (k : Int) < (ps.length : Int) := by omega
 unfold Pr.all at d1
 cases hal : P.al with
 | some ab =>
  rw [hal] at d1
  simp only [Option.map_some] at d1
  obtain ⟨-, -, hs'⟩ := HOK.out.al ab hal
  have HPV : Hid (PrOk W D P) := HOK.out
  have HSV : Hid (SrtAt W ab (checkOf P.p).isNone (outcomesOf P.p) (outcomesOf P.p).length P.ra P.rcap) := hs'
  have HWO : Hid (WOk X Z W wb s np) := ⟨D, nl, n, cs, rw, ps, I, E, R, HI0.out, HC.out⟩
  have HBV : Hid (Below B w W) := HB0.out.mono (by omega)
  have v1 := c1
  have v2 := d1
  have v3 := HX0.out
  have hzV : w.heap.size ≤ W.heap.size := by omega
  clear hs' hal HD1
  generalize W = V at *
  go_upto_region 5 with fail
  clear c0 c1 d0 d1
  go_wp2_with fail
  refine (lawVerdict_any HPV.out.two HPV.out.tiny HPV.out.ten HPV.out.hi HSV.out).mono ?_
  rintro e w3 ⟨hb3, ta, tcap, ca, ccap, rfl, ho3, hq3, hdj⟩
  have HB3 : Hid (Below V.heap.size V w3) := hb3
  have HO3 : Hid (w3.ownsRow V.heap.size 3 1 (.slice ta (schA P.p).length tcap) (schA P.p).length (intCells (schA P.p))) := ho3
  have HQ3 : Hid (w3.ownsRow V.heap.size 3 1 (.slice ca (cycA P.p).length ccap) (cycA P.p).length (intCells (cycA P.p))) := hq3
  have HDJ : Hid (∀ q, ownOf ta = some q → ownOf ca ≠ some q) := hdj
  have hsl := schA_len HPV.out.ten
  clear hb3 ho3 hq3 hdj v1 v2 v3
  go_upto_region 6 with fail
  have HBX : Hid (Below V.heap.size V (w3.alloc (.cells #[.bool (checkOf P.p).isNone, .slice ta (schA P.p).length tcap, .slice ca (cycA P.p).length ccap] 92))) := HB3.out.alloc HB3.out.size _
  have HVX : Hid (VdAt (w3.alloc (.cells #[.bool (checkOf P.p).isNone, .slice ta (schA P.p).length tcap, .slice ca (cycA P.p).length ccap] 92)) w3.heap.size (checkOf P.p).isNone (.slice ta (schA P.p).length tcap) (.slice ca (cycA P.p).length ccap)) := VdAt.new _ _ _ _ _
  have HOX : Hid ((w3.alloc (.cells #[.bool (checkOf P.p).isNone, .slice ta (schA P.p).length tcap, .slice ca (cycA P.p).length ccap] 92)).ownsRow V.heap.size 3 1 (.slice ta (schA P.p).length tcap) (schA P.p).length (intCells (schA P.p))) := HO3.out.alloc _
  have HQX : Hid ((w3.alloc (.cells #[.bool (checkOf P.p).isNone, .slice ta (schA P.p).length tcap, .slice ca (cycA P.p).length ccap] 92)).ownsRow V.heap.size 3 1 (.slice ca (cycA P.p).length ccap) (cycA P.p).length (intCells (cycA P.p))) := HQ3.out.alloc _
  have HZX : Hid ((w3.alloc (.cells #[.bool (checkOf P.p).isNone, .slice ta (schA P.p).length tcap, .slice ca (cycA P.p).length ccap] 92)).heap.size = w3.heap.size + 1) := by show _ = _; simp
  generalize w3.alloc (.cells #[.bool (checkOf P.p).isNone, .slice ta (schA P.p).length tcap, .slice ca (cycA P.p).length ccap] 92) = Y at *
  have x1 := HVX.out.c1
  go_wp2_with fail
  refine (took_ints HWO.out hs hB Y HBX.out (schA P.p) ta tcap HOX.out hsl.1).mono ?_
  rintro e w4 ⟨rfl, hB4, hkeep, hz4, D4, nl4, n4, cs4, rw4, ps4, I4, E4, R4, hW4, h2, h3, h4, h5, h6, h7, hclr⟩
  have hv3 : w3.heap.size < Y.heap.size := by have := HZX.out; omega
  have hzv : V.heap.size ≤ w3.heap.size := HB3.out.size
  have x2 : w4.cell? ⟨w3.heap.size, 2, none⟩ = some (.slice ca (cycA P.p).length ccap) := (World.cell?_of_block (w := Y) (a := ⟨w3.heap.size, 2, none⟩) (hkeep _ hzv hv3 (fun e => by have h8 := (HO3.out.lt w3.heap.size (by rw [own_of]; exact e)).2; omega))).trans HVX.out.c2
  have HQ4 : Hid (w4.ownsRow V.heap.size 3 1 (.slice ca (cycA P.p).length ccap) (cycA P.p).length (intCells (cycA P.p))) := ownsRow_of_block HQX.out (fun q hq => hkeep q (HQX.out.lt q hq).1 (HQX.out.lt q hq).2 (fun e => HDJ.out q e (by rw [← own_of]; exact hq)))
  have HW4 : Hid (WInv wty wsz mkI mkE mkR X Z w4 wb D4 nl4 n4 cs4 rw4 ps4 I4 E4 R4) := hW4
  have HC4 : Hid (ps4.length = np ∧ np ≤ s ∧ nl4 ≤ 2 * s + 1 ∧ I4.length ≤ 8 * s + 4 ∧ E4.length ≤ 4 * s ∧ R4.length ≤ 4 * s) := ⟨h2, h3, h4, h5, h6, h7⟩
  have HCL : Hid (∀ q, ownOf ca = some q → ¬ D4 q ∧ q ≠ wb ∧ ∀ i, i < 5 → ownOf (rw4 i).a ≠ some q) := fun q e => hclr q (HQX.out.lt q (by rw [own_of]; exact e)).1 (HQX.out.lt q (by rw [own_of]; exact e)).2 (fun e2 => HDJ.out q e2 e)
  have HB4 : Hid (Below B Y w4) := hB4
  have hz4' : V.heap.size ≤ w4.heap.size := by omega
  have HVB : Hid (B ≤ V.heap.size) := by show _ ≤ _; omega
  clear hB4 hkeep hW4 h2 h3 h4 h5 h6 h7 hclr x1
  go_wp2_with fail
  refine (took_two hs hB HW4.out HC4.out (cycA P.p) ca ccap V.heap.size HQ4.out hz4' (fun q e => by have h8 := (HQ4.out.lt q (by rw [own_of]; exact e)).1; have h9 := HVB.out; omega) HCL.out hsl.2).mono ?_
  rintro e w5 ⟨rfl, hB5, hW5⟩
  have HB5 : Hid (Below B w4 w5) := hB5
  have HW5 : Hid (WOk X Z w5 wb (s + 1) np) := hW5
  clear hB5 hW5 x2
  go_wp2
  go_ret
  exact ⟨rfl, HBV.out.trans ((HBX.out.mono HVB.out).trans (HB4.out.trans HB5.out)), HW5.out⟩
 | none =>
  rw [hal] at d1
  simp only [Option.map_none] at d1
  have HT1 : Hid (W.cell? ⟨P.b, 1, none⟩ = some (.pointer (some ⟨P.bY, 0, none⟩))) := HOK.out.two.c1
  have hbl : P.b < W.heap.size := Nat.lt_of_lt_of_le HOK.out.two.b1 HOK.out.hi
  have hbD : D P.b := HOK.out.dt _ HOK.out.two.b0 HOK.out.two.b1
  have hbg : P.b ≠ g1 := fun e => HND.out (e ▸ hbD)
  have HDN : Hid (W.cell? ⟨g1, k, none⟩ = some (.pointer none)) := d1
  clear hbD
  go_upto_region 3 with fail
  clear c0 c1 d0 d1
  refine wp_region_held_drew (S := fun w' => w'.cell? ⟨wb, 1, none⟩ = some (.slice (some ⟨g1, 0, none⟩) ps.length cap1) ∧ w'.cell? ⟨P.b, 1, none⟩ = some (.pointer (some ⟨P.bY, 0, none⟩))) (by kernel_rfl) ⟨HC1.out, HT1.out⟩ (fun hHeld => ?_)
  refine takeR 0 (.pointer (some ⟨wb, 0, none⟩)) rfl hHeld ?_
  refine takeS 1 (.pointer (some ⟨wb, 0, none⟩)) rfl hHeld ?_
  refine takeS 2 (.pointer (some ⟨wb, 1, none⟩)) rfl hHeld ?_
  refine takeAt 3 (.slice (some ⟨g1, 0, none⟩) ps.length cap1) rfl (.inl ⟨by rfl, fun w hw => by have hwa := hw.1; go_simp⟩) hHeld ?_
  refine takeR 4 (.int .i64 (k : Int)) rfl hHeld ?_
  refine takeR 5 (.pointer (some ⟨P.b, 0, none⟩)) rfl hHeld ?_
  refine takeS 6 (.pointer (some ⟨P.b, 0, none⟩)) rfl hHeld ?_
  refine takeS 7 (.pointer (some ⟨P.b, 1, none⟩)) rfl hHeld ?_
  refine takeAt 8 (.pointer (some ⟨P.bY, 0, none⟩)) rfl (.inl ⟨by rfl, fun w hw => by have hwa := hw.2; go_simp⟩) hHeld ?_
  refine wpAnyH_callg 9 _ (by kernel_rfl) rfl (by rfl) 24 #[.pointer (some ⟨P.bY, 0, none⟩)] (by go_simp) _ (refThrough_any (HOK.out.two.below (Below.refl _ _).drew).py (by exact HOK.out.hi) HOK.out.ten) ?_
  rintro e w3 ⟨hb3', ra', rcap', rfl, hs3⟩
  rw [show W.drew.heap.size = W.heap.size from rfl] at hs3 ⊢
  have hb3 : Below W.heap.size W w3 := (Below.refl _ _).drew.trans (hb3'.mono (Nat.le_refl _))
  have hS3 : w3.cell? ⟨wb, 1, none⟩ = some (.slice (some ⟨g1, 0, none⟩) ps.length cap1) ∧ w3.cell? ⟨P.b, 1, none⟩ = some (.pointer (some ⟨P.bY, 0, none⟩)) := ⟨(hb3.cell (p := ⟨wb, 1, none⟩) (by show wb < W.heap.size; omega)).trans HC1.out, (hb3.cell (p := ⟨P.b, 1, none⟩) hbl).trans HT1.out⟩
  have k1 : w3.cell? ⟨g1, k, none⟩ = some (.pointer none) := (hb3.cell (p := ⟨g1, k, none⟩) hl1).trans HDN.out
  have kf : w3.frozen? ⟨g1, k, none⟩ = false := (hb3.frozen (p := ⟨g1, k, none⟩) hl1).trans (HFZ.out k)
  refine ⟨_, rfl, hS3, ?_⟩
  simp only [List.getElem_toArray, List.getElem_cons_zero, List.getElem_cons_succ, Act.put, List.setIfInBounds_toArray, List.set_cons_zero, List.set_cons_succ]
  refine takeAt 10 (.pointer (some ⟨g1, k, none⟩)) rfl (.inl ⟨by rfl, fun w hw => by go_simp <;> (intro h; omega)⟩) hS3 ?_
  have hS4 : (w3.setCell ⟨g1, k, none⟩ (.pointer (some ⟨W.heap.size, 0, none⟩))).cell? ⟨wb, 1, none⟩ = some (.slice (some ⟨g1, 0, none⟩) ps.length cap1) ∧ (w3.setCell ⟨g1, k, none⟩ (.pointer (some ⟨W.heap.size, 0, none⟩))).cell? ⟨P.b, 1, none⟩ = some (.pointer (some ⟨P.bY, 0, none⟩)) := ⟨(World.cell?_setCell_far _ _ _ _ (by show g1 ≠ wb; omega)).trans hS3.1, (World.cell?_setCell_far _ _ _ _ (by show g1 ≠ P.b; exact fun e => hbg e.symm)).trans hS3.2⟩
  refine wpAnyH_skip (w1 := w3.setCell ⟨g1, k, none⟩ (.pointer (some ⟨W.heap.size, 0, none⟩))) 11 _ (by kernel_rfl) rfl (by rfl) rfl (by go_simp) hS4 ?_
  refine wpAnyH_done (by kernel_rfl) ?_ _
  have hIF := HI0.out.fresh hb3
  have hsl3 := hs3.lt
  have hput := hIF.rows.put (i := 1) (by omega) HR1.out (j := k) (by rw [hIF.n1.1]; show k < ps.length * 1; omega) (.pointer (some ⟨W.heap.size, 0, none⟩))
  have hDg : ¬ (D g1 ∨ (W.heap.size ≤ g1 ∧ g1 < w3.heap.size)) := fun hd => by rcases hd with hd | hd; exact HND.out hd; omega
  have hWV := hIF.setAll (k := k) (ab := W.heap.size) (P := P) (ra := ra') (rcap := rcap') HPP.out (.inr ⟨Nat.le_refl _, hsl3⟩) (fun h0 q hq => .inr (by have := hs3.own_lt h0 hq; omega)) hs3 hput (fun q hd => heap_far _ _ _ _ (fun e => hDg (by have e2 : q = g1 := e; rw [← e2]; exact hd))) (by rw [World.size_setCell]; exact Nat.le_refl _)
  have hmem : ({ P with al := some W.heap.size, ra := ra', rcap := rcap' } : Pr) ∈ ps.set k { P with al := some W.heap.size, ra := ra', rcap := rcap' } := List.mem_of_getElem? (List.getElem?_set_self (by omega))
  have hPV := hWV.pr _ hmem
  obtain ⟨-, -, hs'⟩ := hPV.al W.heap.size rfl
  have v1 := hS4.1
  have v2 : (w3.setCell ⟨g1, k, none⟩ (.pointer (some ⟨W.heap.size, 0, none⟩))).cell? ⟨g1, k, none⟩ = some (.pointer (some ⟨W.heap.size, 0, none⟩)) := World.cell?_setCell_same _ _ _ k1
  have v3 : (w3.setCell ⟨g1, k, none⟩ (.pointer (some ⟨W.heap.size, 0, none⟩))).cell? ⟨w.heap.size, 0, none⟩ = some (.int .i64 8) := (World.cell?_setCell_far _ _ _ _ (by show g1 ≠ w.heap.size; have := HI.out.rows.row (i := 1) (by omega) (q := g1) (by rw [HR1.out]; rfl); omega)).trans ((hb3.cell (p := ⟨w.heap.size, 0, none⟩) (by show w.heap.size < W.heap.size; omega)).trans HX0.out)
  have HBV : Hid (Below B w (w3.setCell ⟨g1, k, none⟩ (.pointer (some ⟨W.heap.size, 0, none⟩)))) := ((HB0.out.mono (by omega)).trans (hb3.mono (by omega))).setCell (by show B ≤ g1; omega) _
  have HPV : Hid (PrOk (w3.setCell ⟨g1, k, none⟩ (.pointer (some ⟨W.heap.size, 0, none⟩))) (fun q => D q ∨ (W.heap.size ≤ q ∧ q < w3.heap.size)) { P with al := some W.heap.size, ra := ra', rcap := rcap' }) := hPV
  have HSV : Hid (SrtAt (w3.setCell ⟨g1, k, none⟩ (.pointer (some ⟨W.heap.size, 0, none⟩))) W.heap.size (checkOf P.p).isNone (outcomesOf P.p) (outcomesOf P.p).length ra' rcap') := hs'
  have HWO : Hid (WOk X Z (w3.setCell ⟨g1, k, none⟩ (.pointer (some ⟨W.heap.size, 0, none⟩))) wb s np) := ⟨_, nl, n, _, rw, _, I, E, R, hWV, by rw [List.length_set]; exact HC.out.1, HC.out.2⟩
  have hzV : w.heap.size ≤ (w3.setCell ⟨g1, k, none⟩ (.pointer (some ⟨W.heap.size, 0, none⟩))).heap.size := by rw [World.size_setCell]; have := hb3.size; omega
  clear hHeld hS3 hS4 hIF hput hWV hmem hPV hs' hb3 hb3' hs3 k1 kf hDg hal HD1 HDN HT1 HC1
  generalize w3.setCell ⟨g1, k, none⟩ (.pointer (some ⟨W.heap.size, 0, none⟩)) = V at *
  clear hzw hsl3 HZ0 HX0 HB0 HI HI0 HOK
  generalize W.heap.size = ab at *
  go_upto_region 5 with fail
  go_wp2_with fail
  refine (lawVerdict_any HPV.out.two HPV.out.tiny HPV.out.ten HPV.out.hi HSV.out).mono ?_
  rintro e w3 ⟨hb3, ta, tcap, ca, ccap, rfl, ho3, hq3, hdj⟩
  have HB3 : Hid (Below V.heap.size V w3) := hb3
  have HO3 : Hid (w3.ownsRow V.heap.size 3 1 (.slice ta (schA P.p).length tcap) (schA P.p).length (intCells (schA P.p))) := ho3
  have HQ3 : Hid (w3.ownsRow V.heap.size 3 1 (.slice ca (cycA P.p).length ccap) (cycA P.p).length (intCells (cycA P.p))) := hq3
  have HDJ : Hid (∀ q, ownOf ta = some q → ownOf ca ≠ some q) := hdj
  have hsl := schA_len HPV.out.ten
  clear hb3 ho3 hq3 hdj v1 v2 v3
  go_upto_region 6 with fail
  have HBX : Hid (Below V.heap.size V (w3.alloc (.cells #[.bool (checkOf P.p).isNone, .slice ta (schA P.p).length tcap, .slice ca (cycA P.p).length ccap] 92))) := HB3.out.alloc HB3.out.size _
  have HVX : Hid (VdAt (w3.alloc (.cells #[.bool (checkOf P.p).isNone, .slice ta (schA P.p).length tcap, .slice ca (cycA P.p).length ccap] 92)) w3.heap.size (checkOf P.p).isNone (.slice ta (schA P.p).length tcap) (.slice ca (cycA P.p).length ccap)) := VdAt.new _ _ _ _ _
  have HOX : Hid ((w3.alloc (.cells #[.bool (checkOf P.p).isNone, .slice ta (schA P.p).length tcap, .slice ca (cycA P.p).length ccap] 92)).ownsRow V.heap.size 3 1 (.slice ta (schA P.p).length tcap) (schA P.p).length (intCells (schA P.p))) := HO3.out.alloc _
  have HQX : Hid ((w3.alloc (.cells #[.bool (checkOf P.p).isNone, .slice ta (schA P.p).length tcap, .slice ca (cycA P.p).length ccap] 92)).ownsRow V.heap.size 3 1 (.slice ca (cycA P.p).length ccap) (cycA P.p).length (intCells (cycA P.p))) := HQ3.out.alloc _
  have HZX : Hid ((w3.alloc (.cells #[.bool (checkOf P.p).isNone, .slice ta (schA P.p).length tcap, .slice ca (cycA P.p).length ccap] 92)).heap.size = w3.heap.size + 1) := by show _ = _; simp
  generalize w3.alloc (.cells #[.bool (checkOf P.p).isNone, .slice ta (schA P.p).length tcap, .slice ca (cycA P.p).length ccap] 92) = Y at *
  have x1 := HVX.out.c1
  go_wp2_with fail
  refine (took_ints HWO.out hs hB Y HBX.out (schA P.p) ta tcap HOX.out hsl.1).mono ?_
  rintro e w4 ⟨rfl, hB4, hkeep, hz4, D4, nl4, n4, cs4, rw4, ps4, I4, E4, R4, hW4, h2, h3, h4, h5, h6, h7, hclr⟩
  have hv3 : w3.heap.size < Y.heap.size := by have := HZX.out; omega
  have hzv : V.heap.size ≤ w3.heap.size := HB3.out.size
  have x2 : w4.cell? ⟨w3.heap.size, 2, none⟩ = some (.slice ca (cycA P.p).length ccap) := (World.cell?_of_block (w := Y) (a := ⟨w3.heap.size, 2, none⟩) (hkeep _ hzv hv3 (fun e => by have h8 := (HO3.out.lt w3.heap.size (by rw [own_of]; exact e)).2; omega))).trans HVX.out.c2
  have HQ4 : Hid (w4.ownsRow V.heap.size 3 1 (.slice ca (cycA P.p).length ccap) (cycA P.p).length (intCells (cycA P.p))) := ownsRow_of_block HQX.out (fun q hq => hkeep q (HQX.out.lt q hq).1 (HQX.out.lt q hq).2 (fun e => HDJ.out q e (by rw [← own_of]; exact hq)))
  have HW4 : Hid (WInv wty wsz mkI mkE mkR X Z w4 wb D4 nl4 n4 cs4 rw4 ps4 I4 E4 R4) := hW4
  have HC4 : Hid (ps4.length = np ∧ np ≤ s ∧ nl4 ≤ 2 * s + 1 ∧ I4.length ≤ 8 * s + 4 ∧ E4.length ≤ 4 * s ∧ R4.length ≤ 4 * s) := ⟨h2, h3, h4, h5, h6, h7⟩
  have HCL : Hid (∀ q, ownOf ca = some q → ¬ D4 q ∧ q ≠ wb ∧ ∀ i, i < 5 → ownOf (rw4 i).a ≠ some q) := fun q e => hclr q (HQX.out.lt q (by rw [own_of]; exact e)).1 (HQX.out.lt q (by rw [own_of]; exact e)).2 (fun e2 => HDJ.out q e2 e)
  have HB4 : Hid (Below B Y w4) := hB4
  have hz4' : V.heap.size ≤ w4.heap.size := by omega
  have HVB : Hid (B ≤ V.heap.size) := by show _ ≤ _; omega
  clear hB4 hkeep hW4 h2 h3 h4 h5 h6 h7 hclr x1
  go_wp2_with fail
  refine (took_two hs hB HW4.out HC4.out (cycA P.p) ca ccap V.heap.size HQ4.out hz4' (fun q e => by have h8 := (HQ4.out.lt q (by rw [own_of]; exact e)).1; have h9 := HVB.out; omega) HCL.out hsl.2).mono ?_
  rintro e w5 ⟨rfl, hB5, hW5⟩
  have HB5 : Hid (Below B w4 w5) := hB5
  have HW5 : Hid (WOk X Z w5 wb (s + 1) np) := hW5
  clear hB5 hW5 x2
  go_wp2
  go_ret
  exact ⟨rfl, HBV.out.trans ((HBX.out.mono HVB.out).trans (HB4.out.trans HB5.out)), HW5.out⟩

theorem wholes_ends {X : Nat → Prop} {Z w : World} {wb s np : Nat} (h : WOk X Z w wb s np) (hs : s ≤ 2000000) {B : Nat} (hB : B ≤ wb) (k : Nat) (hk : k < np) (pp : Int) (ms : List Int) (sa : Option Addr) (scap : Nat) (t : ByteArray) :
  Calls Tryz.prog 11 #[.pointer (some ⟨wb, 0, none⟩), .int .i64 (k : Int), .agg #[.int .i64 9, .int .i64 pp, .slice sa ms.length scap, .string t]] w fun e w' => e = .returned (.bool true) ∧ Below B w w' ∧ WOk X Z w' wb (s + 1) np := by
 obtain ⟨D, nl, n, cs, rw, ps, I, E, R, h1, h2, h3, h4, h5, h6, h7⟩ := h
 have HC : Hid (ps.length = np ∧ np ≤ s ∧ nl ≤ 2 * s ∧ I.length ≤ 8 * s ∧ E.length ≤ 4 * s ∧ R.length ≤ 4 * s) := ⟨h2, h3, h4, h5, h6, h7⟩
 have HI : Hid (WInv wty wsz mkI mkE mkR X Z w wb D nl n cs rw ps I E R) := h1
 have hwl : wb < w.heap.size := h1.rows.lt
 have hkp : k < ps.length := by omega
 clear h1 h2 h3 h4 h5 h6 h7
 go_enter Tryz.func11, Tryz.ntmps11
 go_upto_region 1 with fail
 have HB0 : Hid (Below w.heap.size w (w.alloc (.cells #[.int .i64 9, .int .i64 pp, .slice sa ms.length scap, .string t] 33))) := (Below.refl _ _).alloc (Nat.le_refl _) _
 have HX0 : Hid ((w.alloc (.cells #[.int .i64 9, .int .i64 pp, .slice sa ms.length scap, .string t] 33)).cell? ⟨w.heap.size, 0, none⟩ = some (.int .i64 9)) := by show _ = _; simp
 have HZ0 : Hid ((w.alloc (.cells #[.int .i64 9, .int .i64 pp, .slice sa ms.length scap, .string t] 33)).heap.size = w.heap.size + 1) := by show _ = _; simp
 generalize (w.alloc (.cells #[.int .i64 9, .int .i64 pp, .slice sa ms.length scap, .string t] 33)) = W at *
 have HI0 : Hid (WInv wty wsz mkI mkE mkR X Z W wb D nl n cs rw ps I E R) := HI.out.below HB0.out
 obtain ⟨P, g0, g1, cap0, cap1, hP, hok, r0, r1, c0, c1, d0, d1, fz, hg0, hg1, hl0, hl1, hnD⟩ := HI0.out.at hkp
 have HPP : Hid (ps[k]? = some P) := hP
 have HOK : Hid (PrOk W D P) := hok
 have HR1 : Hid (rw 1 = ⟨some ⟨g1, 0, none⟩, cap1⟩) := r1
 have HND : Hid (¬ D g1) := hnD
 have HFZ : Hid (∀ j, W.frozen? ⟨g1, j, none⟩ = false) := fz
 have HC1 : Hid (W.cell? ⟨wb, 1, none⟩ = some (.slice (some ⟨g1, 0, none⟩) ps.length cap1)) := c1
 have HD1 : Hid (W.cell? ⟨g1, k, none⟩ = some P.all) := d1
 have hzw := HZ0.out
 clear hP hok r0 r1 hnD fz
 have hkn : (k : Int) < (ps.length : Int) := by omega
 unfold Pr.all at d1
 cases hal : P.al with
 | some ab =>
  rw [hal] at d1
  simp only [Option.map_some] at d1
  obtain ⟨-, -, hs'⟩ := HOK.out.al ab hal
  have HPV : Hid (PrOk W D P) := HOK.out
  have HSV : Hid (SrtAt W ab (checkOf P.p).isNone (outcomesOf P.p) (outcomesOf P.p).length P.ra P.rcap) := hs'
  have HWO : Hid (WOk X Z W wb s np) := ⟨D, nl, n, cs, rw, ps, I, E, R, HI0.out, HC.out⟩
  have HBV : Hid (Below B w W) := HB0.out.mono (by omega)
  have v1 := c1
  have v2 := d1
  have v3 := HX0.out
  have hzV : w.heap.size ≤ W.heap.size := by omega
  clear hs' hal HD1
  generalize W = V at *
  go_upto_region 9 with fail
  clear c0 c1 d0 d1
  go_wp2_with fail
  refine (lawEnds_any HPV.out.two HPV.out.tiny HPV.out.ten HPV.out.hi HSV.out).mono ?_
  rintro e w3 ⟨hb3, ta, tcap, rfl, ho3⟩
  have HB3 : Hid (Below V.heap.size V w3) := hb3
  have HO3 : Hid (w3.ownsRow V.heap.size 66 5 (.slice ta (outcomesOf P.p).length tcap) (outcomesOf P.p).length (resCells (outcomesOf P.p))) := ho3
  have hol : (outcomesOf P.p).length ≤ 100000000 := outs_len HPV.out.ten
  have HVB : Hid (B ≤ V.heap.size) := by show _ ≤ _; omega
  clear hb3 ho3 v1 v2 v3
  go_wp2_with fail
  refine (took_ress HWO.out hs hB w3 HB3.out (outcomesOf P.p) ta tcap HO3.out hol).mono ?_
  rintro e w5 ⟨rfl, hB5, hW5⟩
  have HB5 : Hid (Below B w3 w5) := hB5
  have HW5 : Hid (WOk X Z w5 wb (s + 1) np) := hW5
  clear hB5 hW5
  go_wp2
  go_ret
  exact ⟨rfl, HBV.out.trans ((HB3.out.mono HVB.out).trans HB5.out), HW5.out⟩
 | none =>
  rw [hal] at d1
  simp only [Option.map_none] at d1
  have HT1 : Hid (W.cell? ⟨P.b, 1, none⟩ = some (.pointer (some ⟨P.bY, 0, none⟩))) := HOK.out.two.c1
  have hbl : P.b < W.heap.size := Nat.lt_of_lt_of_le HOK.out.two.b1 HOK.out.hi
  have hbD : D P.b := HOK.out.dt _ HOK.out.two.b0 HOK.out.two.b1
  have hbg : P.b ≠ g1 := fun e => HND.out (e ▸ hbD)
  have HDN : Hid (W.cell? ⟨g1, k, none⟩ = some (.pointer none)) := d1
  clear hbD
  go_upto_region 3 with fail
  clear c0 c1 d0 d1
  refine wp_region_held_drew (S := fun w' => w'.cell? ⟨wb, 1, none⟩ = some (.slice (some ⟨g1, 0, none⟩) ps.length cap1) ∧ w'.cell? ⟨P.b, 1, none⟩ = some (.pointer (some ⟨P.bY, 0, none⟩))) (by kernel_rfl) ⟨HC1.out, HT1.out⟩ (fun hHeld => ?_)
  refine takeR 0 (.pointer (some ⟨wb, 0, none⟩)) rfl hHeld ?_
  refine takeS 1 (.pointer (some ⟨wb, 0, none⟩)) rfl hHeld ?_
  refine takeS 2 (.pointer (some ⟨wb, 1, none⟩)) rfl hHeld ?_
  refine takeAt 3 (.slice (some ⟨g1, 0, none⟩) ps.length cap1) rfl (.inl ⟨by rfl, fun w hw => by have hwa := hw.1; go_simp⟩) hHeld ?_
  refine takeR 4 (.int .i64 (k : Int)) rfl hHeld ?_
  refine takeR 5 (.pointer (some ⟨P.b, 0, none⟩)) rfl hHeld ?_
  refine takeS 6 (.pointer (some ⟨P.b, 0, none⟩)) rfl hHeld ?_
  refine takeS 7 (.pointer (some ⟨P.b, 1, none⟩)) rfl hHeld ?_
  refine takeAt 8 (.pointer (some ⟨P.bY, 0, none⟩)) rfl (.inl ⟨by rfl, fun w hw => by have hwa := hw.2; go_simp⟩) hHeld ?_
  refine wpAnyH_callg 9 _ (by kernel_rfl) rfl (by rfl) 24 #[.pointer (some ⟨P.bY, 0, none⟩)] (by go_simp) _ (refThrough_any (HOK.out.two.below (Below.refl _ _).drew).py (by exact HOK.out.hi) HOK.out.ten) ?_
  rintro e w3 ⟨hb3', ra', rcap', rfl, hs3⟩
  rw [show W.drew.heap.size = W.heap.size from rfl] at hs3 ⊢
  have hb3 : Below W.heap.size W w3 := (Below.refl _ _).drew.trans (hb3'.mono (Nat.le_refl _))
  have hS3 : w3.cell? ⟨wb, 1, none⟩ = some (.slice (some ⟨g1, 0, none⟩) ps.length cap1) ∧ w3.cell? ⟨P.b, 1, none⟩ = some (.pointer (some ⟨P.bY, 0, none⟩)) := ⟨(hb3.cell (p := ⟨wb, 1, none⟩) (by show wb < W.heap.size; omega)).trans HC1.out, (hb3.cell (p := ⟨P.b, 1, none⟩) hbl).trans HT1.out⟩
  have k1 : w3.cell? ⟨g1, k, none⟩ = some (.pointer none) := (hb3.cell (p := ⟨g1, k, none⟩) hl1).trans HDN.out
  have kf : w3.frozen? ⟨g1, k, none⟩ = false := (hb3.frozen (p := ⟨g1, k, none⟩) hl1).trans (HFZ.out k)
  refine ⟨_, rfl, hS3, ?_⟩
  simp only [List.getElem_toArray, List.getElem_cons_zero, List.getElem_cons_succ, Act.put, List.setIfInBounds_toArray, List.set_cons_zero, List.set_cons_succ]
  refine takeAt 10 (.pointer (some ⟨g1, k, none⟩)) rfl (.inl ⟨by rfl, fun w hw => by go_simp <;> (intro h; omega)⟩) hS3 ?_
  have hS4 : (w3.setCell ⟨g1, k, none⟩ (.pointer (some ⟨W.heap.size, 0, none⟩))).cell? ⟨wb, 1, none⟩ = some (.slice (some ⟨g1, 0, none⟩) ps.length cap1) ∧ (w3.setCell ⟨g1, k, none⟩ (.pointer (some ⟨W.heap.size, 0, none⟩))).cell? ⟨P.b, 1, none⟩ = some (.pointer (some ⟨P.bY, 0, none⟩)) := ⟨(World.cell?_setCell_far _ _ _ _ (by show g1 ≠ wb; omega)).trans hS3.1, (World.cell?_setCell_far _ _ _ _ (by show g1 ≠ P.b; exact fun e => hbg e.symm)).trans hS3.2⟩
  refine wpAnyH_skip (w1 := w3.setCell ⟨g1, k, none⟩ (.pointer (some ⟨W.heap.size, 0, none⟩))) 11 _ (by kernel_rfl) rfl (by rfl) rfl (by go_simp) hS4 ?_
  refine wpAnyH_done (by kernel_rfl) ?_ _
  have hIF := HI0.out.fresh hb3
  have hsl3 := hs3.lt
  have hput := hIF.rows.put (i := 1) (by omega) HR1.out (j := k) (by rw [hIF.n1.1]; show k < ps.length * 1; omega) (.pointer (some ⟨W.heap.size, 0, none⟩))
  have hDg : ¬ (D g1 ∨ (W.heap.size ≤ g1 ∧ g1 < w3.heap.size)) := fun hd => by rcases hd with hd | hd; exact HND.out hd; omega
  have hWV := hIF.setAll (k := k) (ab := W.heap.size) (P := P) (ra := ra') (rcap := rcap') HPP.out (.inr ⟨Nat.le_refl _, hsl3⟩) (fun h0 q hq => .inr (by have := hs3.own_lt h0 hq; omega)) hs3 hput (fun q hd => heap_far _ _ _ _ (fun e => hDg (by have e2 : q = g1 := e; rw [← e2]; exact hd))) (by rw [World.size_setCell]; exact Nat.le_refl _)
  have hmem : ({ P with al := some W.heap.size, ra := ra', rcap := rcap' } : Pr) ∈ ps.set k { P with al := some W.heap.size, ra := ra', rcap := rcap' } := List.mem_of_getElem? (List.getElem?_set_self (by omega))
  have hPV := hWV.pr _ hmem
  obtain ⟨-, -, hs'⟩ := hPV.al W.heap.size rfl
  have v1 := hS4.1
  have v2 : (w3.setCell ⟨g1, k, none⟩ (.pointer (some ⟨W.heap.size, 0, none⟩))).cell? ⟨g1, k, none⟩ = some (.pointer (some ⟨W.heap.size, 0, none⟩)) := World.cell?_setCell_same _ _ _ k1
  have v3 : (w3.setCell ⟨g1, k, none⟩ (.pointer (some ⟨W.heap.size, 0, none⟩))).cell? ⟨w.heap.size, 0, none⟩ = some (.int .i64 9) := (World.cell?_setCell_far _ _ _ _ (by show g1 ≠ w.heap.size; have := HI.out.rows.row (i := 1) (by omega) (q := g1) (by rw [HR1.out]; rfl); omega)).trans ((hb3.cell (p := ⟨w.heap.size, 0, none⟩) (by show w.heap.size < W.heap.size; omega)).trans HX0.out)
  have HBV : Hid (Below B w (w3.setCell ⟨g1, k, none⟩ (.pointer (some ⟨W.heap.size, 0, none⟩)))) := ((HB0.out.mono (by omega)).trans (hb3.mono (by omega))).setCell (by show B ≤ g1; omega) _
  have HPV : Hid (PrOk (w3.setCell ⟨g1, k, none⟩ (.pointer (some ⟨W.heap.size, 0, none⟩))) (fun q => D q ∨ (W.heap.size ≤ q ∧ q < w3.heap.size)) { P with al := some W.heap.size, ra := ra', rcap := rcap' }) := hPV
  have HSV : Hid (SrtAt (w3.setCell ⟨g1, k, none⟩ (.pointer (some ⟨W.heap.size, 0, none⟩))) W.heap.size (checkOf P.p).isNone (outcomesOf P.p) (outcomesOf P.p).length ra' rcap') := hs'
  have HWO : Hid (WOk X Z (w3.setCell ⟨g1, k, none⟩ (.pointer (some ⟨W.heap.size, 0, none⟩))) wb s np) := ⟨_, nl, n, _, rw, _, I, E, R, hWV, by rw [List.length_set]; exact HC.out.1, HC.out.2⟩
  have hzV : w.heap.size ≤ (w3.setCell ⟨g1, k, none⟩ (.pointer (some ⟨W.heap.size, 0, none⟩))).heap.size := by rw [World.size_setCell]; have := hb3.size; omega
  clear hHeld hS3 hS4 hIF hput hWV hmem hPV hs' hb3 hb3' hs3 k1 kf hDg hal HD1 HDN HT1 HC1
  generalize w3.setCell ⟨g1, k, none⟩ (.pointer (some ⟨W.heap.size, 0, none⟩)) = V at *
  clear hzw hsl3 HZ0 HX0 HB0 HI HI0 HOK
  generalize W.heap.size = ab at *
  go_upto_region 9 with fail
  go_wp2_with fail
  refine (lawEnds_any HPV.out.two HPV.out.tiny HPV.out.ten HPV.out.hi HSV.out).mono ?_
  rintro e w3 ⟨hb3, ta, tcap, rfl, ho3⟩
  have HB3 : Hid (Below V.heap.size V w3) := hb3
  have HO3 : Hid (w3.ownsRow V.heap.size 66 5 (.slice ta (outcomesOf P.p).length tcap) (outcomesOf P.p).length (resCells (outcomesOf P.p))) := ho3
  have hol : (outcomesOf P.p).length ≤ 100000000 := outs_len HPV.out.ten
  have HVB : Hid (B ≤ V.heap.size) := by show _ ≤ _; omega
  clear hb3 ho3 v1 v2 v3
  go_wp2_with fail
  refine (took_ress HWO.out hs hB w3 HB3.out (outcomesOf P.p) ta tcap HO3.out hol).mono ?_
  rintro e w5 ⟨rfl, hB5, hW5⟩
  have HB5 : Hid (Below B w3 w5) := hB5
  have HW5 : Hid (WOk X Z w5 wb (s + 1) np) := hW5
  clear hB5 hW5
  go_wp2
  go_ret
  exact ⟨rfl, HBV.out.trans ((HB3.out.mono HVB.out).trans HB5.out), HW5.out⟩

end Go.Proofs.YtfdafcnfefbcbabGreat
