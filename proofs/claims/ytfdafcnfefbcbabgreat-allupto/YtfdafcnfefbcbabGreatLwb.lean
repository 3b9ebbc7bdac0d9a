/-
 Several texts of ours in one: Handed, LawPlay, LawOrder, LawEvents.
-/
import Derived.Test.YtfdafcnfefbcbabGreatRfg
import Derived.Laws.CopyRow
import Derived.Laws.CopyOwn
import Derived.Laws.IdiomCopy
import Derived.Lib.Builder
import Derived.Deep.QuietTactic
import Derived.BigQuiet
import Derived.Test.YtfdafcnfefbcbabGreatRff
import Derived.Test.YtfdafcnfefbcbabGreatRefResult
import Derived.Test.YtfdafcnfefbcbabGreatCal
import Derived.Test.YtfdafcnfefbcbabGreatOrf
import Derived.Test.YtfdafcnfefbcbabGreatRfp
/-
 Package interleavelaw: the contracts of sameInts, handed, still.
-/
namespace Go.Proofs.YtfdafcnfefbcbabGreat
open Go.RowKit
set_option linter.unusedVariables false
set_option maxRecDepth 100000
set_option maxHeartbeats 2000000

theorem lawSame_any (l : List Int) (a b : Option Addr) (cap cap' : Nat) (w : World) (ha : SeqIn w a l) (hb : SeqIn w b l) (hl : l.length ≤ 35184372088832) :
  Calls Tryz.prog 33 #[.slice a l.length cap, .slice b l.length cap'] w fun e w' => e = .returned (.bool true) ∧ Below w.heap.size w w' := by
 have HA : Hid (SeqIn w a l) := ha
 have HB : Hid (SeqIn w b l) := hb
 clear ha hb
 go_enter Tryz.func33, Tryz.ntmps33
 go_wp2_with fail
 go_loopw [5] (fun t' wr => ∃ i : Nat, i ≤ l.length ∧ t' = .int .i64 (i : Int) ∧ Hid (Below w.heap.size w wr)) (fun t' _ => l.length - (intOf t').toNat)
 case atStart => exact ⟨0, Nat.zero_le _, rfl, (show Hid _ from Below.refl _ _)⟩
 case round =>
  obtain ⟨i, hi, rfl, H1⟩ := hrel
  by_cases hlt : i < l.length
  ·have hlt' : (i : Int) < (l.length : Int) := by omega
   obtain ⟨ga, oa, rfl, hga, hca⟩ := HA.out (by omega)
   obtain ⟨gb, ob, rfl, hgb, hcb⟩ := HB.out (by omega)
   have x0 : wr.cell? ⟨ga, oa + i, none⟩ = some (.int .i64 l[i]) := (H1.out.cell (p := ⟨ga, oa + i, none⟩) hga).trans (hca i _ (List.getElem?_eq_getElem hlt))
   have y0 : wr.cell? ⟨gb, ob + i, none⟩ = some (.int .i64 l[i]) := (H1.out.cell (p := ⟨gb, ob + i, none⟩) hgb).trans (hcb i _ (List.getElem?_eq_getElem hlt))
   have hne : (l[i] != l[i]) = false := by simp
   clear hga hca hgb hcb
   generalize l[i] = m at *
   go_upto_region 6 with fail
   go_quiet (fail)
   go_wp2
   go_roundw
   case rel => exact ⟨i + 1, by omega, by go_num, (show Hid _ from below_drewN H1.out _)⟩
   case measure => simp [intOf]; omega
  ·have hlt' : ¬ (i : Int) < (l.length : Int) := by omega
   go_wp2
   go_ret
   exact ⟨rfl, H1.out⟩

def handCells (l : List Int) : List Value := intCells l ++ [.int .i64 (-77), .int .i64 (-77)]

/-- A schedule handed over, with its room. -/
def HandAt (w : World) (g : Nat) (l : List Int) : Prop := w.heap[g]? = some (.cells (handCells l).toArray 3 (0, 0))

theorem HandAt.ints {w : World} {g : Nat} {l : List Int} (h : HandAt w g l) : IntsIn w (some ⟨g, 0, none⟩) l := fun h0 => by
 have hlt : g < w.heap.size := by
  rcases Nat.lt_or_ge g w.heap.size with h' | h'
  ·exact h'
  ·rw [HandAt, Array.getElem?_eq_none h'] at h; cases h
 refine ⟨g, rfl, hlt, fun i m hm => ?_⟩
 rw [Lib.cell_of_heap h]
 have := (List.getElem?_eq_some_iff.1 hm).1
 simp [handCells, intCells, List.getElem?_append_left, this]
 obtain ⟨h1, h2⟩ := List.getElem?_eq_some_iff.1 hm
 exact h2

theorem intCells_length (l : List Int) : (intCells l).length = l.length := by simp [intCells]

theorem handed_any (l : List Int) (a : Option Addr) (cap : Nat) (w : World) (ha : SeqIn w a l) (hl : l.length ≤ 17592186044416) :
  Calls Tryz.prog 13 #[.slice a l.length cap] w fun e w' => ∃ g, e = .returned (.slice (some ⟨g, 0, none⟩) l.length (l.length + 2 : Nat)) ∧ w.heap.size ≤ g ∧ Below w.heap.size w w' ∧ HandAt w' g l := by
 have HA : Hid (SeqIn w a l) := ha
 clear ha
 obtain ⟨i0, hi0, hz0, hz1, hz2⟩ := info_parts Tryz.info3
 go_enter Tryz.func13, Tryz.ntmps13
 go_upto_region 2 with (first | (refine wpList_make_full w rfl _ _ _ rfl w.heap.size 3 i0 _ 1 Tryz.underlying31 hi0 hz0 hz1 .i64 .i64 _ _ (l.length + 2) rfl rfl (by go_num) (by go_num) (by rw [hz2]; omega) (by unfold maxLen; omega) (Nat.le_refl _) ?_; intro w1 hown hgrow))
 obtain ⟨cur, hcur, hcs⟩ : ∃ cur, w1.heap[w.heap.size]? = some (.cells cur 3 (0, 0)) ∧ cur.size = l.length + 2 := by
  rcases hown.2 with ⟨h', _⟩ | ⟨g', cap', cur, h', hb, hg, hnc, hcm, hcs, htk⟩
  ·simp at h'
  ·simp only [Value.slice.injEq, Option.some.injEq, Addr.mk.injEq, and_true, true_and] at h'
   obtain ⟨rfl, rfl⟩ := h'
   exact ⟨cur, hg, by omega⟩
 obtain ⟨u0, u1, hu⟩ : ∃ u0 u1, cur.toList.drop l.length = [u0, u1] := by
  have : (cur.toList.drop l.length).length = 2 := by simp [hcs]
  match h : cur.toList.drop l.length, this with
  | [u0, u1], _ => exact ⟨u0, u1, rfl⟩
 have hcp : (Builtin.copy_ #[31, 31] 3 #[.slice (some ⟨w.heap.size, 0, none⟩) (l.length + 2) (l.length + 2), .slice a l.length cap]).run Tryz.prog w1 = .ok (goInt l.length) (w1.setRow w.heap.size (intCells l ++ [u0, u1]).toArray) := by
  by_cases h0 : l.length = 0
  ·have e : (intCells l ++ [u0, u1]).toArray = cur := by
    rw [← hu, h0]; simp [intCells, List.length_eq_zero_iff.1 h0]
   rw [e, setRow_self _ _ _ _ _ hcur, run_copy_none w1 31 31 3 3 _ a _ _ _ cap Tryz.underlying31 (by rw [hi0]; simp [hz1]) (by rw [h0]; simp), h0]
   rfl
  ·obtain ⟨gb, go, rfl, hgb, hgc⟩ := HA.out (by omega)
   have hbl : Below w.heap.size w w1 := Below.grown (Below.refl _ _) hgrow (Nat.le_refl _) (fun _ h => by cases h)
   have := run_copy_row (P := Tryz.prog) w1 31 31 3 3 w.heap.size 0 (l.length + 2) (l.length + 2) ⟨gb, go, none⟩ l.length cap cur 3 (intCells l) Tryz.underlying31 (by rw [hi0]; simp [hz1]) hcur (by rw [intCells_length]; exact (Nat.min_eq_left (by omega)).symm) (fun j v hv => by
     obtain ⟨h1, h2⟩ := List.getElem?_eq_some_iff.1 hv
     have h3 : j < l.length := by simpa [intCells] using h1
     rw [← h2]
     simp only [intCells, List.getElem_map]
     have ea : (⟨gb, go, none⟩ : Addr).add j = ⟨gb, go + j, none⟩ := by simp [Addr.add]
     rw [ea]
     exact (hbl.cell (p := ⟨gb, go + j, none⟩) hgb).trans (hgc j _ (List.getElem?_eq_getElem h3))) (by rw [intCells_length]; omega) (fun v hv => by
     simp only [intCells, List.mem_map] at hv
     obtain ⟨m, -, rfl⟩ := hv
     rfl)
   rw [intCells_length, Nat.zero_add, hu, List.take_zero, List.nil_append] at this
   exact this
 have hb1 : Below w.heap.size w (w1.setRow w.heap.size (intCells l ++ [u0, u1]).toArray) := below_setRow (Below.grown (Below.refl _ _) hgrow (Nat.le_refl _) (fun _ h => by cases h)) (Nat.le_refl _) _
 have hh1 := setRow_heap w1 w.heap.size cur (intCells l ++ [u0, u1]).toArray 3 (0, 0) hcur
 clear hown hgrow hcur hcs hu
 generalize w1.setRow w.heap.size (intCells l ++ [u0, u1]).toArray = W2 at *
 go_upto_region 3 with fail
 have d0 : W2.cell? ⟨w.heap.size, l.length, none⟩ = some u0 := by rw [Lib.cell_of_heap hh1]; simp [intCells]
 have d1 : W2.cell? ⟨w.heap.size, l.length + 1, none⟩ = some u1 := by rw [Lib.cell_of_heap hh1]; simp [intCells]
 have df := fun j => Lib.frozen_of_heap hh1 j
 have q0 : (l.length : Int) < (l.length : Int) + 2 := by omega
 have q1 : (l.length : Int) + 1 < (l.length : Int) + 2 := by omega
 have HH1 : Hid _ := hh1
 clear hcp hh1
 go_wp2
 go_ret
 refine ⟨w.heap.size, rfl, Nat.le_refl _, (hb1.setCell (Nat.le_refl _) _).setCell (Nat.le_refl _) _, ?_⟩
 have e1 := heap_setCell_same W2 w.heap.size l.length _ _ (.int .i64 (-77)) HH1.out
 have e2 := heap_setCell_same _ w.heap.size (l.length + 1) _ _ (.int .i64 (-77)) e1
 unfold HandAt
 rw [e2]
 simp [handCells, intCells]

/-- Only one block turns, and it stays a row. -/
structure StAt (w wr : World) (g n : Nat) : Prop where
 kp : Kept g g w wr
 row : ∃ cs, wr.heap[g]? = some (.cells cs 3 (0, 0)) ∧ cs.size = n

theorem StAt.put {w wr : World} {g n : Nat} (h : StAt w wr g n) (j : Nat) (v : Value) : StAt w (wr.setCell ⟨g, j, none⟩ v) g n := by
 obtain ⟨cs, h1, h2⟩ := h.row
 refine ⟨⟨h.kp.os, h.kp.tape, h.kp.output, by rw [World.size_setCell]; exact h.kp.size, fun k hk h1 h2 => ?_⟩, ⟨_, heap_setCell_same wr g j cs _ v h1, by simpa using h2⟩⟩
 rw [heap_setCell_other wr ⟨g, j, none⟩ k v (fun e => h1 e)]
 exact h.kp.block k hk h1 h2

theorem still_any (l : List Int) (g : Nat) (a : Option Addr) (cap : Nat) (w : World) (hh : HandAt w g l) (ha : SeqIn w a l) (hl : l.length ≤ 17592186044416) :
  Calls Tryz.prog 15 #[.slice (some ⟨g, 0, none⟩) l.length (l.length + 2 : Nat), .slice a l.length cap] w fun e w' => e = .returned (.bool true) ∧ Kept g g w w' := by
 have HA : Hid (SeqIn w a l) := ha
 have HN : Hid (HandAt w g l) := hh
 have HLT : Hid (g < w.heap.size) := by
  show _ < _
  rcases Nat.lt_or_ge g w.heap.size with h' | h'
  ·exact h'
  ·rw [HandAt, Array.getElem?_eq_none h'] at hh; cases hh
 clear ha hh
 go_enter Tryz.func15, Tryz.ntmps15
 go_wp2_with fail
 refine (lawSame_any l (some ⟨g, 0, none⟩) a _ cap _ HN.out.ints.seq HA.out (by omega)).mono ?_
 rintro e w1 ⟨rfl, hb1⟩
 have hh1 : w1.heap[g]? = some (.cells (handCells l).toArray 3 (0, 0)) := (hb1.block g HLT.out).trans HN.out
 have d0 : w1.cell? ⟨g, l.length, none⟩ = some (.int .i64 (-77)) := by rw [Lib.cell_of_heap hh1]; simp [handCells, intCells]
 have d1 : w1.cell? ⟨g, l.length + 1, none⟩ = some (.int .i64 (-77)) := by rw [Lib.cell_of_heap hh1]; simp [handCells, intCells]
 have q0 : (l.length : Int) < (l.length : Int) + 2 := by omega
 have q1 : (l.length : Int) + 1 < (l.length : Int) + 2 := by omega
 have HS : Hid (StAt w w1 g (l.length + 2)) := ⟨Below.kept hb1, ⟨_, hh1, by simp [handCells, intCells]⟩⟩
 clear hb1 hh1
 go_wp2_with fail
 go_loopw [9] (fun t' wr => ∃ i : Nat, i ≤ l.length ∧ t' = .int .i64 (i : Int) ∧ Hid (StAt w wr g (l.length + 2))) (fun t' _ => l.length - (intOf t').toNat)
 case atStart => exact ⟨0, Nat.zero_le _, rfl, HS⟩
 case round =>
  obtain ⟨i, hi, rfl, H1⟩ := hrel
  by_cases hlt : i < l.length
  ·have hlt' : (i : Int) < (l.length : Int) := by omega
   obtain ⟨cs, hr1, hr2⟩ := H1.out.row
   have c0 : wr.cell? ⟨g, i, none⟩ = some (cs[i]'(by omega)) := by rw [Lib.cell_of_heap hr1]; simp
   have cf := fun j => Lib.frozen_of_heap hr1 j
   clear hr1
   go_wp2
   go_roundw
   case rel => exact ⟨i + 1, by omega, by go_num, (show Hid _ from H1.out.put _ _)⟩
   case measure => simp [intOf]; omega
  ·have hlt' : ¬ (i : Int) < (l.length : Int) := by omega
   go_wp2
   go_ret
   exact ⟨rfl, H1.out.kp⟩

theorem ready_form {p : List (List Pl.POp)} {ms : List Int} {w w' : World} {e : Ending} (h : ReadySays p ms w e w') : ∃ (ra : Option Addr) (rcap : Nat) (xs : List Int) (k : Int), e = .returned (.tuple #[.slice ra xs.length rcap, .int .i64 k]) ∧ w'.ownsRow w.heap.size 3 1 (.slice ra xs.length rcap) xs.length (intCells xs) ∧
  (follow p (beginTo p 4) [] 0 ms = none → xs = [] ∧ k = 4) ∧ ∀ S es, follow p (beginTo p 4) [] 0 ms = some (S, es) → xs = readyTo S p 4 ∧ k = 0 := by
 obtain ⟨h1, h2⟩ := h
 cases hf : follow p (beginTo p 4) [] 0 ms with
 | none =>
  rw [hf] at h2
  exact ⟨none, 0, [], 4, h2, World.ownsRow_nil _ _ _ _, fun _ => ⟨rfl, rfl⟩, fun S es h => by cases h⟩
 | some x =>
  obtain ⟨S, es⟩ := x
  rw [hf] at h2
  obtain ⟨ra, rcap, h3, h4⟩ := h2
  exact ⟨ra, rcap, _, 0, h3, h4, (fun h => by cases h), fun S' es' h => by cases h; exact ⟨rfl, rfl⟩⟩

theorem lawReady_any {w : World} {lo hi b bx bY la lcap : Nat} {p : List (List Pl.POp)} (h : TwoAt w lo hi b bx bY la lcap p) (hs : Tiny p) (hh : hi ≤ w.heap.size) (ms : List Int) (sa : Option Addr) (scap : Nat) (hm : SeqIn w sa ms) (hlen : ms.length ≤ 17592186044416) :
  Calls Tryz.prog 18 #[.pointer (some ⟨b, 0, none⟩), .slice sa ms.length scap] w
   fun e w' => Below w.heap.size w w' ∧ ∃ (ra : Option Addr) (rcap : Nat) (xs : List Int), e = .returned (.tuple #[.slice ra xs.length rcap, .bool true]) ∧ w'.ownsRow w.heap.size 3 1 (.slice ra xs.length rcap) xs.length (intCells xs) ∧ xs.length ≤ 4000 := by
 have H : Hid (TwoAt w lo hi b bx bY la lcap p) := h
 have HM : Hid (SeqIn w sa ms) := hm
 have HT : Hid (Tiny p) := hs
 clear h hm hs
 go_enter Tryz.func18, Tryz.ntmps18
 go_wp2_with fail
 refine (handed_any ms sa scap _ HM.out hlen).mono ?_
 rintro e w1 ⟨g, rfl, hg0, hb1, hn1⟩
 have HB1 : Hid (Below w.heap.size w w1) := hb1
 have HN1 : Hid (HandAt w1 g ms) := hn1
 have H1 : Hid (TwoAt w1 lo hi b bx bY la lcap p) := H.out.below (hb1.mono hh)
 have hs1 := hb1.size
 have c0 := H1.out.c0
 clear hb1 hn1
 go_wp2_with fail
 refine (progReady_any p lo hi bx ms (some ⟨g, 0, none⟩) _ _ H1.out.px HT.out (by omega) HN1.out.ints (by unfold maxLen; omega)).mono ?_
 rintro e w2 hr2
 have HB2 : Hid (Below w1.heap.size w1 w2) := hr2.1
 obtain ⟨ra, rcap, xs, k, rfl, ho2, hno, hyes⟩ := ready_form hr2
 have HO2 : Hid (w2.ownsRow w1.heap.size 3 1 (.slice ra xs.length rcap) xs.length (intCells xs)) := ho2
 have HNO : Hid (follow p (beginTo p 4) [] 0 ms = none → xs = [] ∧ k = 4) := hno
 have HYES : Hid (∀ S es, follow p (beginTo p 4) [] 0 ms = some (S, es) → xs = readyTo S p 4 ∧ k = 0) := hyes
 have hg1 : g < w1.heap.size := by
  rcases Nat.lt_or_ge g w1.heap.size with h' | h'
  ·exact h'
  ·have := HN1.out; rw [HandAt, Array.getElem?_eq_none h'] at this; cases this
 have HN2 : Hid (HandAt w2 g ms) := (HB2.out.block g hg1).trans HN1.out
 have HBW2 : Hid (Below w.heap.size w w2) := HB1.out.trans (HB2.out.mono hs1)
 clear hr2 ho2 hno hyes c0
 go_wp2_with fail
 refine (still_any ms g sa scap _ HN2.out (HM.out.below HBW2.out) hlen).mono ?_
 rintro e w3 ⟨rfl, hk3⟩
 have HBW3 : Hid (Below w.heap.size w w3) := HBW2.out.trans (hk3.below hg0 hg0 HBW2.out.size)
 have HO3 : Hid (w3.ownsRow w1.heap.size 3 1 (.slice ra xs.length rcap) xs.length (intCells xs)) := ownsRow_of_block HO2.out (fun q hq => hk3.block q (HO2.out.lt q hq).2 (by have := (HO2.out.lt q hq).1; omega) (by have := (HO2.out.lt q hq).1; omega))
 have H3 : Hid (TwoAt w3 lo hi b bx bY la lcap p) := H.out.below (HBW3.out.mono hh)
 have c1 := H3.out.c1
 clear hk3
 go_wp2_with fail
 refine (refPlay_any H3.out.py (Nat.le_trans hh HBW3.out.size) ms sa scap (HM.out.below HBW3.out) (by unfold maxLen; omega)).mono ?_
 rintro e w4 ⟨hb4, he4⟩
 have HB4 : Hid (Below w3.heap.size w3 w4) := hb4
 have HBW4 : Hid (Below w.heap.size w w4) := HBW3.out.trans (hb4.mono HBW3.out.size)
 have HO4 : Hid (w4.ownsRow w1.heap.size 3 1 (.slice ra xs.length rcap) xs.length (intCells xs)) := ((ownsRow_in HO3.out).below hb4).1
 clear hb4 c1
 cases hf : follow p (beginTo p 4) [] 0 ms with
 | none =>
  rw [hf] at he4
  subst he4
  obtain ⟨rfl, rfl⟩ := HNO.out hf
  clear hf
  go_wp2
  go_ret2
  exact ⟨HBW4.out, ra, rcap, [], rfl, ((ownsRow_in HO4.out).mono hs1 (Nat.le_refl _)).1, Nat.zero_le _⟩
 | some x =>
  obtain ⟨S, es⟩ := x
  rw [hf] at he4
  obtain ⟨rb, tb, ea, ecap, rfl, hrr, hok, -, -, -⟩ := he4
  obtain ⟨rfl, rfl⟩ := HYES.out S es hf
  have HRR : Hid _ := hrr
  have HOK : Hid _ := hok
  clear hf hrr hok
  go_wp2_with fail
  refine (refReady_any HRR.out HOK.out).mono ?_
  rintro e w5 ⟨hb5, qa, qcap, rfl, ho5⟩
  have HB5 : Hid (Below w.heap.size w w5) := HBW4.out.trans (hb5.mono HBW4.out.size)
  have HO5 : Hid (w5.ownsRow w1.heap.size 3 1 (.slice ra (readyTo S p 4).length rcap) (readyTo S p 4).length (intCells (readyTo S p 4))) := ((ownsRow_in HO4.out).below hb5).1
  have HQ5 : Hid _ := ho5
  have hrl := readyTo_length S p 4
  clear hb5 ho5
  go_wp2_with fail
  refine (lawSame_any (readyTo S p 4) ra qa rcap qcap _ (ints_of_owns HO5.out).seq (ints_of_owns HQ5.out).seq (by omega)).mono ?_
  rintro e w6 ⟨rfl, hb6⟩
  go_wp2
  go_ret2
  exact ⟨HB5.out.trans (hb6.mono HB5.out.size), ra, rcap, _, rfl, (((ownsRow_in HO5.out).below hb6).mono hs1 (Nat.le_refl _)).1, by omega⟩

theorem eq_vars_law (a b c d : Int) (w : World) : (Op.equalIn 9999 64 (.agg #[.int .i16 a, .int .i16 b, .int .i16 c, .int .i16 d]) (.agg #[.int .i16 a, .int .i16 b, .int .i16 c, .int .i16 d])).run Tryz.prog w = .ok true w := by
 have u3 := Tryz.underlying57
 have a3 := Tryz.isAgg57
 have z3 := Tryz.sizeOf57
 rw [show (9999 : Nat) = 9998 + 1 from rfl, Op.equalIn]
 simp only [Sem.run_bind, run_underlying Tryz.underlying64, Result.andThen_ok]
 simp only [Std.Legacy.Range.forIn_eq_forIn_range', Std.Legacy.Range.size, Nat.sub_zero, Nat.add_sub_cancel, Nat.div_one, List.range'_succ, List.range'_zero, List.forIn_cons, List.forIn_nil]
 go_simp

theorem play_form (p : List (List Pl.POp)) (ms : List Int) : ∃ (e : Nat) (T : St) (k : Int), playV p ms = .tuple #[.agg #[.int .u8 (e : Int), .int .i16 (T.var 0), .int .i16 (T.var 1), .int .i16 (T.var 2), .int .i16 (T.var 3)], .int .i64 k] ∧
  (follow p (beginTo p 4) [] 0 ms = none → e = 0 ∧ T = st0 ∧ k = 4) ∧ ∀ S es, follow p (beginTo p 4) [] 0 ms = some (S, es) → e = endOf S p ∧ T = S ∧ k = 0 := by
 unfold playV
 cases hf : follow p (beginTo p 4) [] 0 ms with
 | none => exact ⟨0, st0, 4, rfl, fun _ => ⟨rfl, rfl, rfl⟩, fun S es h => by cases h⟩
 | some x =>
  obtain ⟨S, es⟩ := x
  exact ⟨endOf S p, S, 0, rfl, (fun h => by cases h), fun S' es' h => by cases h; exact ⟨rfl, rfl, rfl⟩⟩

theorem R5.new (w : World) (e : Nat) (T : St) (t : TypeId) : R5 (w.alloc (.cells #[.int .u8 (e : Int), .int .i16 (T.var 0), .int .i16 (T.var 1), .int .i16 (T.var 2), .int .i16 (T.var 3)] t)) w.heap.size e T 4 := by
 refine ⟨by simp, fun v hv => ?_, fun j => World.frozen?_alloc_at _ _ _ _ (by simp)⟩
 have : v = 0 ∨ v = 1 ∨ v = 2 ∨ v = 3 := by omega
 rcases this with rfl | rfl | rfl | rfl <;> simp

theorem R5.four {w : World} {c e : Nat} {T : St} (h : R5 w c e T 4) : w.cell? ⟨c, 0, none⟩ = some (.int .u8 (e : Int)) ∧ w.cell? ⟨c, 1, none⟩ = some (.int .i16 (T.var 0)) ∧ w.cell? ⟨c, 2, none⟩ = some (.int .i16 (T.var 1)) ∧ w.cell? ⟨c, 3, none⟩ = some (.int .i16 (T.var 2)) ∧ w.cell? ⟨c, 4, none⟩ = some (.int .i16 (T.var 3)) :=
 ⟨h.e0, h.v 0 (by omega), h.v 1 (by omega), h.v 2 (by omega), h.v 3 (by omega)⟩

theorem R5.kept {w w' : World} {c e k g : Nat} {T : St} (h : R5 w c e T k) (hk : Kept g g w w') (hg : c ≠ g) : R5 w' c e T k := by
 have hb := hk.block c (World.block_lt_of_cell? w ⟨c, 0, none⟩ h.e0) hg hg
 exact ⟨(World.cell?_of_block (w := w) hb).trans h.e0, fun v hv => (World.cell?_of_block (w := w) hb).trans (h.v v hv), fun j => (World.frozen?_of_block (w := w) hb).trans (h.f j)⟩

theorem lawPlay_any {w : World} {lo hi b bx bY la lcap : Nat} {p : List (List Pl.POp)} (h : TwoAt w lo hi b bx bY la lcap p) (hs : Tiny p) (hh : hi ≤ w.heap.size) (ms : List Int) (sa : Option Addr) (scap : Nat) (hm : SeqIn w sa ms) (hlen : ms.length ≤ 17592186044416) :
  Calls Tryz.prog 9 #[.pointer (some ⟨b, 0, none⟩), .slice sa ms.length scap] w
   fun e w' => e = .returned (.bool true) ∧ Below w.heap.size w w' := by
 have H : Hid (TwoAt w lo hi b bx bY la lcap p) := h
 have HM : Hid (SeqIn w sa ms) := hm
 have HT : Hid (Tiny p) := hs
 clear h hm hs
 go_enter Tryz.func9, Tryz.ntmps9
 go_wp2_with fail
 refine (handed_any ms sa scap _ HM.out hlen).mono ?_
 rintro e w1 ⟨g, rfl, hg0, hb1, hn1⟩
 have HB1 : Hid (Below w.heap.size w w1) := hb1
 have HN1 : Hid (HandAt w1 g ms) := hn1
 have H1 : Hid (TwoAt w1 lo hi b bx bY la lcap p) := H.out.below (hb1.mono hh)
 have hs1 := hb1.size
 have c0 := H1.out.c0
 clear hb1 hn1
 go_wp2_with fail
 refine (play_any p lo hi bx ms (some ⟨g, 0, none⟩) _ _ H1.out.px HT.out (by omega) HN1.out.ints (by unfold maxLen; omega)).mono ?_
 rintro e w2 ⟨rfl, hb2⟩
 obtain ⟨en, T, k, hpv, hno, hyes⟩ := play_form p ms
 rw [hpv]
 have HNO : Hid (follow p (beginTo p 4) [] 0 ms = none → en = 0 ∧ T = st0 ∧ k = 4) := hno
 have HYES : Hid (∀ S es, follow p (beginTo p 4) [] 0 ms = some (S, es) → en = endOf S p ∧ T = S ∧ k = 0) := hyes
 have hg1 : g < w1.heap.size := by
  rcases Nat.lt_or_ge g w1.heap.size with h' | h'
  ·exact h'
  ·have := HN1.out; rw [HandAt, Array.getElem?_eq_none h'] at this; cases this
 have hs2 := hb2.size
 have HR : Hid (R5 (w2.alloc (.cells #[.int .u8 (en : Int), .int .i16 (T.var 0), .int .i16 (T.var 1), .int .i16 (T.var 2), .int .i16 (T.var 3)] 66)) w2.heap.size en T 4) := R5.new w2 en T _
 have HB2 : Hid (Below w1.heap.size w1 (w2.alloc (.cells #[.int .u8 (en : Int), .int .i16 (T.var 0), .int .i16 (T.var 1), .int .i16 (T.var 2), .int .i16 (T.var 3)] 66))) := hb2.alloc hs2 _
 clear hpv hno hyes c0 hb2
 go_upto_region 3 with fail
 generalize (w2.alloc (.cells #[.int .u8 (en : Int), .int .i16 (T.var 0), .int .i16 (T.var 1), .int .i16 (T.var 2), .int .i16 (T.var 3)] 66)) = X at *
 have HN2 : Hid (HandAt X g ms) := (HB2.out.block g hg1).trans HN1.out
 have HBW2 : Hid (Below w.heap.size w X) := HB1.out.trans (HB2.out.mono hs1)
 go_wp2_with fail
 refine (still_any ms g sa scap _ HN2.out (HM.out.below HBW2.out) hlen).mono ?_
 rintro e w3 ⟨rfl, hk3⟩
 have HBW3 : Hid (Below w.heap.size w w3) := HBW2.out.trans (hk3.below hg0 hg0 HBW2.out.size)
 have HR3 : Hid (R5 w3 w2.heap.size en T 4) := HR.out.kept hk3 (by omega)
 have H3 : Hid (TwoAt w3 lo hi b bx bY la lcap p) := H.out.below (HBW3.out.mono hh)
 have c1 := H3.out.c1
 clear hk3
 go_wp2_with fail
 refine (refPlay_any H3.out.py (Nat.le_trans hh HBW3.out.size) ms sa scap (HM.out.below HBW3.out) (by unfold maxLen; omega)).mono ?_
 rintro e w4 ⟨hb4, he4⟩
 have HBW4 : Hid (Below w.heap.size w w4) := HBW3.out.trans (hb4.mono HBW3.out.size)
 have HR4 : Hid (R5 w4 w2.heap.size en T 4) := HR3.out.below hb4 (World.block_lt_of_cell? w3 ⟨w2.heap.size, 0, none⟩ HR3.out.e0)
 clear hb4 c1
 cases hf : follow p (beginTo p 4) [] 0 ms with
 | none =>
  rw [hf] at he4
  subst he4
  obtain ⟨rfl, rfl, rfl⟩ := HNO.out hf
  obtain ⟨x0, x1, x2, x3, x4⟩ := HR4.out.four
  have x1' : w4.cell? ⟨w2.heap.size, 1, none⟩ = some (.int .i16 0) := x1
  have x2' : w4.cell? ⟨w2.heap.size, 2, none⟩ = some (.int .i16 0) := x2
  have x3' : w4.cell? ⟨w2.heap.size, 3, none⟩ = some (.int .i16 0) := x3
  have x4' : w4.cell? ⟨w2.heap.size, 4, none⟩ = some (.int .i16 0) := x4
  have heq := eq_vars_law 0 0 0 0
  clear hf x1 x2 x3 x4
  go_wp2
  go_ret
  exact ⟨rfl, HBW4.out⟩
 | some x =>
  obtain ⟨S, es⟩ := x
  rw [hf] at he4
  obtain ⟨rb, tb, ea, ecap, rfl, hrr, hok, -, -, -⟩ := he4
  obtain ⟨rfl, rfl, rfl⟩ := HYES.out S es hf
  have HRR : Hid _ := hrr
  have HOK : Hid _ := hok
  clear hf hrr hok
  go_wp2_with fail
  refine (refResult_any HRR.out HOK.out).mono ?_
  rintro e w5 ⟨rfl, hb5⟩
  unfold resV
  have HB5 : Hid (Below w.heap.size w w5) := HBW4.out.trans (hb5.mono HBW4.out.size)
  have hlt5 := World.block_lt_of_cell? w4 ⟨w2.heap.size, 0, none⟩ HR4.out.e0
  simp only at hlt5
  have hs5 := hb5.size
  have HR5 : Hid (R5 (w5.alloc (.cells #[.int .u8 (endOf T p : Int), .int .i16 (T.var 0), .int .i16 (T.var 1), .int .i16 (T.var 2), .int .i16 (T.var 3)] 66)) w2.heap.size (endOf T p) T 4) := (HR4.out.below hb5 hlt5).below ((Below.refl w5.heap.size w5).alloc (Nat.le_refl _) _) (by omega)
  have HQ5 : Hid (R5 (w5.alloc (.cells #[.int .u8 (endOf T p : Int), .int .i16 (T.var 0), .int .i16 (T.var 1), .int .i16 (T.var 2), .int .i16 (T.var 3)] 66)) w5.heap.size (endOf T p) T 4) := R5.new w5 _ T _
  have HBY : Hid (Below w.heap.size w (w5.alloc (.cells #[.int .u8 (endOf T p : Int), .int .i16 (T.var 0), .int .i16 (T.var 1), .int .i16 (T.var 2), .int .i16 (T.var 3)] 66))) := HB5.out.alloc HB5.out.size _
  clear hb5
  go_upto_region 8 with fail
  generalize (w5.alloc (.cells #[.int .u8 (endOf T p : Int), .int .i16 (T.var 0), .int .i16 (T.var 1), .int .i16 (T.var 2), .int .i16 (T.var 3)] 66)) = Y at *
  obtain ⟨x0, x1, x2, x3, x4⟩ := HR5.out.four
  obtain ⟨y0, y1, y2, y3, y4⟩ := HQ5.out.four
  have heq := eq_vars_law (T.var 0) (T.var 1) (T.var 2) (T.var 3)
  go_wp2
  go_ret
  exact ⟨rfl, HBY.out⟩

/-- What Cycle answers, and Arrange. -/
def cycAns (p : List (List Pl.POp)) (ms : List Int) : List Int := match follow p (beginTo p 4) [] 0 ms with
 | none => []
 | some (S, es) => cycleOf es

theorem cycle_len (es : List Ev) : (cycleOf es).length ≤ es.length := by
 by_cases hc : cycleOf es = []
 ·rw [hc]; exact Nat.zero_le _
 ·have hK := cycleOf_knot hc
  have h1 := nodup_le (cycleOf es) (es.map Ev.group) hK.nd (fun x hx => by
    obtain ⟨i, hi, rfl⟩ := List.getElem_of_mem hx
    have hk : (i + 1) % (cycleOf es).length < (cycleOf es).length := Nat.mod_lt _ (by omega)
    obtain ⟨a, b, hs, h1, -⟩ := hK.ahead i _ _ (List.getElem?_eq_getElem hi) (List.getElem?_eq_getElem hk)
    exact List.mem_map.2 ⟨a, hs.subset (by simp), h1⟩)
  simpa using h1

theorem cycle_form {p : List (List Pl.POp)} {ms : List Int} {w w' : World} {e : Ending} (h : CycleSays p ms w e w') : ∃ (ra : Option Addr) (rcap : Nat) (xs : List Int) (k : Int), e = .returned (.tuple #[.slice ra xs.length rcap, .int .i64 k]) ∧ w'.ownsRow w.heap.size 3 1 (.slice ra xs.length rcap) xs.length (intCells xs) ∧ xs = cycAns p ms ∧
  (follow p (beginTo p 4) [] 0 ms = none → xs = [] ∧ k = 4) ∧ ∀ S es, follow p (beginTo p 4) [] 0 ms = some (S, es) → xs = cycleOf es ∧ k = 0 := by
 obtain ⟨h1, h2⟩ := h
 unfold cycAns
 cases hf : follow p (beginTo p 4) [] 0 ms with
 | none =>
  rw [hf] at h2
  exact ⟨none, 0, [], 4, h2, World.ownsRow_nil _ _ _ _, rfl, fun _ => ⟨rfl, rfl⟩, fun S es h => by cases h⟩
 | some x =>
  obtain ⟨S, es⟩ := x
  rw [hf] at h2
  obtain ⟨v, h3, ca, ccap, h4, h5, -⟩ := h2
  subst h4
  exact ⟨ca, ccap, _, 0, h3, h5, rfl, (fun h => by cases h), fun S' es' h => by cases h; exact ⟨rfl, rfl⟩⟩

theorem arrange_form {p : List (List Pl.POp)} {ms : List Int} {w w' : World} {e : Ending} (h : ArrangeSays p ms w e w') : ∃ (ra : Option Addr) (rcap : Nat) (xs : List Int) (k : Int), e = .returned (.tuple #[.slice ra xs.length rcap, .int .i64 k]) ∧ w'.ownsRow w.heap.size 3 1 (.slice ra xs.length rcap) xs.length (intCells xs) ∧
  (follow p (beginTo p 4) [] 0 ms = none → xs = [] ∧ k = 4) ∧ ∀ S es, follow p (beginTo p 4) [] 0 ms = some (S, es) → ((takeGroups es).2 ≠ [] ∧ xs = [] ∧ k = 5) ∨ ((takeGroups es).2 = [] ∧ xs = (takeGroups es).1 ∧ k = 0) := by
 obtain ⟨h1, h2⟩ := h
 cases hf : follow p (beginTo p 4) [] 0 ms with
 | none =>
  rw [hf] at h2
  exact ⟨none, 0, [], 4, h2, World.ownsRow_nil _ _ _ _, fun _ => ⟨rfl, rfl⟩, fun S es h => by cases h⟩
 | some x =>
  obtain ⟨S, es⟩ := x
  rw [hf] at h2
  rcases h2 with ⟨h3, h4⟩ | ⟨h3, ta, tcap, h4, h5⟩
  ·exact ⟨none, 0, [], 5, h4, World.ownsRow_nil _ _ _ _, (fun h => by cases h), fun S' es' h => by cases h; exact .inl ⟨h3, rfl, rfl⟩⟩
  ·exact ⟨ta, tcap, _, 0, h4, h5, (fun h => by cases h), fun S' es' h => by cases h; exact .inr ⟨h3, rfl, rfl⟩⟩

theorem lawCycle_any {w : World} {lo hi b bx bY la lcap : Nat} {p : List (List Pl.POp)} (h : TwoAt w lo hi b bx bY la lcap p) (hs : Tiny p) (hh : hi ≤ w.heap.size) (ms : List Int) (sa : Option Addr) (scap : Nat) (hm : SeqIn w sa ms) (hlen : ms.length ≤ 17592186044416) :
  Calls Tryz.prog 19 #[.pointer (some ⟨b, 0, none⟩), .slice sa ms.length scap] w
   fun e w' => Below w.heap.size w w' ∧ ∃ (ra : Option Addr) (rcap : Nat) (xs : List Int), xs = cycAns p ms ∧ e = .returned (.tuple #[.slice ra xs.length rcap, .bool true]) ∧ w'.ownsRow w.heap.size 3 1 (.slice ra xs.length rcap) xs.length (intCells xs) := by
 have H : Hid (TwoAt w lo hi b bx bY la lcap p) := h
 have HM : Hid (SeqIn w sa ms) := hm
 have HT : Hid (Tiny p) := hs
 clear h hm hs
 go_enter Tryz.func19, Tryz.ntmps19
 go_wp2_with fail
 refine (handed_any ms sa scap _ HM.out hlen).mono ?_
 rintro e w1 ⟨g, rfl, hg0, hb1, hn1⟩
 have HB1 : Hid (Below w.heap.size w w1) := hb1
 have HN1 : Hid (HandAt w1 g ms) := hn1
 have H1 : Hid (TwoAt w1 lo hi b bx bY la lcap p) := H.out.below (hb1.mono hh)
 have hs1 := hb1.size
 have c0 := H1.out.c0
 clear hb1 hn1
 go_wp2_with fail
 refine (progCycle_any p lo hi bx ms (some ⟨g, 0, none⟩) _ _ H1.out.px HT.out (by omega) HN1.out.ints (by unfold maxLen; omega)).mono ?_
 rintro e w2 hr2
 have HB2 : Hid (Below w1.heap.size w1 w2) := hr2.1
 obtain ⟨ra, rcap, xs, k, rfl, ho2, hans, hno, hyes⟩ := cycle_form hr2
 have HANS : Hid (xs = cycAns p ms) := hans
 have HO2 : Hid (w2.ownsRow w1.heap.size 3 1 (.slice ra xs.length rcap) xs.length (intCells xs)) := ho2
 have HNO : Hid (follow p (beginTo p 4) [] 0 ms = none → xs = [] ∧ k = 4) := hno
 have HYES : Hid (∀ S es, follow p (beginTo p 4) [] 0 ms = some (S, es) → xs = cycleOf es ∧ k = 0) := hyes
 have hg1 : g < w1.heap.size := by
  rcases Nat.lt_or_ge g w1.heap.size with h' | h'
  ·exact h'
  ·have := HN1.out; rw [HandAt, Array.getElem?_eq_none h'] at this; cases this
 have HN2 : Hid (HandAt w2 g ms) := (HB2.out.block g hg1).trans HN1.out
 have HBW2 : Hid (Below w.heap.size w w2) := HB1.out.trans (HB2.out.mono hs1)
 clear hr2 ho2 hans hno hyes c0
 go_wp2_with fail
 refine (still_any ms g sa scap _ HN2.out (HM.out.below HBW2.out) hlen).mono ?_
 rintro e w3 ⟨rfl, hk3⟩
 have HBW3 : Hid (Below w.heap.size w w3) := HBW2.out.trans (hk3.below hg0 hg0 HBW2.out.size)
 have HO3 : Hid (w3.ownsRow w1.heap.size 3 1 (.slice ra xs.length rcap) xs.length (intCells xs)) := ownsRow_of_block HO2.out (fun q hq => hk3.block q (HO2.out.lt q hq).2 (by have := (HO2.out.lt q hq).1; omega) (by have := (HO2.out.lt q hq).1; omega))
 have H3 : Hid (TwoAt w3 lo hi b bx bY la lcap p) := H.out.below (HBW3.out.mono hh)
 have c1 := H3.out.c1
 clear hk3
 go_wp2_with fail
 refine (refPlay_any H3.out.py (Nat.le_trans hh HBW3.out.size) ms sa scap (HM.out.below HBW3.out) (by unfold maxLen; omega)).mono ?_
 rintro e w4 ⟨hb4, he4⟩
 have HB4 : Hid (Below w3.heap.size w3 w4) := hb4
 have HBW4 : Hid (Below w.heap.size w w4) := HBW3.out.trans (hb4.mono HBW3.out.size)
 have HO4 : Hid (w4.ownsRow w1.heap.size 3 1 (.slice ra xs.length rcap) xs.length (intCells xs)) := ((ownsRow_in HO3.out).below hb4).1
 clear hb4 c1
 cases hf : follow p (beginTo p 4) [] 0 ms with
 | none =>
  rw [hf] at he4
  subst he4
  obtain ⟨rfl, rfl⟩ := HNO.out hf
  clear hf
  go_wp2
  go_ret2
  exact ⟨HBW4.out, ra, rcap, [], HANS.out, rfl, ((ownsRow_in HO4.out).mono hs1 (Nat.le_refl _)).1⟩
 | some x =>
  obtain ⟨S, es⟩ := x
  rw [hf] at he4
  obtain ⟨rb, tb, ea, ecap, rfl, hrr, hok, -, -, ho4⟩ := he4
  obtain ⟨hxs, rfl⟩ := HYES.out S es hf
  have HXS : Hid (xs = cycleOf es) := hxs
  have HQ4 : Hid (w4.ownsRow w3.heap.size 59 6 (.slice ea es.length ecap) es.length (evCells es)) := ho4
  have hel : es.length ≤ 4000 := by
   obtain ⟨a', cap', hbh, hc', hok'⟩ := H.out.px.ok HT.out hh
   exact follow_short hok' hf
  obtain ⟨n, htold⟩ := follow_tells H.out.py.rows hf
  have HTD : Hid (Told es n) := htold
  clear hf hrr hok ho4 htold hxs
  go_wp2_with fail
  refine (refAtomic_any es ea ecap w3.heap.size n _ HQ4.out hel HTD.out).mono ?_
  rintro e w5 ⟨rfl, hb5⟩
  have HB5 : Hid (Below w.heap.size w w5) := HBW4.out.trans (hb5.mono HBW4.out.size)
  have HO5 : Hid (w5.ownsRow w1.heap.size 3 1 (.slice ra xs.length rcap) xs.length (intCells xs)) := ((ownsRow_in HO4.out).below hb5).1
  have HQ5 : Hid (w5.ownsRow w3.heap.size 59 6 (.slice ea es.length ecap) es.length (evCells es)) := ((ownsRow_in HQ4.out).below hb5).1
  clear hb5
  by_cases hat : (takeGroups es).2 = []
  ·rw [decide_eq_true hat]
   have hnil : xs = [] := by rw [HXS.out]; exact cycleOf_nil.2 hat
   subst hnil
   clear hat
   go_wp2
   go_ret2
   exact ⟨HB5.out, ra, rcap, [], HANS.out, rfl, ((ownsRow_in HO5.out).mono hs1 (Nat.le_refl _)).1⟩
  ·rw [decide_eq_false hat]
   have HKN : Hid (KnotOk es xs) := by
    show KnotOk es xs
    rw [HXS.out]
    exact cycleOf_knot (fun e => hat (cycleOf_nil.1 e))
   have hxl : xs.length ≤ 4000 := by rw [HXS.out]; have := cycle_len es; omega
   clear hat
   go_wp2_with fail
   refine (refCyclic_true es ea ecap w3.heap.size n xs ra rcap _ HQ5.out hel HTD.out (ints_of_owns HO5.out) hxl HKN.out).mono ?_
   rintro e w6 ⟨rfl, hb6⟩
   go_wp2
   go_ret2
   exact ⟨HB5.out.trans (hb6.mono HB5.out.size), ra, rcap, xs, HANS.out, rfl, (((ownsRow_in HO5.out).below hb6).mono hs1 (Nat.le_refl _)).1⟩

theorem lawArrange_any {w : World} {lo hi b bx bY la lcap : Nat} {p : List (List Pl.POp)} (h : TwoAt w lo hi b bx bY la lcap p) (hs : Tiny p) (hh : hi ≤ w.heap.size) (ms : List Int) (sa : Option Addr) (scap : Nat) (hm : SeqIn w sa ms) (hlen : ms.length ≤ 17592186044416) :
  Calls Tryz.prog 20 #[.pointer (some ⟨b, 0, none⟩), .slice sa ms.length scap] w
   fun e w' => Below w.heap.size w w' ∧ ∃ (ra : Option Addr) (rcap : Nat) (xs : List Int), e = .returned (.tuple #[.slice ra xs.length rcap, .bool true]) ∧ w'.ownsRow w.heap.size 3 1 (.slice ra xs.length rcap) xs.length (intCells xs) ∧ xs.length ≤ 4000 := by
 have H : Hid (TwoAt w lo hi b bx bY la lcap p) := h
 have HM : Hid (SeqIn w sa ms) := hm
 have HT : Hid (Tiny p) := hs
 clear h hm hs
 go_enter Tryz.func20, Tryz.ntmps20
 go_wp2_with fail
 refine (handed_any ms sa scap _ HM.out hlen).mono ?_
 rintro e w1 ⟨g, rfl, hg0, hb1, hn1⟩
 have HB1 : Hid (Below w.heap.size w w1) := hb1
 have HN1 : Hid (HandAt w1 g ms) := hn1
 have H1 : Hid (TwoAt w1 lo hi b bx bY la lcap p) := H.out.below (hb1.mono hh)
 have hs1 := hb1.size
 have c0 := H1.out.c0
 clear hb1 hn1
 go_wp2_with fail
 refine (progArrange_any p lo hi bx ms (some ⟨g, 0, none⟩) _ _ H1.out.px HT.out (by omega) HN1.out.ints (by unfold maxLen; omega)).mono ?_
 rintro e w2 hr2
 have HB2 : Hid (Below w1.heap.size w1 w2) := hr2.1
 obtain ⟨ra, rcap, xs, k, rfl, ho2, hno, hyes⟩ := arrange_form hr2
 have HO2 : Hid (w2.ownsRow w1.heap.size 3 1 (.slice ra xs.length rcap) xs.length (intCells xs)) := ho2
 have HNO : Hid (follow p (beginTo p 4) [] 0 ms = none → xs = [] ∧ k = 4) := hno
 have HYES : Hid (∀ S es, follow p (beginTo p 4) [] 0 ms = some (S, es) → ((takeGroups es).2 ≠ [] ∧ xs = [] ∧ k = 5) ∨ ((takeGroups es).2 = [] ∧ xs = (takeGroups es).1 ∧ k = 0)) := hyes
 have hg1 : g < w1.heap.size := by
  rcases Nat.lt_or_ge g w1.heap.size with h' | h'
  ·exact h'
  ·have := HN1.out; rw [HandAt, Array.getElem?_eq_none h'] at this; cases this
 have HN2 : Hid (HandAt w2 g ms) := (HB2.out.block g hg1).trans HN1.out
 have HBW2 : Hid (Below w.heap.size w w2) := HB1.out.trans (HB2.out.mono hs1)
 clear hr2 ho2 hno hyes c0
 go_wp2_with fail
 refine (still_any ms g sa scap _ HN2.out (HM.out.below HBW2.out) hlen).mono ?_
 rintro e w3 ⟨rfl, hk3⟩
 have HBW3 : Hid (Below w.heap.size w w3) := HBW2.out.trans (hk3.below hg0 hg0 HBW2.out.size)
 have HO3 : Hid (w3.ownsRow w1.heap.size 3 1 (.slice ra xs.length rcap) xs.length (intCells xs)) := ownsRow_of_block HO2.out (fun q hq => hk3.block q (HO2.out.lt q hq).2 (by have := (HO2.out.lt q hq).1; omega) (by have := (HO2.out.lt q hq).1; omega))
 have H3 : Hid (TwoAt w3 lo hi b bx bY la lcap p) := H.out.below (HBW3.out.mono hh)
 have c1 := H3.out.c1
 clear hk3
 go_wp2_with fail
 refine (refPlay_any H3.out.py (Nat.le_trans hh HBW3.out.size) ms sa scap (HM.out.below HBW3.out) (by unfold maxLen; omega)).mono ?_
 rintro e w4 ⟨hb4, he4⟩
 have HB4 : Hid (Below w3.heap.size w3 w4) := hb4
 have HBW4 : Hid (Below w.heap.size w w4) := HBW3.out.trans (hb4.mono HBW3.out.size)
 have HO4 : Hid (w4.ownsRow w1.heap.size 3 1 (.slice ra xs.length rcap) xs.length (intCells xs)) := ((ownsRow_in HO3.out).below hb4).1
 clear hb4 c1
 cases hf : follow p (beginTo p 4) [] 0 ms with
 | none =>
  rw [hf] at he4
  subst he4
  obtain ⟨rfl, rfl⟩ := HNO.out hf
  clear hf
  go_wp2
  go_ret2
  exact ⟨HBW4.out, ra, rcap, [], rfl, ((ownsRow_in HO4.out).mono hs1 (Nat.le_refl _)).1, Nat.zero_le _⟩
 | some x =>
  obtain ⟨S, es⟩ := x
  rw [hf] at he4
  obtain ⟨rb, tb, ea, ecap, rfl, hrr, hok, -, -, ho4⟩ := he4
  have HY2 : Hid (((takeGroups es).2 ≠ [] ∧ xs = [] ∧ k = 5) ∨ ((takeGroups es).2 = [] ∧ xs = (takeGroups es).1 ∧ k = 0)) := HYES.out S es hf
  have HQ4 : Hid (w4.ownsRow w3.heap.size 59 6 (.slice ea es.length ecap) es.length (evCells es)) := ho4
  have hel : es.length ≤ 4000 := by
   obtain ⟨a', cap', hbh, hc', hok'⟩ := H.out.px.ok HT.out hh
   exact follow_short hok' hf
  obtain ⟨n, htold⟩ := follow_tells H.out.py.rows hf
  have HTD : Hid (Told es n) := htold
  clear hf hrr hok ho4 htold
  go_wp2_with fail
  refine (refAtomic_any es ea ecap w3.heap.size n _ HQ4.out hel HTD.out).mono ?_
  rintro e w5 ⟨rfl, hb5⟩
  have HB5 : Hid (Below w.heap.size w w5) := HBW4.out.trans (hb5.mono HBW4.out.size)
  have HO5 : Hid (w5.ownsRow w1.heap.size 3 1 (.slice ra xs.length rcap) xs.length (intCells xs)) := ((ownsRow_in HO4.out).below hb5).1
  have HQ5 : Hid (w5.ownsRow w3.heap.size 59 6 (.slice ea es.length ecap) es.length (evCells es)) := ((ownsRow_in HQ4.out).below hb5).1
  clear hb5
  rcases HY2.out with ⟨hat, rfl, rfl⟩ | ⟨hat, hxs, rfl⟩
  ·rw [decide_eq_false hat]
   clear hat
   go_wp2
   go_ret2
   exact ⟨HB5.out, ra, rcap, [], rfl, ((ownsRow_in HO5.out).mono hs1 (Nat.le_refl _)).1, Nat.zero_le _⟩
  ·rw [decide_eq_true hat]
   have HXS : Hid (xs = (takeGroups es).1) := hxs
   have HA : Hid ((takeGroups es).2 = []) := hat
   have hxl : xs.length ≤ 4000 := by
    rw [hxs]
    have := go_len (es.length + 1) es []
    unfold takeGroups
    simp at this
    omega
   clear hat hxs
   go_wp2_with fail
   refine (refArranged_any es ea ecap w3.heap.size n _ HQ5.out hel HTD.out HA.out).mono ?_
   rintro e w6 ⟨hb6, qa, qcap, rfl, ho6⟩
   rw [← HXS.out] at ho6 ⊢
   have HB6 : Hid (Below w.heap.size w w6) := HB5.out.trans (hb6.mono HB5.out.size)
   have HO6 : Hid (w6.ownsRow w1.heap.size 3 1 (.slice ra xs.length rcap) xs.length (intCells xs)) := ((ownsRow_in HO5.out).below hb6).1
   have HQ6 : Hid (w6.ownsRow w5.heap.size 3 1 (.slice qa xs.length qcap) xs.length (intCells xs)) := ho6
   clear hb6 ho6
   go_wp2_with fail
   refine (lawSame_any xs ra qa rcap qcap _ (ints_of_owns HO6.out).seq (ints_of_owns HQ6.out).seq (by omega)).mono ?_
   rintro e w7 ⟨rfl, hb7⟩
   go_wp2
   go_ret2
   exact ⟨HB6.out.trans (hb7.mono HB6.out.size), ra, rcap, xs, rfl, (((ownsRow_in HO6.out).below hb7).mono hs1 (Nat.le_refl _)).1, hxl⟩

theorem cycAns_len {w : World} {lo hi b bx bY la lcap : Nat} {p : List (List Pl.POp)} (h : TwoAt w lo hi b bx bY la lcap p) (hs : Tiny p) (hh : hi ≤ w.heap.size) (ms : List Int) : (cycAns p ms).length ≤ 4000 := by
 unfold cycAns
 cases hf : follow p (beginTo p 4) [] 0 ms with
 | none => exact Nat.zero_le _
 | some x =>
  obtain ⟨S, es⟩ := x
  obtain ⟨a', cap', hbh, hc', hok'⟩ := h.px.ok hs hh
  have h1 := follow_short hok' hf
  have h2 := cycle_len es
  show (cycleOf es).length ≤ 4000
  omega

theorem events_form {p : List (List Pl.POp)} {ms : List Int} {w w' : World} {e : Ending} (h : EventsSays p ms w e w') : ∃ (ra : Option Addr) (rcap : Nat) (xs : List Ev) (k : Int), e = .returned (.tuple #[.slice ra xs.length rcap, .int .i64 k]) ∧ w'.ownsRow w.heap.size 59 6 (.slice ra xs.length rcap) xs.length (evCells xs) ∧
  (follow p (beginTo p 4) [] 0 ms = none → xs = [] ∧ k = 4) ∧ ∀ S es, follow p (beginTo p 4) [] 0 ms = some (S, es) → xs = es ∧ k = 0 := by
 obtain ⟨h1, h2⟩ := h
 cases hf : follow p (beginTo p 4) [] 0 ms with
 | none =>
  rw [hf] at h2
  exact ⟨none, 0, [], 4, h2, World.ownsRow_nil _ _ _ _, fun _ => ⟨rfl, rfl⟩, fun S es h => by cases h⟩
 | some x =>
  obtain ⟨S, es⟩ := x
  rw [hf] at h2
  obtain ⟨ra, rcap, h3, h4⟩ := h2
  exact ⟨ra, rcap, _, 0, h3, h4, (fun h => by cases h), fun S' es' h => by cases h; exact ⟨rfl, rfl⟩⟩

theorem lawEvents_any {w : World} {lo hi b bx bY la lcap : Nat} {p : List (List Pl.POp)} (h : TwoAt w lo hi b bx bY la lcap p) (hs : Tiny p) (hh : hi ≤ w.heap.size) (ms : List Int) (sa : Option Addr) (scap : Nat) (hm : SeqIn w sa ms) (hlen : ms.length ≤ 17592186044416) :
  Calls Tryz.prog 21 #[.pointer (some ⟨b, 0, none⟩), .slice sa ms.length scap] w
   fun e w' => Below w.heap.size w w' ∧ ∃ (ra : Option Addr) (rcap : Nat) (xs : List Ev), e = .returned (.tuple #[.slice ra xs.length rcap, .bool true]) ∧ w'.ownsRow w.heap.size 59 6 (.slice ra xs.length rcap) xs.length (evCells xs) ∧ xs.length ≤ 4000 := by
 have H : Hid (TwoAt w lo hi b bx bY la lcap p) := h
 have HM : Hid (SeqIn w sa ms) := hm
 have HT : Hid (Tiny p) := hs
 clear h hm hs
 go_enter Tryz.func21, Tryz.ntmps21
 go_wp2_with fail
 refine (handed_any ms sa scap _ HM.out hlen).mono ?_
 rintro e w1 ⟨g, rfl, hg0, hb1, hn1⟩
 have HB1 : Hid (Below w.heap.size w w1) := hb1
 have HN1 : Hid (HandAt w1 g ms) := hn1
 have H1 : Hid (TwoAt w1 lo hi b bx bY la lcap p) := H.out.below (hb1.mono hh)
 have hs1 := hb1.size
 have c0 := H1.out.c0
 clear hb1 hn1
 go_wp2_with fail
 refine (events_any p lo hi bx ms (some ⟨g, 0, none⟩) _ _ H1.out.px HT.out (by omega) HN1.out.ints (by unfold maxLen; omega)).mono ?_
 rintro e w2 hr2
 have HB2 : Hid (Below w1.heap.size w1 w2) := hr2.1
 obtain ⟨ra, rcap, xs, k, rfl, ho2, hno, hyes⟩ := events_form hr2
 have HO2 : Hid (w2.ownsRow w1.heap.size 59 6 (.slice ra xs.length rcap) xs.length (evCells xs)) := ho2
 have HNO : Hid (follow p (beginTo p 4) [] 0 ms = none → xs = [] ∧ k = 4) := hno
 have HYES : Hid (∀ S es, follow p (beginTo p 4) [] 0 ms = some (S, es) → xs = es ∧ k = 0) := hyes
 have hg1 : g < w1.heap.size := by
  rcases Nat.lt_or_ge g w1.heap.size with h' | h'
  ·exact h'
  ·have := HN1.out; rw [HandAt, Array.getElem?_eq_none h'] at this; cases this
 have HN2 : Hid (HandAt w2 g ms) := (HB2.out.block g hg1).trans HN1.out
 have HBW2 : Hid (Below w.heap.size w w2) := HB1.out.trans (HB2.out.mono hs1)
 clear hr2 ho2 hno hyes c0
 go_wp2_with fail
 refine (still_any ms g sa scap _ HN2.out (HM.out.below HBW2.out) hlen).mono ?_
 rintro e w3 ⟨rfl, hk3⟩
 have HBW3 : Hid (Below w.heap.size w w3) := HBW2.out.trans (hk3.below hg0 hg0 HBW2.out.size)
 have HO3 : Hid (w3.ownsRow w1.heap.size 59 6 (.slice ra xs.length rcap) xs.length (evCells xs)) := ownsRow_of_block HO2.out (fun q hq => hk3.block q (HO2.out.lt q hq).2 (by have := (HO2.out.lt q hq).1; omega) (by have := (HO2.out.lt q hq).1; omega))
 have H3 : Hid (TwoAt w3 lo hi b bx bY la lcap p) := H.out.below (HBW3.out.mono hh)
 have c1 := H3.out.c1
 clear hk3
 go_wp2_with fail
 refine (refPlay_any H3.out.py (Nat.le_trans hh HBW3.out.size) ms sa scap (HM.out.below HBW3.out) (by unfold maxLen; omega)).mono ?_
 rintro e w4 ⟨hb4, he4⟩
 have HB4 : Hid (Below w3.heap.size w3 w4) := hb4
 have HBW4 : Hid (Below w.heap.size w w4) := HBW3.out.trans (hb4.mono HBW3.out.size)
 have HO4 : Hid (w4.ownsRow w1.heap.size 59 6 (.slice ra xs.length rcap) xs.length (evCells xs)) := ((ownsRow_in HO3.out).below hb4).1
 clear hb4 c1
 cases hf : follow p (beginTo p 4) [] 0 ms with
 | none =>
  rw [hf] at he4
  subst he4
  obtain ⟨rfl, rfl⟩ := HNO.out hf
  clear hf
  go_wp2
  go_ret2
  exact ⟨HBW4.out, ra, rcap, [], rfl, ((ownsRow_in HO4.out).mono hs1 (Nat.le_refl _)).1, Nat.zero_le _⟩
 | some x =>
  obtain ⟨S, es⟩ := x
  rw [hf] at he4
  obtain ⟨rb, tb, ea, ecap, rfl, hrr, hok, -, -, ho4⟩ := he4
  obtain ⟨rfl, rfl⟩ := HYES.out S es hf
  have HQ4 : Hid (w4.ownsRow w3.heap.size 59 6 (.slice ea xs.length ecap) xs.length (evCells xs)) := ho4
  have hel : xs.length ≤ 4000 := by
   obtain ⟨a', cap', hbh, hc', hok'⟩ := H.out.px.ok HT.out hh
   exact follow_short hok' hf
  clear hf hrr hok ho4
  go_wp2_with fail
  go_loopw [13, 14] (fun v13 t' wr => ∃ i : Nat, i ≤ xs.length ∧ v13 = .bool true ∧ t' = .int .i64 (i : Int) ∧ Hid (Below w4.heap.size w4 wr)) (fun _ t' _ => xs.length - (intOf t').toNat)
  case atStart => exact ⟨0, Nat.zero_le _, rfl, rfl, (show Hid _ from Below.refl _ _)⟩
  case round =>
   obtain ⟨i, hi', rfl, rfl, H1⟩ := hrel
   by_cases hlt : i < xs.length
   ·have hlt' : (i : Int) < (xs.length : Int) := by omega
    obtain ⟨x0, x1, x2, x3, x4, x5⟩ := evCells_at xs i xs[i] (by simp [hlt])
    obtain ⟨g1, rfl, -, hq1, -, -, hcell1, -⟩ := owns_cells ((ownsRow_in HO4.out).below H1.out).1 (by omega)
    obtain ⟨g2, rfl, -, hq2, -, -, hcell2, -⟩ := owns_cells ((ownsRow_in HQ4.out).below H1.out).1 (by omega)
    have a0 := hcell1 _ _ x0
    have a1 := hcell1 _ _ x1
    have a2 := hcell1 _ _ x2
    have a3 := hcell1 _ _ x3
    have a4 := hcell1 _ _ x4
    have a5 := hcell1 _ _ x5
    have b0 := hcell2 _ _ x0
    have b1 := hcell2 _ _ x1
    have b2 := hcell2 _ _ x2
    have b3 := hcell2 _ _ x3
    have b4 := hcell2 _ _ x4
    have b5 := hcell2 _ _ x5
    clear hcell1 hcell2 x0 x1 x2 x3 x4 x5
    generalize xs[i] = ev at *
    go_upto_region 11 with fail
    go_quiet (fail)
    go_wp2
    go_roundw
    case rel => exact ⟨i + 1, by omega, rfl, by go_num, (show Hid _ from below_drewN H1.out _)⟩
    case measure => simp [intOf]; omega
   ·have hlt' : ¬ (i : Int) < (xs.length : Int) := by omega
    go_wp2
    go_ret2
    exact ⟨HBW4.out.trans (H1.out.mono HBW4.out.size), ra, rcap, _, rfl, (((ownsRow_in HO4.out).below H1.out).mono hs1 (Nat.le_refl _)).1, by omega⟩

end Go.Proofs.YtfdafcnfefbcbabGreat
