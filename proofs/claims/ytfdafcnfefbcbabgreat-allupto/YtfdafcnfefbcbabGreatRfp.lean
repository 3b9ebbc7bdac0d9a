/-
 Several texts of ours in one: RefFirst, RefAtom, RefArr, RefCyc.
-/
import Derived.Test.YtfdafcnfefbcbabGreatRfo
import Derived.Test.YtfdafcnfefbcbabGreatRefMatrix
/-
 The contract of the reference's first.
-/
namespace Go.Proofs.YtfdafcnfefbcbabGreat
open Go.RowKit
set_option linter.unusedVariables false
set_option maxRecDepth 100000
set_option maxHeartbeats 4000000

/-- A row of truths in memory: which groups are gone. -/
structure GoneRow (w : World) (gb n : Nat) (G : Nat → Bool) : Prop where
 cell : ∀ g, g < n → w.cell? ⟨gb, g, none⟩ = some (.bool (G g))
 fz : ∀ j, w.frozen? ⟨gb, j, none⟩ = false
 hi : gb < w.heap.size

theorem GoneRow.below {w w' : World} {B gb n : Nat} {G : Nat → Bool} (h : GoneRow w gb n G) (hb : Below B w w') (hB : gb < B) : GoneRow w' gb n G :=
 ⟨fun g hg => (hb.cell (p := ⟨gb, g, none⟩) hB).trans (h.cell g hg), fun j => (hb.frozen (p := ⟨gb, j, none⟩) hB).trans (h.fz j), Nat.lt_of_lt_of_le h.hi hb.size⟩

theorem GoneRow.put {w : World} {gb n : Nat} {G : Nat → Bool} (h : GoneRow w gb n G) {g : Nat} (hg : g < n) : GoneRow (w.setCell ⟨gb, g, none⟩ (.bool true)) gb n (setG G g) := by
 refine ⟨fun a ha => ?_, fun j => by rw [World.frozen?_setCell]; exact h.fz j, by rw [World.size_setCell]; exact h.hi⟩
 unfold setG
 by_cases e : a = g
 ·subst e
  rw [if_pos rfl]
  exact World.cell?_setCell_same _ _ _ (h.cell a ha)
 ·rw [if_neg e]
  exact (World.cell?_setCell_other _ _ _ _ (fun x => e (by simpa using (congrArg Addr.off x).symm))).trans (h.cell a ha)

theorem GoneRow.made {w w1 : World} {n : Nat} {base : Nat} {t0 : TypeId} (ho : w1.ownsRow base t0 1 (.slice (some ⟨w.heap.size, 0, none⟩) n n) n (madeCells (Value.bool false).cells (n * 1)).toList) : GoneRow w1 w.heap.size n (fun _ => false) := by
 refine ⟨fun g hg => ?_, fun j => ho.frozenAt j, (ho.lt w.heap.size rfl).2⟩
 rw [ho.cellAt _ (by omega)]
 have e : (Value.bool false).cells = #[.bool false] := by kernel_rfl
 rw [e, toList_madeCells_one]
 simp [hg]

/-- Is a group free, as far as the groups below h tell? -/
def freeTo (G : Nat → Bool) (M : Nat → Nat → Bool) (g : Nat) : Nat → Bool
 | 0 => !(G g)
 | h + 1 => freeTo G M g h && (G h || !(M h g))

theorem freeTo_iff (G : Nat → Bool) (M : Nat → Nat → Bool) (g : Nat) : ∀ n, freeTo G M g n = true ↔ FreeAt n G M g
 | 0 => by
  unfold freeTo FreeAt
  constructor
  ·intro h; exact ⟨by simpa using h, fun h hh => by omega⟩
  ·intro h; simpa using h.1
 | n + 1 => by
  unfold freeTo
  rw [Bool.and_eq_true, freeTo_iff G M g n]
  unfold FreeAt
  constructor
  ·rintro ⟨⟨h1, h2⟩, h3⟩
   refine ⟨h1, fun h hh => ?_⟩
   by_cases e : h = n
   ·subst e; simpa using h3
   ·exact h2 h (by omega)
  ·rintro ⟨h1, h2⟩
   refine ⟨⟨h1, fun h hh => h2 h (by omega)⟩, ?_⟩
   have := h2 n (by omega)
   simpa using this

theorem refFirst_any (es : List Ev) (a : Option Addr) (cap lo n B mb gb : Nat) (R : Nat → Nat) (M : Nat → Nat → Bool) (G : Nat → Bool) (w : World) (h : w.ownsRow lo 59 6 (.slice a es.length cap) es.length (evCells es)) (hl : es.length ≤ 4000) (hn : n ≤ 4000) (hm : MatAt w B mb n R M n) (hg : GoneRow w gb n G) :
  Calls Tryz.prog 63 #[.slice a es.length cap, .slice (some ⟨mb, 0, none⟩) n n, .slice (some ⟨gb, 0, none⟩) n n] w fun e w' => ∃ best : Int, e = .returned (.int .i64 best) ∧ BestAt (FreeAt n G M) (fun g => grpThread (g : Int) es) n best ∧ Below w.heap.size w w' := by
 have HO : Hid (w.ownsRow lo 59 6 (.slice a es.length cap) es.length (evCells es)) := h
 have HM : Hid (MatAt w B mb n R M n) := hm
 have HG : Hid (GoneRow w gb n G) := hg
 clear h hm hg
 go_enter Tryz.func63, Tryz.ntmps63
 go_wp2_with fail
 go_loopw [7, 8] (fun v7 t' wr => ∃ (g : Nat) (best : Int), g ≤ n ∧ v7 = .int .i64 best ∧ t' = .int .i64 (g : Int) ∧ Hid (BestAt (FreeAt n G M) (fun g => grpThread (g : Int) es) g best ∧ Below w.heap.size w wr)) (fun _ t' _ => n - (intOf t').toNat)
 case atStart => exact ⟨0, -1, Nat.zero_le _, rfl, rfl, (show Hid _ from ⟨BestAt.zero _ _, Below.refl _ _⟩)⟩
 case round =>
  obtain ⟨g, best, hg', rfl, rfl, H1⟩ := hrel
  by_cases hlt : g < n
  ·have hlt' : (g : Int) < (n : Int) := by omega
   have c0 := (H1.out.2.cell (p := ⟨gb, g, none⟩) HG.out.hi).trans (HG.out.cell g hlt)
   go_wp2_with fail
   go_loopw [9, 10] (fun v9 t' wr => ∃ (h : Nat), h ≤ n ∧ v9 = .bool (freeTo G M g h) ∧ t' = .int .i64 (h : Int) ∧ Hid (Below w.heap.size w wr)) (fun _ t' _ => n - (intOf t').toNat)
   case atStart => exact ⟨0, Nat.zero_le _, rfl, rfl, (show Hid _ from H1.out.2)⟩
   case round =>
    obtain ⟨h, hh, rfl, rfl, H2⟩ := hrel
    clear c0
    by_cases hhl : h < n
    ·have hhl' : (h : Int) < (n : Int) := by omega
     have d0 := (H2.out.cell (p := ⟨gb, h, none⟩) HG.out.hi).trans (HG.out.cell h hhl)
     have d1 := (H2.out.cell (p := ⟨mb, h, none⟩) HM.out.hi.1).trans (HM.out.row h hhl)
     have d2 := (H2.out.cell (p := ⟨R h, g, none⟩) (HM.out.hi.2 h hhl)).trans (HM.out.cell h g hhl hlt)
     have HS : Hid (freeTo G M g (h + 1) = (freeTo G M g h && (G h || !(M h g)))) := rfl
     cases hf : freeTo G M g h
     ·rw [hf] at HS
      clear hf d0 d1 d2
      go_wp2
      go_roundw
      case rel => exact ⟨h + 1, by omega, by rw [HS.out]; rfl, by go_num, (show Hid _ from H2.out)⟩
      case measure => simp [intOf]; omega
     ·rw [hf] at HS
      clear hf
      cases hGh : G h
      ·rw [hGh] at HS d0
       clear hGh
       cases hMh : M h g
       ·rw [hMh] at HS d2
        clear hMh
        go_wp2
        go_roundw
        case rel => exact ⟨h + 1, by omega, by rw [HS.out]; rfl, by go_num, (show Hid _ from H2.out)⟩
        case measure => simp [intOf]; omega
       ·rw [hMh] at HS d2
        clear hMh
        go_wp2
        go_roundw
        case rel => exact ⟨h + 1, by omega, by rw [HS.out]; rfl, by go_num, (show Hid _ from H2.out)⟩
        case measure => simp [intOf]; omega
      ·rw [hGh] at HS d0
       clear hGh d1 d2
       go_wp2
       go_roundw
       case rel => exact ⟨h + 1, by omega, by rw [HS.out]; rfl, by go_num, (show Hid _ from H2.out)⟩
       case measure => simp [intOf]; omega
    ·have e : h = n := by omega
     subst e
     have hhl' : ¬ (h : Int) < (h : Int) := by omega
     cases hf : freeTo G M g h
     ·have HB : Hid (BestAt (FreeAt h G M) (fun g => grpThread (g : Int) es) (g + 1) best) := H1.out.1.not (fun hF => by rw [(freeTo_iff G M g h).2 hF] at hf; cases hf)
      clear hf
      go_wp2
      go_roundw
      case rel => exact ⟨g + 1, best, by omega, rfl, by go_num, (show Hid _ from ⟨HB.out, H2.out⟩)⟩
      case measure => simp [intOf]; omega
     ·have HF : Hid (FreeAt h G M g) := (freeTo_iff G M g h).1 hf
      clear hf
      by_cases hb0 : best < 0
      ·have HB : Hid (BestAt (FreeAt h G M) (fun g => grpThread (g : Int) es) (g + 1) (g : Int)) := H1.out.1.fresh hb0 HF.out
       go_wp2
       go_roundw
       case rel => exact ⟨g + 1, (g : Int), by omega, rfl, by go_num, (show Hid _ from ⟨HB.out, H2.out⟩)⟩
       case measure => simp [intOf]; omega
      ·obtain ⟨b, rfl, hbg, -⟩ := H1.out.1.lt hb0
       have HO2 : Hid (wr.ownsRow lo 59 6 (.slice a es.length cap) es.length (evCells es)) := ((ownsRow_in HO.out).below H2.out).1
       go_wp2_with fail
       refine (refThread_any es a cap lo (g : Int) _ HO2.out hl).mono ?_
       rintro e w3 ⟨rfl, hb3⟩
       have HB3 : Hid (Below w.heap.size w w3) := H2.out.trans (hb3.mono H2.out.size)
       have HO3 : Hid (w3.ownsRow lo 59 6 (.slice a es.length cap) es.length (evCells es)) := ((ownsRow_in HO2.out).below hb3).1
       clear hb3
       go_wp2_with fail
       refine (refThread_any es a cap lo (b : Int) _ HO3.out hl).mono ?_
       rintro e w4 ⟨rfl, hb4⟩
       have HB4 : Hid (Below w.heap.size w w4) := HB3.out.trans (hb4.mono HB3.out.size)
       clear hb4
       by_cases ht : grpThread (g : Int) es < grpThread (b : Int) es
       ·have HB : Hid (BestAt (FreeAt h G M) (fun g => grpThread (g : Int) es) (g + 1) (g : Int)) := H1.out.1.better HF.out ht
        generalize grpThread (g : Int) es = tg at ht
        generalize grpThread (b : Int) es = tb at ht
        go_wp2
        go_roundw
        case rel => exact ⟨g + 1, (g : Int), by omega, rfl, by go_num, (show Hid _ from ⟨HB.out, HB4.out⟩)⟩
        case measure => simp [intOf]; omega
       ·have HB : Hid (BestAt (FreeAt h G M) (fun g => grpThread (g : Int) es) (g + 1) (b : Int)) := H1.out.1.worse ht
        generalize grpThread (g : Int) es = tg at ht
        generalize grpThread (b : Int) es = tb at ht
        go_wp2
        go_roundw
        case rel => exact ⟨g + 1, (b : Int), by omega, rfl, by go_num, (show Hid _ from ⟨HB.out, HB4.out⟩)⟩
        case measure => simp [intOf]; omega
  ·have e : g = n := by omega
   subst e
   have hlt' : ¬ (g : Int) < (g : Int) := by omega
   go_wp2
   go_ret
   exact ⟨best, rfl, H1.out.1, H1.out.2⟩

theorem refAtomic_any (es : List Ev) (a : Option Addr) (cap lo n : Nat) (w : World) (h : w.ownsRow lo 59 6 (.slice a es.length cap) es.length (evCells es)) (hl : es.length ≤ 4000) (ht : Told es n) :
  Calls Tryz.prog 41 #[.slice a es.length cap] w fun e w' => e = .returned (.bool (decide ((takeGroups es).2 = []))) ∧ Below w.heap.size w w' := by
 have HO : Hid (w.ownsRow lo 59 6 (.slice a es.length cap) es.length (evCells es)) := h
 have HT : Hid (Told es n) := ht
 have hn : n ≤ 4000 := Nat.le_trans ht.grp.le hl
 clear h ht
 obtain ⟨i0, hi0, hz0, hz1, hz2⟩ := info_parts Tryz.info4
 go_enter Tryz.func41, Tryz.ntmps41
 go_wp2_with fail
 refine (refMatrix_any es a cap lo n _ HO.out hl HT.out.kind HT.out.grp).mono ?_
 rintro e w1 ⟨hb1, mb, R, M, rfl, hmat, his⟩
 have HM1 : Hid (MatAt w1 w.heap.size mb n R M n) := hmat
 have HI : Hid (∀ a b : Nat, a < n → b < n → (M a b = true ↔ AheadEv es (a : Int) (b : Int))) := fun a b ha hb => (his a b ha hb).trans (ahTo_all es a b)
 have HO1 : Hid (w1.ownsRow lo 59 6 (.slice a es.length cap) es.length (evCells es)) := ((ownsRow_in HO.out).below hb1).1
 have HB1 : Hid (Below w.heap.size w w1) := hb1
 have hs1 := hb1.size
 clear hmat his hb1
 go_upto_region 3 with (first | (refine wpList_make_full w1 rfl _ _ _ rfl w.heap.size 4 i0 _ 1 Tryz.underlying151 hi0 hz0 hz1 .i64 .i64 _ _ n rfl rfl rfl rfl (by rw [hz2]; omega) (by unfold maxLen; omega) hs1 ?_; intro w2 hown hgrow))
 have HG0 : Hid (GoneRow w2 w1.heap.size n (fun _ => false)) := GoneRow.made hown
 have HB2 : Hid (Below w1.heap.size w1 w2) := Below.grown (Below.refl _ _) hgrow (Nat.le_refl _) (fun _ h => by cases h)
 clear hown hgrow
 go_wp2_with fail
 go_loopw [5] (fun t' wr => ∃ (k : Nat) (G : Nat → Bool) (t : List Int), k ≤ n ∧ t' = .int .i64 (k : Int) ∧ Hid (Lock es n G t k ∧ GoneRow wr w1.heap.size n G ∧ Below w1.heap.size w1 wr)) (fun t' _ => n - (intOf t').toNat)
 case atStart => exact ⟨0, _, _, Nat.zero_le _, rfl, (show Hid _ from ⟨Lock.start es n, HG0.out, HB2.out⟩)⟩
 case round =>
  obtain ⟨k, G, t, hk, rfl, H1⟩ := hrel
  clear HG0 HB2
  by_cases hlt : k < n
  ·have hlt' : (k : Int) < (n : Int) := by omega
   have HMr : Hid (MatAt wr w.heap.size mb n R M n) := HM1.out.below H1.out.2.2
   have HOr : Hid (wr.ownsRow lo 59 6 (.slice a es.length cap) es.length (evCells es)) := ((ownsRow_in HO1.out).below H1.out.2.2).1
   go_wp2_with fail
   refine (refFirst_any es a cap lo n w.heap.size mb w1.heap.size R M G _ HOr.out hl hn HMr.out H1.out.2.1).mono ?_
   rintro e w3 ⟨best, rfl, hbest, hb3⟩
   have HG3 : Hid (GoneRow w3 w1.heap.size n G) := H1.out.2.1.below hb3 H1.out.2.1.hi
   have HB3 : Hid (Below w1.heap.size w1 w3) := H1.out.2.2.trans (hb3.mono H1.out.2.2.size)
   clear hb3
   rcases best_next HT.out HI.out hbest with ⟨rfl, hno⟩ | ⟨b, y, rfl, hbn, hGb, hy, hyb⟩
   ·have HR : Hid (decide ((takeGroups es).2 = []) = false) := by
     show _ = _
     rw [decide_eq_false_iff_not]
     exact H1.out.1.left HT.out.grp hlt hno
    clear hbest hno
    go_wp2
    go_ret
    exact ⟨ret_bool HR.out.symm, HB1.out.trans (HB3.out.mono hs1)⟩
   ·have HL : Hid (Lock es n (setG G b) (t ++ takenOf es (b : Int)) (k + 1)) := H1.out.1.next HT.out.grp hbn hGb hy hyb
    have HP : Hid (GoneRow (w3.setCell ⟨w1.heap.size, b, none⟩ (.bool true)) w1.heap.size n (setG G b)) := HG3.out.put hbn
    have HBP : Hid (Below w1.heap.size w1 (w3.setCell ⟨w1.heap.size, b, none⟩ (.bool true))) := HB3.out.setCell (Nat.le_refl _) _
    have c0 := HG3.out.cell b hbn
    have f0 := HG3.out.fz
    have hbn' : (b : Int) < (n : Int) := by omega
    have hb0 : ¬ (b : Int) < 0 := by omega
    clear hbest hGb hy hyb HG3
    go_wp2
    go_roundw
    case rel => exact ⟨k + 1, _, _, by omega, by go_num, (show Hid _ from ⟨HL.out, HP.out, HBP.out⟩)⟩
    case measure => simp [intOf]; omega
  ·have e : k = n := by omega
   subst e
   have hlt' : ¬ (k : Int) < (k : Int) := by omega
   have HR : Hid (decide ((takeGroups es).2 = []) = true) := by
    show _ = _
    rw [decide_eq_true_iff, H1.out.1.done HT.out.grp]
   go_wp2
   go_ret
   exact ⟨ret_bool HR.out.symm, HB1.out.trans (H1.out.2.2.mono hs1)⟩

theorem heap_far (w : World) (a : Addr) (v : Value) (x : Nat) (h : x ≠ a.block) : (w.setCell a v).heap[x]? = w.heap[x]? := by
 simp only [World.setCell, Array.getElem?_modify]
 rw [if_neg (fun e => h e.symm)]

theorem taken_next (es : List Ev) (g : Int) {i : Nat} (hi : i < es.length) : takenOf (es.take (i + 1)) g = if es[i].group = g then takenOf (es.take i) g ++ [es[i].thread] else takenOf (es.take i) g := by
 unfold takenOf
 rw [List.take_succ_eq_append_getElem hi, List.filter_append, List.map_append]
 by_cases h : es[i].group = g
 ·rw [if_pos h]
  simp [h]
 ·rw [if_neg h]
  simp [h]

theorem taken_le (es : List Ev) (g : Int) : (takenOf es g).length ≤ es.length := by
 unfold takenOf
 rw [List.length_map]
 exact List.length_filter_le _ _

theorem go_len : ∀ (k : Nat) (l : List Ev) (t : List Int), (takeGo k l t).1.length ≤ l.length + t.length
 | 0, l, t => by show t.length ≤ _; omega
 | k + 1, l, t => by
  unfold takeGo
  cases hn : nextFree l with
  | none => show t.length ≤ _; omega
  | some nx =>
   have h1 := go_len k (leftOf l nx.group) (t ++ takenOf l nx.group)
   have h2 : (leftOf l nx.group).length + (takenOf l nx.group).length = l.length := by
    unfold leftOf takenOf
    rw [List.length_map]
    have : ∀ l : List Ev, (l.filter fun e => !(e.group == nx.group)).length + (l.filter fun e => e.group == nx.group).length = l.length := fun l => by
     induction l with
     | nil => rfl
     | cons e r ih => by_cases h : e.group = nx.group <;> simp [h] <;> omega
    exact this l
   rw [List.length_append] at h1
   show (takeGo k _ _).1.length ≤ _
   omega

theorem go_pre : ∀ (k : Nat) (l : List Ev) (t : List Int), t.length ≤ (takeGo k l t).1.length
 | 0, l, t => Nat.le_refl _
 | k + 1, l, t => by
  unfold takeGo
  cases hn : nextFree l with
  | none => exact Nat.le_refl _
  | some nx =>
   have h1 := go_pre k (leftOf l nx.group) (t ++ takenOf l nx.group)
   rw [List.length_append] at h1
   show _ ≤ (takeGo k _ _).1.length
   omega

theorem Lock.len {es : List Ev} {n : Nat} {G : Nat → Bool} {t : List Int} {k : Nat} (h : Lock es n G t k) : t.length ≤ es.length := by
 obtain ⟨⟨K, h1, h2⟩, h3⟩ := h
 have h4 := go_pre K (stay (goneI G) es) t
 rw [h2] at h4
 have := go_len (es.length + 1) es []
 unfold takeGroups at h4
 simp at this
 omega

/-- What Arranged rests on. -/
structure ArAt (w w1 w2 wr : World) (n : Nat) (G : Nat → Bool) (t : List Int) (ra : Option Addr) (rcap : Nat) : Prop where
 own : wr.ownsRow w2.heap.size 3 1 (.slice ra t.length rcap) t.length (intCells t)
 gone : GoneRow wr w1.heap.size n G
 bl : Below w1.heap.size w1 wr

theorem ArAt.call {w w1 w2 wr w3 : World} {n : Nat} {G : Nat → Bool} {t : List Int} {ra : Option Addr} {rcap : Nat} (h : ArAt w w1 w2 wr n G t ra rcap) (hb : Below wr.heap.size wr w3) : ArAt w w1 w2 w3 n G t ra rcap :=
 ⟨((ownsRow_in h.own).below hb).1, h.gone.below hb h.gone.hi, h.bl.trans (hb.mono h.bl.size)⟩

theorem refArranged_any (es : List Ev) (a : Option Addr) (cap lo n : Nat) (w : World) (h : w.ownsRow lo 59 6 (.slice a es.length cap) es.length (evCells es)) (hl : es.length ≤ 4000) (ht : Told es n) (hat : (takeGroups es).2 = []) :
  Calls Tryz.prog 44 #[.slice a es.length cap] w fun e w' => Below w.heap.size w w' ∧ ∃ ra rcap, e = .returned (.slice ra (takeGroups es).1.length rcap) ∧ w'.ownsRow w.heap.size 3 1 (.slice ra (takeGroups es).1.length rcap) (takeGroups es).1.length (intCells (takeGroups es).1) := by
 have HO : Hid (w.ownsRow lo 59 6 (.slice a es.length cap) es.length (evCells es)) := h
 have HT : Hid (Told es n) := ht
 have HA : Hid ((takeGroups es).2 = []) := hat
 have hn : n ≤ 4000 := Nat.le_trans ht.grp.le hl
 clear h ht hat
 obtain ⟨i0, hi0, hz0, hz1, hz2⟩ := info_parts Tryz.info4
 obtain ⟨i1, hi1, hy0, hy1, hy2⟩ := info_parts Tryz.info3
 go_enter Tryz.func44, Tryz.ntmps44
 go_wp2_with fail
 refine (refMatrix_any es a cap lo n _ HO.out hl HT.out.kind HT.out.grp).mono ?_
 rintro e w1 ⟨hb1, mb, R, M, rfl, hmat, his⟩
 have HM1 : Hid (MatAt w1 w.heap.size mb n R M n) := hmat
 have HI : Hid (∀ a b : Nat, a < n → b < n → (M a b = true ↔ AheadEv es (a : Int) (b : Int))) := fun a b ha hb => (his a b ha hb).trans (ahTo_all es a b)
 have HO1 : Hid (w1.ownsRow lo 59 6 (.slice a es.length cap) es.length (evCells es)) := ((ownsRow_in HO.out).below hb1).1
 have HB1 : Hid (Below w.heap.size w w1) := hb1
 have hs1 := hb1.size
 clear hmat his hb1
 go_upto_region 4 with (first | (refine wpList_make_full w1 rfl _ _ _ rfl w.heap.size 4 i0 _ 1 Tryz.underlying151 hi0 hz0 hz1 .i64 .i64 _ _ n rfl rfl rfl rfl (by rw [hz2]; omega) (by unfold maxLen; omega) hs1 ?_; intro w2 hown hgrow))
 have HG0 : Hid (GoneRow w2 w1.heap.size n (fun _ => false)) := GoneRow.made hown
 have HB2 : Hid (Below w1.heap.size w1 w2) := Below.grown (Below.refl _ _) hgrow (Nat.le_refl _) (fun _ h => by cases h)
 have hg2 : w1.heap.size < w2.heap.size := HG0.out.hi
 clear hown hgrow
 go_wp2_with fail
 go_loopw [3, 6] (fun v3 t' wr => ∃ (k : Nat) (G : Nat → Bool) (t : List Int) (ra : Option Addr) (rcap : Nat), k ≤ n ∧ w2.heap.size ≤ wr.heap.size ∧ v3 = .slice ra t.length rcap ∧ t' = .int .i64 (k : Int) ∧ Hid (Lock es n G t k ∧ ArAt w w1 w2 wr n G t ra rcap)) (fun _ t' _ => n - (intOf t').toNat)
 case atStart => exact ⟨0, _, [], none, 0, Nat.zero_le _, Nat.le_refl _, rfl, rfl, (show Hid _ from ⟨Lock.start es n, World.ownsRow_nil _ _ _ _, HG0.out, HB2.out⟩)⟩
 case round =>
  obtain ⟨k, G, t, ra, rcap, hk, hw2, rfl, rfl, H1⟩ := hrel
  clear HG0 HB2
  by_cases hlt : k < n
  ·have hlt' : (k : Int) < (n : Int) := by omega
   have HMr : Hid (MatAt wr w.heap.size mb n R M n) := HM1.out.below H1.out.2.bl
   have HOr : Hid (wr.ownsRow lo 59 6 (.slice a es.length cap) es.length (evCells es)) := ((ownsRow_in HO1.out).below H1.out.2.bl).1
   go_wp2_with fail
   refine (refFirst_any es a cap lo n w.heap.size mb w1.heap.size R M G _ HOr.out hl hn HMr.out H1.out.2.gone).mono ?_
   rintro e w3 ⟨best, rfl, hbest, hb3⟩
   have HR3 : Hid (ArAt w w1 w2 w3 n G t ra rcap) := H1.out.2.call hb3
   have hw3 : w2.heap.size ≤ w3.heap.size := Nat.le_trans hw2 hb3.size
   clear hb3 HMr HOr
   rcases best_next HT.out HI.out hbest with ⟨rfl, hno⟩ | ⟨b, y, rfl, hbn, hGb, hy, hyb⟩
   ·exact absurd hno (H1.out.1.some HT.out.grp hlt HA.out)
   ·have HL : Hid (Lock es n (setG G b) (t ++ takenOf es (b : Int)) (k + 1)) := H1.out.1.next HT.out.grp hbn hGb hy hyb
    have hbn' : (b : Int) < (n : Int) := by omega
    have htl := H1.out.1.len
    clear hbest hGb hy hyb H1
    go_wp2_with fail
    go_loopw [3, 8] (fun v3 t' wr => ∃ (i : Nat) (ra : Option Addr) (rcap : Nat), i ≤ es.length ∧ w2.heap.size ≤ wr.heap.size ∧ v3 = .slice ra (t ++ takenOf (es.take i) (b : Int)).length rcap ∧ t' = .int .i64 (i : Int) ∧ Hid (ArAt w w1 w2 wr n G (t ++ takenOf (es.take i) (b : Int)) ra rcap)) (fun _ t' _ => es.length - (intOf t').toNat)
    case atStart => exact ⟨0, ra, rcap, Nat.zero_le _, hw3, by rw [List.take_zero]; show _ = Value.slice ra (t ++ []).length rcap; rw [List.append_nil], rfl, (show Hid _ from by rw [List.take_zero]; show ArAt w w1 w2 w3 n G (t ++ []) ra rcap; rw [List.append_nil]; exact HR3.out)⟩
    case round =>
     obtain ⟨i, ra, rcap, hi, hwr, rfl, rfl, H2⟩ := hrel
     clear HR3 hw3
     by_cases hil : i < es.length
     ·have hil' : (i : Int) < (es.length : Int) := by omega
      obtain ⟨x0, x1, x2, x3, x4, x5⟩ := evCells_at es i es[i] (by simp [hil])
      obtain ⟨gb, rfl, -, hg1, -, -, hcell, -⟩ := owns_cells HO1.out (by omega)
      have c0 := (H2.out.bl.cell (p := ⟨gb, i * 6, none⟩) hg1).trans (hcell _ _ x0)
      have c5 := (H2.out.bl.cell (p := ⟨gb, i * 6 + 5, none⟩) hg1).trans (hcell _ _ x5)
      have HTN : Hid (takenOf (es.take (i + 1)) (b : Int) = if es[i].group = (b : Int) then takenOf (es.take i) (b : Int) ++ [es[i].thread] else takenOf (es.take i) (b : Int)) := taken_next es (b : Int) hil
      have htk := taken_le (es.take i) (b : Int)
      rw [List.length_take] at htk
      clear hcell x0 x1 x2 x3 x4 x5
      generalize es[i] = ev at *
      by_cases hc : ev.group = (b : Int)
      ·have hc' : (ev.group == (b : Int)) = true := by simpa using hc
       have HS : Hid (t ++ takenOf (es.take (i + 1)) (b : Int) = (t ++ takenOf (es.take i) (b : Int)) ++ [ev.thread]) := by show _ = _; rw [HTN.out, if_pos hc, List.append_assoc]
       have hul : (t ++ takenOf (es.take i) (b : Int)).length ≤ 8000 := by rw [List.length_append]; omega
       have HOW : Hid (wr.ownsRow w2.heap.size 3 1 (.slice ra (t ++ takenOf (es.take i) (b : Int)).length rcap) (t ++ takenOf (es.take i) (b : Int)).length (intCells (t ++ takenOf (es.take i) (b : Int)))) := H2.out.own
       have HGR : Hid (GoneRow wr w1.heap.size n G) := H2.out.gone
       have HBR : Hid (Below w1.heap.size w1 wr) := H2.out.bl
       clear HTN hc H2
       generalize t ++ takenOf (es.take i) (b : Int) = u at *
       go_wp2_with (first | (refine wpList_append_lies _ rfl _ _ _ rfl w2.heap.size 3 i1 _ 1 8 Tryz.underlying31 hi1 hy0 hy1 hy2 rfl (by omega) (.slice ra u.length rcap) u.length (intCells u) rfl (HOW.out.alloc _) ⟨wr.heap.size, 0, none⟩ 1 1 [Value.int .i64 ev.thread] rfl rfl (World.news_of_block (cs := #[Value.int .i64 ev.thread]) (t := 3) (fr := (0, 0)) (heap_alloc_new wr _)) (by simp [Value.oneCell']) (by omega) (by unfold maxLen; omega) (by omega) (by simp; omega) (wr.heap.size + 1) (by simp) ?_; intro gg cap1 w5 hown hgrow hat hlt5))
       have HB5 : Hid (Below w2.heap.size wr w5) := Below.grown ((Below.refl w2.heap.size wr).alloc (by omega) _) hgrow (by simp; omega) (fun x hx => (HOW.out.lt x hx).1)
       have hz5 := HB5.out.size
       go_roundw
       case rel => exact ⟨i + 1, some ⟨gg, 0, none⟩, cap1, by omega, by omega, by rw [HS.out]; simp, by go_num, (show Hid _ from ⟨by rw [HS.out]; simpa [intCells] using hown, HGR.out.below HB5.out hg2, HBR.out.trans (HB5.out.mono (by omega))⟩)⟩
       case measure => simp [intOf]; omega
      ·have hc' : (ev.group == (b : Int)) = false := by simpa using hc
       have HS : Hid (takenOf (es.take (i + 1)) (b : Int) = takenOf (es.take i) (b : Int)) := by show _ = _; rw [HTN.out, if_neg hc]
       clear HTN hc
       go_wp2
       go_roundw
       case rel => exact ⟨i + 1, ra, rcap, by omega, hwr, by rw [HS.out], by go_num, (show Hid _ from by rw [HS.out]; exact H2.out)⟩
       case measure => simp [intOf]; omega
     ·have e : i = es.length := by omega
      have hil' : ¬ (i : Int) < (es.length : Int) := by omega
      rw [e, List.take_length] at H2 ⊢
      have HP : Hid (GoneRow (wr.setCell ⟨w1.heap.size, b, none⟩ (.bool true)) w1.heap.size n (setG G b)) := H2.out.gone.put hbn
      have HBP : Hid (Below w1.heap.size w1 (wr.setCell ⟨w1.heap.size, b, none⟩ (.bool true))) := H2.out.bl.setCell (Nat.le_refl _) _
      have HOP : Hid ((wr.setCell ⟨w1.heap.size, b, none⟩ (.bool true)).ownsRow w2.heap.size 3 1 (.slice ra (t ++ takenOf es (b : Int)).length rcap) (t ++ takenOf es (b : Int)).length (intCells (t ++ takenOf es (b : Int)))) := ownsRow_of_block H2.out.own (fun q hq => heap_far _ _ _ _ (by have := (H2.out.own.lt q hq).1; show q ≠ w1.heap.size; omega))
      have c0 := H2.out.gone.cell b hbn
      have f0 := H2.out.gone.fz
      have hb0 : ¬ (b : Int) < 0 := by omega
      clear H2
      go_wp2
      go_roundw
      case rel => exact ⟨k + 1, _, _, ra, rcap, by omega, by rw [World.size_setCell]; exact hwr, rfl, by go_num, (show Hid _ from ⟨HL.out, HOP.out, HP.out, HBP.out⟩)⟩
      case measure => simp [intOf]; omega
  ·have e : k = n := by omega
   subst e
   have hlt' : ¬ (k : Int) < (k : Int) := by omega
   have HD : Hid (takeGroups es = (t, [])) := H1.out.1.done HT.out.grp
   go_wp2
   go_ret
   rw [HD.out]
   exact ⟨HB1.out.trans (H1.out.2.bl.mono hs1), ra, rcap, rfl, ((ownsRow_in H1.out.2.own).mono (by omega) (Nat.le_refl _)).1⟩

theorem KnotOk.in_ {es : List Ev} {c : List Int} {n : Nat} (h : KnotOk es c) (hg : Grp es n) {i : Nat} (hi : i < c.length) : 0 ≤ c[i] ∧ c[i] < (n : Int) := by
 have hk : (i + 1) % c.length < c.length := Nat.mod_lt _ (by omega)
 obtain ⟨a, b, hs, h1, -⟩ := h.ahead i _ _ (List.getElem?_eq_getElem hi) (List.getElem?_eq_getElem hk)
 rw [← h1]
 exact hg.in_ a (hs.subset (by simp))

theorem refCyclic_true (es : List Ev) (a : Option Addr) (cap lo n : Nat) (c : List Int) (ca : Option Addr) (ccap : Nat) (w : World) (h : w.ownsRow lo 59 6 (.slice a es.length cap) es.length (evCells es)) (hl : es.length ≤ 4000) (ht : Told es n) (hc : IntsIn w ca c) (hcl : c.length ≤ 4000) (hK : KnotOk es c) :
  Calls Tryz.prog 42 #[.slice a es.length cap, .slice ca c.length ccap] w fun e w' => e = .returned (.bool true) ∧ Below w.heap.size w w' := by
 have HO : Hid (w.ownsRow lo 59 6 (.slice a es.length cap) es.length (evCells es)) := h
 have HT : Hid (Told es n) := ht
 have HC : Hid (IntsIn w ca c) := hc
 have HK : Hid (KnotOk es c) := hK
 have htwo : (1 : Int) < (c.length : Int) := by have := hK.two; omega
 have hn : n ≤ 4000 := Nat.le_trans ht.grp.le hl
 clear h ht hc hK
 go_enter Tryz.func42, Tryz.ntmps42
 go_wp2_with fail
 refine (refMatrix_any es a cap lo n _ HO.out hl HT.out.kind HT.out.grp).mono ?_
 rintro e w1 ⟨hb1, mb, R, M, rfl, hmat, his⟩
 have HM1 : Hid (MatAt w1 w.heap.size mb n R M n) := hmat
 have HI : Hid (∀ a b : Nat, a < n → b < n → (M a b = true ↔ AheadEv es (a : Int) (b : Int))) := fun a b ha hb => (his a b ha hb).trans (ahTo_all es a b)
 have HB1 : Hid (Below w.heap.size w w1) := hb1
 have HC1 : Hid (IntsIn w1 ca c) := IntsIn.below HC.out hb1
 have hs1 := hb1.size
 clear hmat his hb1
 go_wp2_with fail
 go_loopw [6] (fun t' wr => ∃ i : Nat, i ≤ c.length ∧ t' = .int .i64 (i : Int) ∧ Hid (Below w1.heap.size w1 wr)) (fun t' _ => c.length - (intOf t').toNat)
 case atStart => exact ⟨0, Nat.zero_le _, rfl, (show Hid _ from Below.refl _ _)⟩
 case round =>
  obtain ⟨i, hi, rfl, H1⟩ := hrel
  by_cases hlt : i < c.length
  ·have hlt' : (i : Int) < (c.length : Int) := by omega
   have HCI := HC1.out
   obtain ⟨gb, rfl, hg, hcc⟩ := HC1.out (by omega)
   clear HCI
   have c0 := (H1.out.cell (p := ⟨gb, i, none⟩) hg).trans (hcc i c[i] (List.getElem?_eq_getElem hlt))
   have hin := HK.out.in_ HT.out.grp hlt
   have HND : Hid (∀ j (hj : j < i), (c[j] == c[i]) = false) := fun j hj => by
    rw [beq_eq_false_iff_ne]
    intro e
    have := nodup_idx HK.out.nd (by omega) hlt e
    omega
   have HCC : Hid (∀ (j : Nat) (x : Int), c[j]? = some x → w1.cell? ⟨gb, j, none⟩ = some (.int .i64 x)) := hcc
   clear hcc
   generalize c[i] = x at *
   have hx0 : ¬ x < 0 := by omega
   have hx1 : ¬ x ≥ (n : Int) := by omega
   go_wp2_with fail
   go_loopw [7] (fun t' wr => ∃ j : Nat, j ≤ i ∧ t' = .int .i64 (j : Int) ∧ Hid (Below w1.heap.size w1 wr)) (fun t' _ => i - (intOf t').toNat)
   case atStart => exact ⟨0, Nat.zero_le _, rfl, (show Hid _ from H1.out)⟩
   case round =>
    obtain ⟨j, hj, rfl, H2⟩ := hrel
    by_cases hji : j < i
    ·have d0 := (H1.out.cell (p := ⟨gb, i, none⟩) hg).symm.trans c0
     have e0 := (H2.out.cell (p := ⟨gb, i, none⟩) hg).trans d0
     have e1 := (H2.out.cell (p := ⟨gb, j, none⟩) hg).trans (HCC.out j c[j] (List.getElem?_eq_getElem (by omega)))
     have hne := HND.out j hji
     clear c0 d0
     generalize c[j] = y at *
     have hji' : (j : Int) < (i : Int) := by omega
     have hjl' : (j : Int) < (c.length : Int) := by omega
     go_wp2_with fail
     go_quiet (fail)
     go_wp2
     go_roundw
     case rel => exact ⟨j + 1, by omega, by go_num, (show Hid _ from below_drewN H2.out _)⟩
     case measure => simp [intOf]; omega
    ·have hji' : ¬ (j : Int) < (i : Int) := by omega
     clear c0
     go_wp2
     go_roundw
     case rel => exact ⟨i + 1, by omega, by go_num, (show Hid _ from H2.out)⟩
     case measure => simp [intOf]; omega
  ·have hlt' : ¬ (i : Int) < (c.length : Int) := by omega
   have HB2 : Hid (Below w1.heap.size w1 wr) := H1.out
   clear H1
   go_wp2_with fail
   go_loopw [8] (fun t' wr => ∃ i : Nat, i ≤ c.length ∧ t' = .int .i64 (i : Int) ∧ Hid (Below w1.heap.size w1 wr)) (fun t' _ => c.length - (intOf t').toNat)
   case atStart => exact ⟨0, Nat.zero_le _, rfl, HB2⟩
   case round =>
    clear HB2 hlt hlt' hi
    obtain ⟨i, hi, rfl, H1⟩ := hrel
    by_cases hlt : i < c.length
    ·have hlt' : (i : Int) < (c.length : Int) := by omega
     have hk : (i + 1) % c.length < c.length := Nat.mod_lt _ (by omega)
     obtain ⟨gb, rfl, hg, hcc⟩ := HC1.out (by omega)
     have hmod : ((i : Int) + 1).tmod (c.length : Int) = (((i + 1) % c.length : Nat) : Int) := by
      rw [show ((i : Int) + 1) = ((i + 1 : Nat) : Int) by omega]; rfl
     have c0 := (H1.out.cell (p := ⟨gb, i, none⟩) hg).trans (hcc i c[i] (List.getElem?_eq_getElem hlt))
     have c1 := (H1.out.cell (p := ⟨gb, (i + 1) % c.length, none⟩) hg).trans (hcc _ _ (List.getElem?_eq_getElem hk))
     have hx := HK.out.in_ HT.out.grp hlt
     have hy := HK.out.in_ HT.out.grp hk
     have hA : AheadEv es c[i] c[(i + 1) % c.length] := HK.out.ahead i _ _ (List.getElem?_eq_getElem hlt) (List.getElem?_eq_getElem hk)
     clear hcc
     generalize c[(i + 1) % c.length] = y at *
     generalize c[i] = x at *
     generalize hkk : (i + 1) % c.length = k at *
     clear hkk
     obtain ⟨xn, rfl⟩ : ∃ a : Nat, x = (a : Int) := ⟨x.toNat, by omega⟩
     obtain ⟨yn, rfl⟩ : ∃ a : Nat, y = (a : Int) := ⟨y.toNat, by omega⟩
     have hxn : xn < n := by omega
     have hyn : yn < n := by omega
     have d1 := (H1.out.cell (p := ⟨mb, xn, none⟩) HM1.out.hi.1).trans (HM1.out.row xn hxn)
     have d2 := (H1.out.cell (p := ⟨R xn, yn, none⟩) (HM1.out.hi.2 xn hxn)).trans (HM1.out.cell xn yn hxn hyn)
     rw [(HI.out xn yn hxn hyn).2 hA] at d2
     have hxn' : (xn : Int) < (n : Int) := by omega
     have hyn' : (yn : Int) < (n : Int) := by omega
     have hk' : (k : Int) < (c.length : Int) := by omega
     have hcz : ((c.length : Int) == 0) = false := by rw [beq_eq_false_iff_ne]; omega
     have hcn : c ≠ [] := by intro e; rw [e] at htwo; simp at htwo
     clear hA hx hy
     go_wp2_with fail
     go_quiet (fail)
     go_wp2
     go_roundw
     case rel => exact ⟨i + 1, by omega, by go_num, (show Hid _ from below_drewN H1.out _)⟩
     case measure => simp [intOf]; omega
    ·have hlt' : ¬ (i : Int) < (c.length : Int) := by omega
     have htwo' : (c.length : Int) ≥ 2 := by omega
     go_wp2
     go_ret
     exact ⟨rfl, HB1.out.trans (H1.out.mono hs1)⟩

end Go.Proofs.YtfdafcnfefbcbabGreat
