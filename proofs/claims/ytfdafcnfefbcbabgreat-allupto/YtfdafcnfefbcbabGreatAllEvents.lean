/-
 Package interleavelaw: the contract of World.takeEvents.
-/
import Derived.Test.YtfdafcnfefbcbabGreatAlw
namespace Go.Proofs.YtfdafcnfefbcbabGreat
open Go.RowKit
set_option linter.unusedVariables false
set_option maxRecDepth 100000
set_option maxHeartbeats 8000000

theorem Tryz.info55 : (Tryz.prog.info? 55).map (fun i => (i.zero, i.size, i.bytes)) = some (some (.agg #[.slice none 0 0, .int .i64 0]), 2, 32) := by kernel_rfl

theorem takeEvents_any {w : World} {wb : Nat} {D : Nat → Prop} {nl : Nat} {n : Nat → Nat} {cs : Nat → List Value} {rw : Nat → Rw} (h : WRows wty wsz w wb D nl n cs rw) (xs : List Ev) (la : Option Addr) (lcap base : Nat) (hl : w.ownsRow base 59 6 (.slice la xs.length lcap) xs.length (evCells xs)) (hb : base ≤ w.heap.size)
  (hq : ∀ q, ownOf la = some q → ¬ D q ∧ q ≠ wb ∧ ∀ i, i < 5 → ownOf (rw i).a ≠ some q) (hx : xs.length ≤ 1000000000) (hn : n 3 ≤ 1000000000) (hnl : nl ≤ 1000000000) :
  Calls Tryz.prog 22 #[.pointer (some ⟨wb, 0, none⟩), .slice la xs.length lcap] w fun e w' => e = .returned (.tuple #[]) ∧ ∃ (W : World) (D1 : Nat → Prop), Fr (fun q => q = wb) w W ∧ (∀ q, D q → D1 q) ∧ (∀ q, D1 q → D q ∨ q = w.heap.size) ∧ WRows wty wsz W wb D1 (nl + 1) n cs rw ∧ ∃ la' lcap' recs rw' NB, recs.length = 4 ∧ TkAt wty wsz 3 6 59 (mkE ((nl : Int) + 1)) ((nl : Int) + 1) W w' wb D1 (nl + 1) n cs rw la base (xs.length + 3) la' lcap' recs rw' NB := by
 have H : Hid (WRows wty wsz w wb D nl n cs rw) := h
 have HL : Hid (w.ownsRow base 59 6 (.slice la xs.length lcap) xs.length (evCells xs)) := hl
 have HQ : Hid (∀ q, ownOf la = some q → ¬ D q ∧ q ≠ wb ∧ ∀ i, i < 5 → ownOf (rw i).a ≠ some q) := hq
 have c2 := h.cnt
 have cf := h.fz
 have hwl := h.lt
 clear h hl hq
 obtain ⟨i0, hi0, hz0, hz1, hz2⟩ := info_parts Tryz.info59
 obtain ⟨i1, hi1, hy0, hy1, hy2⟩ := info_parts Tryz.info55
 go_enter Tryz.func22, Tryz.ntmps22
 go_upto_region 2 with fail
 have HR0 : Hid (WRows wty wsz (w.setCell ⟨wb, 2, none⟩ (.int .i64 ((nl : Int) + 1))) wb D (nl + 1) n cs rw) := by
  have := H.out.count (nl + 1)
  rw [show ((nl + 1 : Nat) : Int) = (nl : Int) + 1 by omega] at this
  exact this
 have HRW : Hid (∀ i, i < 5 → ∀ q, ownOf (rw i).a = some q → q < w.heap.size) := fun i hi q e => (H.out.row hi e).2
 have HR1 : Hid (WRows wty wsz ((w.setCell ⟨wb, 2, none⟩ (.int .i64 ((nl : Int) + 1))).alloc (.cells #[.int .i64 (-77), .int .u8 0, .int .u8 0, .int .i16 0, .int .i64 0, .int .i64 ((nl : Int) + 1)] 59)) wb (fun q => D q ∨ q = w.heap.size) (nl + 1) n cs rw) := HR0.out.of (Below.heap_alloc _ _ _ (by rw [World.size_setCell]; exact hwl)) (fun i hi q e => Below.heap_alloc _ _ _ (by rw [World.size_setCell]; exact HRW.out i hi q e)) (by simp) (fun q hd => by
   rcases hd with hd | hd
   · have := HR0.out.clear hd
     exact ⟨by simp at this ⊢; omega, this.2⟩
   · rw [hd]
     exact ⟨by simp, by omega, fun i hi e => by have := HRW.out i hi _ e; omega⟩)
 have HL1 : Hid (((w.setCell ⟨wb, 2, none⟩ (.int .i64 ((nl : Int) + 1))).alloc (.cells #[.int .i64 (-77), .int .u8 0, .int .u8 0, .int .i16 0, .int .i64 0, .int .i64 ((nl : Int) + 1)] 59)).ownsRow base 59 6 (.slice la xs.length lcap) xs.length (evCells xs)) := (ownsRow_of_block HL.out (fun q hq => heap_far _ _ _ _ (HQ.out q (by rw [← own_of]; exact hq)).2.1)).alloc _
 have HF1 : Hid (Fr (fun q => q = wb) w ((w.setCell ⟨wb, 2, none⟩ (.int .i64 ((nl : Int) + 1))).alloc (.cells #[.int .i64 (-77), .int .u8 0, .int .u8 0, .int .i16 0, .int .i64 0, .int .i64 ((nl : Int) + 1)] 59))) := (Fr.set (O := fun q => q = wb) w wb 2 _ rfl).trans (Fr.of ((Below.refl _ _).alloc (Nat.le_refl _) _)) (fun k _ hP => ⟨hP, hP⟩)
 have HX1 : Hid (∀ j v, (mkE ((nl : Int) + 1))[j]? = some v → ((w.setCell ⟨wb, 2, none⟩ (.int .i64 ((nl : Int) + 1))).alloc (.cells #[.int .i64 (-77), .int .u8 0, .int .u8 0, .int .i16 0, .int .i64 0, .int .i64 ((nl : Int) + 1)] 59)).cell? ⟨w.heap.size, j, none⟩ = some v) := fun j v hv => by
  rw [cell_of_row _ w.heap.size j #[.int .i64 (-77), .int .u8 0, .int .u8 0, .int .i16 0, .int .i64 0, .int .i64 ((nl : Int) + 1)] 59 (0, 0) (by have := heap_alloc_new (w.setCell ⟨wb, 2, none⟩ (.int .i64 ((nl : Int) + 1))) (.cells #[.int .i64 (-77), .int .u8 0, .int .u8 0, .int .i16 0, .int .i64 0, .int .i64 ((nl : Int) + 1)] 59); rw [World.size_setCell] at this; exact this)]
  show ((mkE ((nl : Int) + 1)).toArray)[j]? = some v
  simpa using hv
 have HZ1 : Hid (((w.setCell ⟨wb, 2, none⟩ (.int .i64 ((nl : Int) + 1))).alloc (.cells #[.int .i64 (-77), .int .u8 0, .int .u8 0, .int .i16 0, .int .i64 0, .int .i64 ((nl : Int) + 1)] 59)).heap.size = w.heap.size + 1) := by show _ = _; simp
 generalize (w.setCell ⟨wb, 2, none⟩ (.int .i64 ((nl : Int) + 1))).alloc (.cells #[.int .i64 (-77), .int .u8 0, .int .u8 0, .int .i16 0, .int .i64 0, .int .i64 ((nl : Int) + 1)] 59) = W at *
 clear c2 cf HR0
 have hxc : (evCells xs).length = xs.length * 6 := HL.out.1
 have hlq : ∀ q, ownOf la = some q → q < w.heap.size := fun q e => (HL.out.lt q (by rw [own_of]; exact e)).2
 have HLQ : Hid _ := hlq
 have hzw := HZ1.out
 have HQ1 : Hid (∀ q, ownOf la = some q → ¬ (D q ∨ q = w.heap.size) ∧ q ≠ wb ∧ ∀ i, i < 5 → ownOf (rw i).a ≠ some q) := fun q e => ⟨fun hd => by rcases hd with hd | hd; exact (HQ.out q e).1 hd; (have := HLQ.out q e; omega), (HQ.out q e).2⟩
 clear hlq HL HQ H
 go_wp2_with fail
 go_loopw [5] (fun v wr => ∃ i : Nat, i ≤ xs.length ∧ v = .int .i64 (i : Int) ∧ Hid (WRows wty wsz wr wb (fun q => D q ∨ q = w.heap.size) (nl + 1) n cs rw ∧ wr.ownsRow base 59 6 (.slice la xs.length lcap) xs.length (rep (mkE ((nl : Int) + 1)) i ++ (evCells xs).drop (i * 6)) ∧ Fr (fun q => q = wb ∨ ownOf (rw 3).a = some q ∨ ownOf la = some q) W wr)) (fun v _ => xs.length - (intOf v).toNat)
 case atStart => exact ⟨0, Nat.zero_le _, rfl, (show Hid _ from ⟨HR1.out, by simpa [rep] using HL1.out, Fr.refl _ _⟩)⟩
 case round =>
  obtain ⟨i, hi, rfl, H1⟩ := hrel
  clear HL1
  have hxb : wr.heap[w.heap.size]? = W.heap[w.heap.size]? := H1.out.2.2.block _ (by omega) (fun hO => by
    rcases hO with e | e | e
    · omega
    · have := HRW.out 3 (by omega) _ e; omega
    · have := HLQ.out _ e; omega)
  have hxv : ∀ j v, (mkE ((nl : Int) + 1))[j]? = some v → wr.cell? ⟨w.heap.size, j, none⟩ = some v := fun j v hv => (World.cell?_of_block (w := W) (a := ⟨w.heap.size, j, none⟩) hxb).trans (HX1.out j v hv)
  by_cases hil : i < xs.length
  ·have hil' : (i : Int) < (xs.length : Int) := by omega
   obtain ⟨g, rfl, hg0, hg1, -, -, hcell, hfz⟩ := owns_cells H1.out.2.1 (by omega)
   have hgw : g ≠ w.heap.size := by have := HLQ.out g rfl; omega
   have hex : ∀ j, j < 6 → ∃ u, wr.cell? ⟨g, i * 6 + j, none⟩ = some u := fun j hj => by
    have hlt : i * 6 + j < (rep (mkE ((nl : Int) + 1)) i ++ (evCells xs).drop (i * 6)).length := by rw [H1.out.2.1.1]; omega
    exact ⟨_, hcell _ _ (List.getElem?_eq_getElem hlt)⟩
   have HTH : Hid (wr.there g (i * 6) ((mkE ((nl : Int) + 1)).toArray).size) := fun j hj => by
    obtain ⟨u, hu⟩ := hex j hj
    exact ⟨by rw [hu]; rfl, hfz _⟩
   have hr : wr.rangeAt w.heap.size 0 (mkE ((nl : Int) + 1)) := fun j v hv => by rw [Nat.zero_add]; exact hxv j v hv
   have HG : Hid _ := HQ1.out g rfl
   have HN : Hid (WRows wty wsz (wr.setCells g (i * 6) (mkE ((nl : Int) + 1))) wb (fun q => D q ∨ q = w.heap.size) (nl + 1) n cs rw) := H1.out.1.of (heap_cells _ _ _ _ _ (fun e => HG.out.2.1 e.symm)) (fun j hj q hq => heap_cells _ _ _ _ _ (fun e => HG.out.2.2 j hj (by rw [hq]; exact congrArg some e))) (by rw [size_cells]; exact Nat.le_refl _) (fun q hq => by rw [size_cells]; exact H1.out.1.clear hq)
   have HO : Hid ((wr.setCells g (i * 6) (mkE ((nl : Int) + 1))).ownsRow base 59 6 (.slice (some ⟨g, 0, none⟩) xs.length lcap) xs.length (rep (mkE ((nl : Int) + 1)) (i + 1) ++ (evCells xs).drop ((i + 1) * 6))) := by
    have := owns_sets (mkE ((nl : Int) + 1)) wr _ (i * 6) H1.out.2.1 (by show i * 6 + 6 ≤ _; omega)
    have e := set_reps (mc := (mkE ((nl : Int) + 1))) (ys := evCells xs) (i := i) (by show (i + 1) * 6 ≤ _; omega)
    rw [show ((mkE ((nl : Int) + 1)) : List Value).length = 6 from rfl] at e
    rw [e] at this
    exact this
   have HF : Hid (Fr (fun q => q = wb ∨ ownOf (rw 3).a = some q ∨ ownOf (some (⟨g, 0, none⟩ : Addr)) = some q) W (wr.setCells g (i * 6) (mkE ((nl : Int) + 1)))) := H1.out.2.2.trans (Fr.sets (O := fun q => q = g) wr g _ _ rfl) (fun k hk hP => ⟨hP, fun e => hP (.inr (.inr (by rw [e]; rfl)))⟩)
   clear hcell H1 hex hxv hxb
   go_upto_region 4 with (first | refine wpList_load_mid rfl 59 _ rfl w.heap.size 0 rfl (mkE ((nl : Int) + 1)) _ hr Tryz.underlying59 rfl Tryz.size59 ?_ | refine wpList_store_mid rfl 59 _ _ rfl g (i * 6) (mkE ((nl : Int) + 1)).toArray rfl rfl (by exact HTH.out) Tryz.size59 (by simp [mkE, Value.oneCell']) ?_)
   go_wp2
   go_roundw
   case rel => exact ⟨i + 1, by omega, by go_num, (show Hid _ from ⟨HN.out, HO.out, HF.out⟩)⟩
   case measure => simp [intOf]; omega
  ·have hil' : ¬ (i : Int) < (xs.length : Int) := by omega
   have e : i = xs.length := by omega
   subst e
   have hO : wr.ownsRow base 59 6 (.slice la xs.length lcap) xs.length (rep (mkE ((nl : Int) + 1)) xs.length) := by
    have := H1.out.2.1
    rw [List.drop_eq_nil_of_le (by omega), List.append_nil] at this
    exact this
   have HT : Hid (TkAt wty wsz 3 6 59 (mkE ((nl : Int) + 1)) ((nl : Int) + 1) W wr wb (fun q => D q ∨ q = w.heap.size) (nl + 1) n cs rw la base xs.length la lcap [] rw (fun q => ownOf la = some q)) := TkAt.start H1.out.1 hO HQ1.out (by omega) rfl (by omega) H1.out.2.2
   clear H1 hO hxv hxb
   obtain ⟨N, cc, hN, hcc, c3, ho3, cf, hwl', hne⟩ := HT.out.row
   have cn := HT.out.rows.cnt
   rw [show ((nl + 1 : Nat) : Int) = (nl : Int) + 1 by omega] at cn
   have hN' : N ≤ 1000000000 := by rw [← hN]; exact hn
   have HNN : Hid _ := hN
   have HCC : Hid _ := hcc
   have HO3 : Hid (wr.ownsRow (wb + 1) 55 2 (.slice (rw 3).a N (rw 3).cap) N cc) := ho3
   have c3' : wr.cell? ⟨wb, 4, none⟩ = some (.slice (rw 3).a N (rw 3).cap) := c3
   clear c3 ho3 hN hcc
   go_upto_region 6 with fail
   go_region_law
    ((refine step_append_lies _ (by rfl) _ _ _ (by rfl) (wb + 1) 55 i1 _ 2 32 Tryz.underlying27 hi1 hy0 hy1 hy2 rfl (by omega) (.slice (rw 3).a N (rw 3).cap) N cc (by rfl) ((HO3.out.alloc _).drew) ⟨wr.heap.size, 0, none⟩ 1 1 [.slice la xs.length lcap, .int .i64 ((nl : Int) + 1)] (by rfl) (by rfl) (World.news_of_block (cs := #[.slice la xs.length lcap, .int .i64 ((nl : Int) + 1)]) (t := 55) (fr := (0, 0)) (heap_alloc_new wr _)) (by simp [Value.oneCell']) (by omega) (by unfold maxLen; omega) (by omega) (by simp; omega) (wr.heap.size + 1) (by simp) ?_; intro gg cap1 w5 hown hgrow hat hlt5
      have k3 := grow_cell hgrow c3' hne
      have kf := grow_frozen (a := ⟨wb, 4, none⟩) hgrow hwl' (cf 4) hne))
   all_goals
    have HT1 : Hid (TkAt wty wsz 3 6 59 (mkE ((nl : Int) + 1)) ((nl : Int) + 1) W (w5.setCell ⟨wb, 4, none⟩ (.slice (some ⟨gg, 0, none⟩) (N + 1) cap1)) wb (fun q => D q ∨ q = w.heap.size) (nl + 1) n cs rw la base xs.length la lcap ([] ++ [(.slice la xs.length lcap, ((nl : Int) + 1))]) (upd rw 3 ⟨some ⟨gg, 0, none⟩, cap1⟩) (fun q => ownOf la = some q)) := HT.out.told HNN.out HCC.out (.cells #[.slice la xs.length lcap, .int .i64 ((nl : Int) + 1)] 55) ⟨hgrow.os, hgrow.tape, hgrow.output, hgrow.size, hgrow.block⟩ hown hat
    generalize w5.setCell ⟨wb, 4, none⟩ (.slice (some ⟨gg, 0, none⟩) (N + 1) cap1) = V at *
    clear k3 kf hown hgrow hat HO3 c3' cf hwl' hne HT HNN HCC cn
    go_wp2_with fail
    go_loopw [6, 7] (fun v6 v7 wr => ∃ (k : Nat) (la' : Option Addr) (lcap' : Nat) (recs : List Rec) (rw' : Nat → Rw) (NB : Nat → Prop), k ≤ 3 ∧ v6 = .slice la' (xs.length + k) lcap' ∧ v7 = .int .i64 (k : Int) ∧ recs.length = k + 1 ∧ Hid (TkAt wty wsz 3 6 59 (mkE ((nl : Int) + 1)) ((nl : Int) + 1) W wr wb (fun q => D q ∨ q = w.heap.size) (nl + 1) n cs rw la base (xs.length + k) la' lcap' recs rw' NB)) (fun _ v7 _ => 3 - (intOf v7).toNat)
    case atStart => exact ⟨0, la, lcap, _, _, _, by omega, rfl, rfl, rfl, (show Hid _ from HT1.out)⟩
    case round =>
     clear HT1
     obtain ⟨k, la', lcap', recs, rw', NB, hk, rfl, rfl, hrl, HT⟩ := hrel
     by_cases hk3 : k < 3
     ·have hk3' : (k : Int) < 3 := by omega
      have HOW : Hid (wr.ownsRow base 59 6 (.slice la' (xs.length + k) lcap') (xs.length + k) (rep (mkE ((nl : Int) + 1)) (xs.length + k))) := HT.out.own
      have hbz : base ≤ wr.heap.size := by have h1 := HT.out.fr.size; omega
      have hxb : wr.heap[w.heap.size]? = W.heap[w.heap.size]? := ((HT.out.keep HR1.out (fun q e => (HQ1.out q e).1)).1 w.heap.size (.inr rfl)).2
      have hxv : ∀ j v, (mkE ((nl : Int) + 1))[j]? = some v → wr.cell? ⟨w.heap.size, j, none⟩ = some v := fun j v hv => (World.cell?_of_block (w := W) (a := ⟨w.heap.size, j, none⟩) hxb).trans (HX1.out j v hv)
      have x0 := hxv 0 _ rfl
      have x1 := hxv 1 _ rfl
      have x2 := hxv 2 _ rfl
      have x3 := hxv 3 _ rfl
      have x4 := hxv 4 _ rfl
      have x5 := hxv 5 _ rfl
      clear hxv hxb
      go_upto_region 12 with (first | (refine wpList_append_two _ rfl _ _ _ rfl base 59 i0 _ 6 32 Tryz.underlying53 hi0 hz0 hz1 hz2 rfl (by omega) (.slice la' (xs.length + k) lcap') (xs.length + k) (rep (mkE ((nl : Int) + 1)) (xs.length + k)) rfl (HOW.out.alloc _) ⟨wr.heap.size, 0, none⟩ 1 1 [.int .i64 (-77), .int .u8 0, .int .u8 0, .int .i16 0, .int .i64 0, .int .i64 ((nl : Int) + 1)] rfl rfl (World.news_of_block (cs := #[.int .i64 (-77), .int .u8 0, .int .u8 0, .int .i16 0, .int .i64 0, .int .i64 ((nl : Int) + 1)]) (t := 59) (fr := (0, 0)) (heap_alloc_new wr _)) (by simp [Value.oneCell']) (by omega) (by unfold maxLen; omega) (by omega) (by simp; omega) (wr.heap.size + 1) (by simp) ?_; intro gg2 cap2 w6 hown hgrow hat hlt5))
      have HT2 : Hid (TkAt wty wsz 3 6 59 (mkE ((nl : Int) + 1)) ((nl : Int) + 1) W w6 wb (fun q => D q ∨ q = w.heap.size) (nl + 1) n cs rw la base (xs.length + k + 1) (some ⟨gg2, 0, none⟩) cap2 recs rw' (fun q => NB q ∨ q = gg2)) := HT.out.more (.cells #[.int .i64 (-77), .int .u8 0, .int .u8 0, .int .i16 0, .int .i64 0, .int .i64 ((nl : Int) + 1)] 59) (by rw [← own_of la' (xs.length + k) lcap']; exact hgrow) hown (by rw [← own_of la' (xs.length + k) lcap']; exact hat) (by omega)
      clear hown hgrow hat HOW HT x0 x1 x2 x3 x4 x5
      obtain ⟨N2, cc2, hN, hcc, c3, ho3, cf, hwl', hne⟩ := HT2.out.row
      have cn := HT2.out.rows.cnt
      rw [show ((nl + 1 : Nat) : Int) = (nl : Int) + 1 by omega] at cn
      have hN2' : N2 ≤ 1000000004 := by rw [← hN]; omega
      have HNN : Hid _ := hN
      have HCC : Hid _ := hcc
      have HO3 : Hid (w6.ownsRow (wb + 1) 55 2 (.slice (rw' 3).a N2 (rw' 3).cap) N2 cc2) := ho3
      have c3' : w6.cell? ⟨wb, 4, none⟩ = some (.slice (rw' 3).a N2 (rw' 3).cap) := c3
      clear c3 ho3 hN hcc
      go_region_law
       ((refine step_append_lies _ (by rfl) _ _ _ (by rfl) (wb + 1) 55 i1 _ 2 32 Tryz.underlying27 hi1 hy0 hy1 hy2 rfl (by omega) (.slice (rw' 3).a N2 (rw' 3).cap) N2 cc2 (by rfl) ((HO3.out.alloc _).drew) ⟨w6.heap.size, 0, none⟩ 1 1 [.slice (some ⟨gg2, 0, none⟩) (xs.length + k + 1) cap2, .int .i64 ((nl : Int) + 1)] (by rfl) (by rfl) (World.news_of_block (cs := #[.slice (some ⟨gg2, 0, none⟩) (xs.length + k + 1) cap2, .int .i64 ((nl : Int) + 1)]) (t := 55) (fr := (0, 0)) (heap_alloc_new w6 _)) (by simp [Value.oneCell']) (by omega) (by unfold maxLen; omega) (by omega) (by simp; omega) (w6.heap.size + 1) (by simp) ?_; intro gh cap3 w7 hown hgrow hat hlt6
         have k3 := grow_cell hgrow c3' hne
         have kf := grow_frozen (a := ⟨wb, 4, none⟩) hgrow hwl' (cf 4) hne))
      all_goals
       have HT3 : Hid (TkAt wty wsz 3 6 59 (mkE ((nl : Int) + 1)) ((nl : Int) + 1) W (w7.setCell ⟨wb, 4, none⟩ (.slice (some ⟨gh, 0, none⟩) (N2 + 1) cap3)) wb (fun q => D q ∨ q = w.heap.size) (nl + 1) n cs rw la base (xs.length + k + 1) (some ⟨gg2, 0, none⟩) cap2 (recs ++ [(.slice (some ⟨gg2, 0, none⟩) (xs.length + k + 1) cap2, ((nl : Int) + 1))]) (upd rw' 3 ⟨some ⟨gh, 0, none⟩, cap3⟩) (fun q => NB q ∨ q = gg2)) := HT2.out.told HNN.out HCC.out (.cells #[.slice (some ⟨gg2, 0, none⟩) (xs.length + k + 1) cap2, .int .i64 ((nl : Int) + 1)] 55) ⟨hgrow.os, hgrow.tape, hgrow.output, hgrow.size, hgrow.block⟩ hown hat
       generalize w7.setCell ⟨wb, 4, none⟩ (.slice (some ⟨gh, 0, none⟩) (N2 + 1) cap3) = V2 at *
       clear k3 kf hown hgrow hat HO3 c3' cf hwl' hne HT2 HNN HCC cn
       go_wp2
       go_roundw
       case rel => exact ⟨k + 1, some ⟨gg2, 0, none⟩, cap2, _, _, _, by omega, rfl, by go_num, by simp [hrl], (show Hid _ from HT3.out)⟩
       case measure => simp [intOf]; omega
     ·have hk3' : ¬ (k : Int) < 3 := by omega
      obtain rfl : k = 3 := by omega
      go_wp2
      go_end0
      exact ⟨rfl, W, HF1.out, (fun q => D q ∨ q = w.heap.size), fun q hd => .inl hd, fun q hd => hd, HR1.out, la', lcap', recs, hrl, rw', NB, HT.out⟩

end Go.Proofs.YtfdafcnfefbcbabGreat
