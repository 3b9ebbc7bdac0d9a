/-
 Package interleavelaw: the contract of World.takeInts.
-/
import Derived.Test.YtfdafcnfefbcbabGreatAlp
namespace Go.Proofs.YtfdafcnfefbcbabGreat
open Go.RowKit
set_option linter.unusedVariables false
set_option maxRecDepth 100000
set_option maxHeartbeats 4000000

/-- The types of the World's rows, and how many cells one of them has. -/
def wty : Nat → Nat
 | 0 => 39
 | 1 => 89
 | 2 => 52
 | 3 => 55
 | _ => 62
def wsz : Nat → Nat
 | 0 => 1
 | 1 => 1
 | _ => 2

def mkI (m : Int) : List Value := [.int .i64 m]
def mkE (m : Int) : List Value := [.int .i64 (-77), .int .u8 0, .int .u8 0, .int .i16 0, .int .i64 0, .int .i64 m]
def mkR (m : Int) : List Value := [.int .u8 99, .int .i16 (IntKind.wrap .i16 m), .int .i16 0, .int .i16 0, .int .i16 0]

theorem grow2_cell {w w1 : World} {o : Obj} {row : Option Nat} {a : Addr} {v : Value} (hg : (w.alloc o).grownBy w1 row) (h : w.cell? a = some v) (hne : row ≠ some a.block) : w1.cell? a = some v := by
 have hb := World.block_lt_of_cell? w a h
 rw [World.cell?_of_block (w := w) ((hg.block a.block (by simp; omega) (Ne.symm hne)).trans (Below.heap_alloc w o a.block hb))]
 exact h
theorem grow2_frozen {w w1 : World} {o : Obj} {row : Option Nat} {a : Addr} {f : Bool} (hg : (w.alloc o).grownBy w1 row) (hb : a.block < w.heap.size) (h : w.frozen? a = f) (hne : row ≠ some a.block) : w1.frozen? a = f := by
 rw [World.frozen?_of_block (w := w) ((hg.block a.block (by simp; omega) (Ne.symm hne)).trans (Below.heap_alloc w o a.block hb))]
 exact h

theorem TkAt.start {ty sz : Nat → Nat} {f esz : Nat} {et : TypeId} {mc : List Value} {m : Int} {w0 wr : World} {wb : Nat} {D : Nat → Prop} {nl : Nat} {n : Nat → Nat} {cs : Nat → List Value} {rw0 : Nat → Rw} {la : Option Addr} {base len lcap : Nat}
  (h : WRows ty sz wr wb D nl n cs rw0) (ho : wr.ownsRow base et esz (.slice la len lcap) len (rep mc len)) (hq : ∀ q, ownOf la = some q → ¬ D q ∧ q ≠ wb ∧ ∀ i, i < 5 → ownOf (rw0 i).a ≠ some q) (hf : f < 5) (hm : mc.length = esz) (hl : len ≤ 1073741824)
  (hfr : Fr (fun q => q = wb ∨ ownOf (rw0 f).a = some q ∨ ownOf la = some q) w0 wr) : TkAt ty sz f esz et mc m w0 wr wb D nl n cs rw0 la base len la lcap [] rw0 (fun q => ownOf la = some q) := by
 have e1 : upd n f (n f + ([] : List Rec).length) = n := by
  funext k
  by_cases hk : k = f
  ·subst hk; rw [upd_at]; rfl
  ·rw [upd_off _ _ hk]
 have e2 : upd cs f (cs f ++ recCells []) = cs := by
  funext k
  by_cases hk : k = f
  ·subst hk; rw [upd_at]; exact List.append_nil _
  ·rw [upd_off _ _ hk]
 refine ⟨by rw [e1, e2]; exact h, ho, fun r hr => (by cases hr), fun q hq' => ?_, fun q hq' => hq', hfr, fun _ _ _ => rfl, .inl rfl, hf, hm, hl⟩
 have := hq q hq'
 exact ⟨(ho.lt q (by rw [own_of]; exact hq')).2, .inl hq', this.1, this.2.1, this.2.2⟩

theorem set_rep (m : Value) (ys : List Value) {i : Nat} (hi : i < ys.length) : (rep [m] i ++ ys.drop i).set i m = rep [m] (i + 1) ++ ys.drop (i + 1) := by
 have hl : (rep [m] i).length = i := by rw [rep_length]; simp
 rw [List.set_append_right _ _ (by omega), hl, Nat.sub_self, List.drop_eq_getElem_cons hi, List.set_cons_zero]
 show _ = (rep [m] i ++ [m]) ++ ys.drop (i + 1)
 rw [List.append_assoc]; rfl

theorem Tryz.info52 : (Tryz.prog.info? 52).map (fun i => (i.zero, i.size, i.bytes)) = some (some (.agg #[.slice none 0 0, .int .i64 0]), 2, 32) := by kernel_rfl

theorem takeInts_any {w : World} {wb : Nat} {D : Nat → Prop} {nl : Nat} {n : Nat → Nat} {cs : Nat → List Value} {rw : Nat → Rw} (h : WRows wty wsz w wb D nl n cs rw) (xs : List Int) (la : Option Addr) (lcap base : Nat) (hl : w.ownsRow base 3 1 (.slice la xs.length lcap) xs.length (intCells xs)) (hb : base ≤ w.heap.size)
  (hq : ∀ q, ownOf la = some q → ¬ D q ∧ q ≠ wb ∧ ∀ i, i < 5 → ownOf (rw i).a ≠ some q) (hx : xs.length ≤ 1000000000) (hn : n 2 ≤ 1000000000) (hnl : nl ≤ 1000000000) :
  Calls Tryz.prog 23 #[.pointer (some ⟨wb, 0, none⟩), .slice la xs.length lcap] w fun e w' => e = .returned (.tuple #[]) ∧ ∃ la' lcap' recs rw' NB, recs.length = 4 ∧ TkAt wty wsz 2 1 3 [.int .i64 (-100 - ((nl : Int) + 1))] (-100 - ((nl : Int) + 1)) w w' wb D (nl + 1) n cs rw la base (xs.length + 3) la' lcap' recs rw' NB := by
 have H : Hid (WRows wty wsz w wb D nl n cs rw) := h
 have HL : Hid (w.ownsRow base 3 1 (.slice la xs.length lcap) xs.length (intCells xs)) := hl
 have HQ : Hid (∀ q, ownOf la = some q → ¬ D q ∧ q ≠ wb ∧ ∀ i, i < 5 → ownOf (rw i).a ≠ some q) := hq
 have c2 := h.cnt
 have cf := h.fz
 clear h hl hq
 obtain ⟨i0, hi0, hz0, hz1, hz2⟩ := info_parts Tryz.info3
 obtain ⟨i1, hi1, hy0, hy1, hy2⟩ := info_parts Tryz.info52
 go_enter Tryz.func23, Tryz.ntmps23
 go_upto_region 2 with fail
 have HR1 : Hid (WRows wty wsz (w.setCell ⟨wb, 2, none⟩ (.int .i64 ((nl : Int) + 1))) wb D (nl + 1) n cs rw) := by
  have := H.out.count (nl + 1)
  rw [show ((nl + 1 : Nat) : Int) = (nl : Int) + 1 by omega] at this
  exact this
 have HL1 : Hid ((w.setCell ⟨wb, 2, none⟩ (.int .i64 ((nl : Int) + 1))).ownsRow base 3 1 (.slice la xs.length lcap) xs.length (intCells xs)) := ownsRow_of_block HL.out (fun q hq => heap_far _ _ _ _ (HQ.out q (by rw [← own_of]; exact hq)).2.1)
 have HF1 : Hid (Fr (fun q => q = wb ∨ ownOf (rw 2).a = some q ∨ ownOf la = some q) w (w.setCell ⟨wb, 2, none⟩ (.int .i64 ((nl : Int) + 1)))) := Fr.set w wb 2 _ (.inl rfl)
 generalize w.setCell ⟨wb, 2, none⟩ (.int .i64 ((nl : Int) + 1)) = W at *
 clear c2 cf
 have hxc : (intCells xs).length = xs.length := by simp [intCells]
 go_wp2_with fail
 go_loopw [5] (fun v5 wr => ∃ i : Nat, i ≤ xs.length ∧ v5 = .int .i64 (i : Int) ∧ Hid (WRows wty wsz wr wb D (nl + 1) n cs rw ∧ wr.ownsRow base 3 1 (.slice la xs.length lcap) xs.length (rep [.int .i64 (-100 - ((nl : Int) + 1))] i ++ (intCells xs).drop i) ∧ Fr (fun q => q = wb ∨ ownOf (rw 2).a = some q ∨ ownOf la = some q) w wr)) (fun v5 _ => xs.length - (intOf v5).toNat)
 case atStart => exact ⟨0, Nat.zero_le _, rfl, (show Hid _ from ⟨HR1.out, by simpa [rep] using HL1.out, HF1.out⟩)⟩
 case round =>
  obtain ⟨i, hi, rfl, H1⟩ := hrel
  clear HR1 HL1 HF1
  by_cases hil : i < xs.length
  ·have hil' : (i : Int) < (xs.length : Int) := by omega
   obtain ⟨g, rfl, hg0, hg1, -, -, hcell, hfz⟩ := owns_cells H1.out.2.1 (by omega)
   have hlr : (rep [Value.int .i64 (-100 - ((nl : Int) + 1))] i).length = i := by rw [rep_length]; simp
   have c0 := hcell i _ (by rw [List.getElem?_append_right (by omega), hlr, Nat.sub_self, List.getElem?_drop, Nat.add_zero]; exact List.getElem?_eq_getElem (by omega))
   have HG : Hid _ := HQ.out g rfl
   have HN : Hid (WRows wty wsz (wr.setCell ⟨g, i, none⟩ (.int .i64 (-100 - ((nl : Int) + 1)))) wb D (nl + 1) n cs rw) := H1.out.1.of (heap_far _ _ _ _ (fun e => HG.out.2.1 e.symm)) (fun j hj q hq => heap_far _ _ _ _ (fun e => HG.out.2.2 j hj (by rw [hq]; exact congrArg some e))) (by rw [World.size_setCell]; exact Nat.le_refl _) (fun q hq => by rw [World.size_setCell]; exact H1.out.1.clear hq)
   have HO : Hid ((wr.setCell ⟨g, i, none⟩ (.int .i64 (-100 - ((nl : Int) + 1)))).ownsRow base 3 1 (.slice (some ⟨g, 0, none⟩) xs.length lcap) xs.length (rep [.int .i64 (-100 - ((nl : Int) + 1))] (i + 1) ++ (intCells xs).drop (i + 1))) := by
    have := owns_set H1.out.2.1 (j := i) (by omega) (.int .i64 (-100 - ((nl : Int) + 1)))
    rw [set_rep _ _ (by omega)] at this
    exact this
   have HF : Hid (Fr (fun q => q = wb ∨ ownOf (rw 2).a = some q ∨ ownOf (some (⟨g, 0, none⟩ : Addr)) = some q) w (wr.setCell ⟨g, i, none⟩ (.int .i64 (-100 - ((nl : Int) + 1))))) := H1.out.2.2.trans (Fr.set (O := fun q => q = g) wr g i _ rfl) (fun k hk hP => ⟨hP, fun e => hP (.inr (.inr (by rw [e]; rfl)))⟩)
   clear hcell H1
   go_wp2
   go_roundw
   case rel => exact ⟨i + 1, by omega, by go_num, (show Hid _ from ⟨HN.out, HO.out, HF.out⟩)⟩
   case measure => simp [intOf]; omega
  ·have hil' : ¬ (i : Int) < (xs.length : Int) := by omega
   have e : i = xs.length := by omega
   subst e
   have hO : wr.ownsRow base 3 1 (.slice la xs.length lcap) xs.length (rep [.int .i64 (-100 - ((nl : Int) + 1))] xs.length) := by
    have := H1.out.2.1
    rw [List.drop_eq_nil_of_le (by omega), List.append_nil] at this
    exact this
   have HT : Hid (TkAt wty wsz 2 1 3 [.int .i64 (-100 - ((nl : Int) + 1))] (-100 - ((nl : Int) + 1)) w wr wb D (nl + 1) n cs rw la base xs.length la lcap [] rw (fun q => ownOf la = some q)) := TkAt.start H1.out.1 hO HQ.out (by omega) rfl (by omega) H1.out.2.2
   clear H1 hO
   obtain ⟨N, cc, hN, hcc, c3, ho3, cf, hwl, hne⟩ := HT.out.row
   have hN' : N ≤ 1000000000 := by rw [← hN]; exact hn
   have HNN : Hid _ := hN
   have HCC : Hid _ := hcc
   have HO3 : Hid (wr.ownsRow (wb + 1) 52 2 (.slice (rw 2).a N (rw 2).cap) N cc) := ho3
   have c3' : wr.cell? ⟨wb, 3, none⟩ = some (.slice (rw 2).a N (rw 2).cap) := c3
   clear c3 ho3 hN hcc
   go_upto_region 7 with (first | (refine wpList_append_lies _ rfl _ _ _ rfl (wb + 1) 52 i1 _ 2 32 Tryz.underlying26 hi1 hy0 hy1 hy2 rfl (by omega) (.slice (rw 2).a N (rw 2).cap) N cc rfl (HO3.out.alloc _) ⟨wr.heap.size, 0, none⟩ 1 1 [.slice la xs.length lcap, .int .i64 (-100 - ((nl : Int) + 1))] rfl rfl (World.news_of_block (cs := #[.slice la xs.length lcap, .int .i64 (-100 - ((nl : Int) + 1))]) (t := 52) (fr := (0, 0)) (heap_alloc_new wr _)) (by simp [Value.oneCell']) (by omega) (by unfold maxLen; omega) (by omega) (by simp; omega) (wr.heap.size + 1) (by simp) ?_; intro gg cap1 w5 hown hgrow hat hlt5; have k3 := grow2_cell hgrow c3' hne; have kf := grow2_frozen (a := ⟨wb, 3, none⟩) hgrow hwl (cf 3) hne))
   have HT1 : Hid (TkAt wty wsz 2 1 3 [.int .i64 (-100 - ((nl : Int) + 1))] (-100 - ((nl : Int) + 1)) w (w5.setCell ⟨wb, 3, none⟩ (.slice (some ⟨gg, 0, none⟩) (N + 1) cap1)) wb D (nl + 1) n cs rw la base xs.length la lcap ([] ++ [(.slice la xs.length lcap, -100 - ((nl : Int) + 1))]) (upd rw 2 ⟨some ⟨gg, 0, none⟩, cap1⟩) (fun q => ownOf la = some q)) := HT.out.told HNN.out HCC.out _ hgrow hown hat
   generalize w5.setCell ⟨wb, 3, none⟩ (.slice (some ⟨gg, 0, none⟩) (N + 1) cap1) = V at *
   clear k3 kf hown hgrow hat HO3 c3' cf hwl hne HT HNN HCC
   go_wp2_with fail
   go_loopw [6, 7] (fun v6 v7 wr => ∃ (k : Nat) (la' : Option Addr) (lcap' : Nat) (recs : List Rec) (rw' : Nat → Rw) (NB : Nat → Prop), k ≤ 3 ∧ v6 = .slice la' (xs.length + k) lcap' ∧ v7 = .int .i64 (k : Int) ∧ recs.length = k + 1 ∧ Hid (TkAt wty wsz 2 1 3 [.int .i64 (-100 - ((nl : Int) + 1))] (-100 - ((nl : Int) + 1)) w wr wb D (nl + 1) n cs rw la base (xs.length + k) la' lcap' recs rw' NB)) (fun _ v7 _ => 3 - (intOf v7).toNat)
   case atStart => exact ⟨0, la, lcap, _, _, _, by omega, rfl, rfl, rfl, (show Hid _ from HT1.out)⟩
   case round =>
    clear HT1
    obtain ⟨k, la', lcap', recs, rw', NB, hk, rfl, rfl, hrl, HT⟩ := hrel
    by_cases hk3 : k < 3
    ·have hk3' : (k : Int) < 3 := by omega
     have HOW : Hid (wr.ownsRow base 3 1 (.slice la' (xs.length + k) lcap') (xs.length + k) (rep [.int .i64 (-100 - ((nl : Int) + 1))] (xs.length + k))) := HT.out.own
     have hbz : base ≤ wr.heap.size := Nat.le_trans hb HT.out.fr.size
     go_upto_region 12 with (first | (refine wpList_append_two _ rfl _ _ _ rfl base 3 i0 _ 1 8 Tryz.underlying31 hi0 hz0 hz1 hz2 rfl (by omega) (.slice la' (xs.length + k) lcap') (xs.length + k) (rep [.int .i64 (-100 - ((nl : Int) + 1))] (xs.length + k)) rfl (HOW.out.alloc _) ⟨wr.heap.size, 0, none⟩ 1 1 [.int .i64 (-100 - ((nl : Int) + 1))] rfl rfl (World.news_of_block (cs := #[.int .i64 (-100 - ((nl : Int) + 1))]) (t := 3) (fr := (0, 0)) (heap_alloc_new wr _)) (by simp [Value.oneCell']) (by omega) (by unfold maxLen; omega) (by omega) (by simp; omega) (wr.heap.size + 1) (by simp) ?_; intro gg cap1 w5 hown hgrow hat hlt5))
     have HT2 : Hid (TkAt wty wsz 2 1 3 [.int .i64 (-100 - ((nl : Int) + 1))] (-100 - ((nl : Int) + 1)) w w5 wb D (nl + 1) n cs rw la base (xs.length + k + 1) (some ⟨gg, 0, none⟩) cap1 recs rw' (fun q => NB q ∨ q = gg)) := HT.out.more _ (by rw [← own_of la' (xs.length + k) lcap']; exact hgrow) hown (by rw [← own_of la' (xs.length + k) lcap']; exact hat) (by omega)
     clear hown hgrow hat HOW HT
     obtain ⟨N, cc, hN, hcc, c3, ho3, cf, hwl, hne⟩ := HT2.out.row
     have hN' : N ≤ 1000000004 := by rw [← hN]; omega
     have HNN : Hid _ := hN
     have HCC : Hid _ := hcc
     have HO3 : Hid (w5.ownsRow (wb + 1) 52 2 (.slice (rw' 2).a N (rw' 2).cap) N cc) := ho3
     have c3' : w5.cell? ⟨wb, 3, none⟩ = some (.slice (rw' 2).a N (rw' 2).cap) := c3
     clear c3 ho3 hN hcc
     go_upto_region 10 with (first | (refine wpList_append_lies _ rfl _ _ _ rfl (wb + 1) 52 i1 _ 2 32 Tryz.underlying26 hi1 hy0 hy1 hy2 rfl (by omega) (.slice (rw' 2).a N (rw' 2).cap) N cc rfl (HO3.out.alloc _) ⟨w5.heap.size, 0, none⟩ 1 1 [.slice (some ⟨gg, 0, none⟩) (xs.length + k + 1) cap1, .int .i64 (-100 - ((nl : Int) + 1))] rfl rfl (World.news_of_block (cs := #[.slice (some ⟨gg, 0, none⟩) (xs.length + k + 1) cap1, .int .i64 (-100 - ((nl : Int) + 1))]) (t := 52) (fr := (0, 0)) (heap_alloc_new w5 _)) (by simp [Value.oneCell']) (by omega) (by unfold maxLen; omega) (by omega) (by simp; omega) (w5.heap.size + 1) (by simp) ?_; intro gh cap2 w6 hown hgrow hat hlt6; have k3 := grow2_cell hgrow c3' hne; have kf := grow2_frozen (a := ⟨wb, 3, none⟩) hgrow hwl (cf 3) hne))
     have HT3 : Hid (TkAt wty wsz 2 1 3 [.int .i64 (-100 - ((nl : Int) + 1))] (-100 - ((nl : Int) + 1)) w (w6.setCell ⟨wb, 3, none⟩ (.slice (some ⟨gh, 0, none⟩) (N + 1) cap2)) wb D (nl + 1) n cs rw la base (xs.length + k + 1) (some ⟨gg, 0, none⟩) cap1 (recs ++ [(.slice (some ⟨gg, 0, none⟩) (xs.length + k + 1) cap1, -100 - ((nl : Int) + 1))]) (upd rw' 2 ⟨some ⟨gh, 0, none⟩, cap2⟩) (fun q => NB q ∨ q = gg)) := HT2.out.told HNN.out HCC.out _ hgrow hown hat
     generalize w6.setCell ⟨wb, 3, none⟩ (.slice (some ⟨gh, 0, none⟩) (N + 1) cap2) = V2 at *
     clear k3 kf hown hgrow hat HO3 c3' cf hwl hne HT2 HNN HCC
     go_wp2
     go_roundw
     case rel => exact ⟨k + 1, some ⟨gg, 0, none⟩, cap1, _, _, _, by omega, rfl, by go_num, by simp [hrl], (show Hid _ from HT3.out)⟩
     case measure => simp [intOf]; omega
    ·have hk3' : ¬ (k : Int) < 3 := by omega
     obtain rfl : k = 3 := by omega
     go_wp2
     go_end0
     exact ⟨rfl, la', lcap', recs, hrl, rw', NB, HT.out⟩

end Go.Proofs.YtfdafcnfefbcbabGreat
