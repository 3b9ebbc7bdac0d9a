/-
 Several texts of ours in one: Order1, Order2, Order3, Order4.
-/
import Derived.Test.YtfdafcnfefbcbabGreatCal
import Derived.Deep.LoopGhost
/-
 Package order: the contracts of hang, comesFirst, contains.
-/
namespace Go.Proofs.YtfdafcnfefbcbabGreat
open Go.RowKit
set_option linter.unusedVariables false
set_option maxRecDepth 100000
set_option maxHeartbeats 2000000

/-- Do two steps hang on one another? -/
def hangEv (a b : Ev) : Bool := a.thread == b.thread || (a.name == b.name && (a.kind != 114 || b.kind != 114))

/-- Does the group of one step come before that of another? -/
def firstEv (a b : Ev) : Bool := if a.thread != b.thread then decide (a.thread < b.thread) else decide (a.group < b.group)

def Ev.val (e : Ev) : Value := .agg #[.int .i64 e.thread, .int .u8 (e.kind : Int), .int .u8 (e.name : Int), .int .i16 e.value, .int .i64 e.block, .int .i64 e.group]

theorem hang_any (x y : Ev) (w : World) : Calls Tryz.prog 98 #[x.val, y.val] w fun e w' => e = .returned (.bool (hangEv x y)) ∧ Below w.heap.size w w' := by
 obtain ⟨t, k, n, v, b, g⟩ := x
 obtain ⟨t', k', n', v', b', g'⟩ := y
 unfold Ev.val
 simp only
 cases h1 : (t == t')
 ·cases h2 : ((n : Int) == (n' : Int))
  ·have HR : Hid (hangEv ⟨t, k, n, v, b, g⟩ ⟨t', k', n', v', b', g'⟩ = false) := by
    show _ = _
    have : (n == n') = false := by simp at h2 ⊢; omega
    simp only [hangEv, h1, this]; rfl
   go_enter Tryz.func98, Tryz.ntmps98
   go_wp2
   go_ret
   exact ⟨ret_bool HR.out.symm, two_new w _ _⟩
  ·have hnn : (n == n') = true := by simp at h2 ⊢; omega
   cases h3 : ((k : Int) != 114)
   ·have h3' : (k != 114) = false := by simp at h3 ⊢; omega
    cases h4 : ((k' : Int) != 114)
    ·have h4' : (k' != 114) = false := by simp at h4 ⊢; omega
     have HR : Hid (hangEv ⟨t, k, n, v, b, g⟩ ⟨t', k', n', v', b', g'⟩ = false) := by show _ = _; simp only [hangEv, h1, hnn, h3', h4']; rfl
     clear h3' h4' hnn
     go_enter Tryz.func98, Tryz.ntmps98
     go_wp2
     go_ret
     exact ⟨ret_bool HR.out.symm, two_new w _ _⟩
    ·have h4' : (k' != 114) = true := by simp at h4 ⊢; omega
     have HR : Hid (hangEv ⟨t, k, n, v, b, g⟩ ⟨t', k', n', v', b', g'⟩ = true) := by show _ = _; simp only [hangEv, h1, hnn, h3', h4']; rfl
     clear h3' h4' hnn
     go_enter Tryz.func98, Tryz.ntmps98
     go_wp2
     go_ret
     exact ⟨ret_bool HR.out.symm, two_new w _ _⟩
   ·have h3' : (k != 114) = true := by simp at h3 ⊢; omega
    have HR : Hid (hangEv ⟨t, k, n, v, b, g⟩ ⟨t', k', n', v', b', g'⟩ = true) := by show _ = _; simp only [hangEv, h1, hnn, h3']; rfl
    clear h3' hnn
    go_enter Tryz.func98, Tryz.ntmps98
    go_wp2
    go_ret
    exact ⟨ret_bool HR.out.symm, two_new w _ _⟩
 ·have HR : Hid (hangEv ⟨t, k, n, v, b, g⟩ ⟨t', k', n', v', b', g'⟩ = true) := by show _ = _; simp only [hangEv, h1]; rfl
  go_enter Tryz.func98, Tryz.ntmps98
  go_wp2
  go_ret
  exact ⟨ret_bool HR.out.symm, two_new w _ _⟩

theorem comesFirst_any (x y : Ev) (w : World) : Calls Tryz.prog 105 #[x.val, y.val] w fun e w' => e = .returned (.bool (firstEv x y)) ∧ Below w.heap.size w w' := by
 obtain ⟨t, k, n, v, b, g⟩ := x
 obtain ⟨t', k', n', v', b', g'⟩ := y
 unfold Ev.val
 simp only
 cases h1 : (t != t')
 ·have HR : Hid (firstEv ⟨t, k, n, v, b, g⟩ ⟨t', k', n', v', b', g'⟩ = decide (g < g')) := by show _ = _; simp only [firstEv, h1]; rfl
  go_enter Tryz.func105, Tryz.ntmps105
  go_wp2
  go_ret
  exact ⟨ret_bool HR.out.symm, two_new w _ _⟩
 ·have HR : Hid (firstEv ⟨t, k, n, v, b, g⟩ ⟨t', k', n', v', b', g'⟩ = decide (t < t')) := by show _ = _; simp only [firstEv, h1]; rfl
  go_enter Tryz.func105, Tryz.ntmps105
  go_wp2
  go_ret
  exact ⟨ret_bool HR.out.symm, two_new w _ _⟩

theorem contains_any (l : List Int) (a : Option Addr) (cap : Nat) (x : Int) (w : World) (h : IntsIn w a l) (hl : l.length ≤ 1000000) : Calls Tryz.prog 85 #[.slice a l.length cap, .int .i64 x] w fun e w' => e = .returned (.bool (decide (x ∈ l))) ∧ w' = w := by
 have HI : Hid _ := h
 clear h
 go_enter Tryz.func85, Tryz.ntmps85
 go_wp2
 go_loopw [9] (fun v9 wr => ∃ i : Nat, i ≤ l.length ∧ v9 = .int .i64 (i : Int) ∧ Hid (wr = w ∧ ¬ x ∈ l.take i)) (fun v9 _ => l.length - (intOf v9).toNat)
 case atStart => exact ⟨0, Nat.zero_le _, rfl, (show Hid _ from ⟨rfl, by simp⟩)⟩
 case round =>
  obtain ⟨i, hi, rfl, H1⟩ := hrel
  obtain ⟨rfl, hn⟩ := H1.out
  have HN : Hid _ := hn
  clear hn H1
  by_cases hlt : i < l.length
  ·obtain ⟨g, rfl, hg, hc⟩ := HI.out (by omega)
   have c0 := hc i l[i] (List.getElem?_eq_getElem hlt)
   have hlt' : (i : Int) < (l.length : Int) := by omega
   cases hx : (l[i] == x)
   ·have HN2 : Hid (¬ x ∈ l.take (i + 1)) := by
     show ¬ _
     rw [List.take_add_one, List.getElem?_eq_getElem hlt, List.mem_append, Option.toList_some, List.mem_singleton]
     rintro (h | h)
     ·exact HN.out h
     ·rw [← h] at hx; simp at hx
    clear hc
    generalize l[i] = y at *
    go_wp2
    go_roundw
    case rel => exact ⟨i + 1, by omega, by go_num, (show Hid _ from ⟨by trivial, HN2.out⟩)⟩
    case measure => simp [intOf]; omega
   ·have HM : Hid (decide (x ∈ l) = true) := by
     show _ = _
     have : l[i] = x := by simpa using hx
     rw [decide_eq_true_eq, ← this]
     exact List.getElem_mem hlt
    clear hc
    generalize l[i] = y at *
    go_wp2
    go_ret
    exact ⟨ret_bool HM.out.symm, rfl⟩
  ·have HM : Hid (decide (x ∈ l) = false) := by
    show _ = _
    have hn := HN.out
    rw [List.take_of_length_le (by omega)] at hn
    simpa using hn
   go_wp2
   go_ret
   exact ⟨ret_bool HM.out.symm, rfl⟩

/-- A list of events behind a slice. -/
def EvsIn (w : World) (a : Option Addr) (l : List Ev) : Prop :=
 0 < l.length → ∃ g, a = some ⟨g, 0, none⟩ ∧ g < w.heap.size ∧ ∀ (i : Nat) (e : Ev), l[i]? = some e → w.cell? ⟨g, i * 6, none⟩ = some (.int .i64 e.thread) ∧ w.cell? ⟨g, i * 6 + 1, none⟩ = some (.int .u8 (e.kind : Int)) ∧ w.cell? ⟨g, i * 6 + 2, none⟩ = some (.int .u8 (e.name : Int)) ∧ w.cell? ⟨g, i * 6 + 3, none⟩ = some (.int .i16 e.value) ∧ w.cell? ⟨g, i * 6 + 4, none⟩ = some (.int .i64 e.block) ∧ w.cell? ⟨g, i * 6 + 5, none⟩ = some (.int .i64 e.group)

theorem EvsIn.below {w w' : World} {a : Option Addr} {l : List Ev} (h : EvsIn w a l) (hb : Below w.heap.size w w') : EvsIn w' a l := fun h0 => by
 obtain ⟨g, e, hg, hc⟩ := h h0
 refine ⟨g, e, Nat.lt_of_lt_of_le hg hb.size, fun i x hx => ?_⟩
 obtain ⟨a0, a1, a2, a3, a4, a5⟩ := hc i x hx
 exact ⟨(hb.cell (p := ⟨g, i * 6, none⟩) hg).trans a0, (hb.cell (p := ⟨g, i * 6 + 1, none⟩) hg).trans a1, (hb.cell (p := ⟨g, i * 6 + 2, none⟩) hg).trans a2, (hb.cell (p := ⟨g, i * 6 + 3, none⟩) hg).trans a3, (hb.cell (p := ⟨g, i * 6 + 4, none⟩) hg).trans a4, (hb.cell (p := ⟨g, i * 6 + 5, none⟩) hg).trans a5⟩

theorem evs_of_owns {w : World} {lo : Nat} {a : Option Addr} {cap : Nat} {l : List Ev} (h : w.ownsRow lo 59 6 (.slice a l.length cap) l.length (evCells l)) : EvsIn w a l := fun h0 => by
 obtain ⟨g, rfl, -, hg, -, -, hc, -⟩ := owns_cells h h0
 refine ⟨g, rfl, hg, fun i e he => ?_⟩
 obtain ⟨x0, x1, x2, x3, x4, x5⟩ := evCells_at l i e he
 exact ⟨hc _ _ x0, hc _ _ x1, hc _ _ x2, hc _ _ x3, hc _ _ x4, hc _ _ x5⟩

def aheadIn (grp : Int) (later : Ev) : List Ev → Option Int
 | [] => none
 | e :: r => if (e.group != grp && hangEv e later) = true then some e.group else aheadIn grp later r

def aheadAt (es : List Ev) (grp : Int) (i : Nat) : Option Int := match es[i]? with
 | none => none
 | some l => if (l.group != grp) = true then none else aheadIn grp l (es.take i)

def aheadFrom (es : List Ev) (grp : Int) : Nat → Nat → Option Int
 | 0, _ => none
 | k + 1, i => match aheadAt es grp i with
  | some x => some x
  | none => aheadFrom es grp k (i + 1)

/-- A group that is ahead of a group. -/
def aheadOf (es : List Ev) (grp : Int) : Option Int := aheadFrom es grp es.length 0

def aheadV (x : Option Int) : Value := match x with
 | none => .tuple #[.int .i64 0, .bool false]
 | some g => .tuple #[.int .i64 g, .bool true]

theorem aheadOf_any (es : List Ev) (a : Option Addr) (cap : Nat) (grp : Int) (w : World) (h : EvsIn w a es) (hl : es.length ≤ 1000000) (hcap : es.length ≤ cap) (hcap2 : cap ≤ maxLen) :
  Calls Tryz.prog 86 #[.slice a es.length cap, .int .i64 grp] w fun e w' => e = .returned (aheadV (aheadOf es grp)) ∧ Below w.heap.size w w' := by
 have HI : Hid _ := h
 clear h
 unfold maxLen at hcap2
 go_enter Tryz.func86, Tryz.ntmps86
 go_wp2_with fail
 go_loopw [12] (fun v12 wr => ∃ i : Nat, i ≤ es.length ∧ v12 = .int .i64 (i : Int) ∧ Hid (Below w.heap.size w wr ∧ aheadOf es grp = aheadFrom es grp (es.length - i) i)) (fun v12 _ => es.length - (intOf v12).toNat)
 case atStart => exact ⟨0, Nat.zero_le _, rfl, (show Hid _ from ⟨Below.refl _ _, rfl⟩)⟩
 case round =>
  obtain ⟨i, hi, rfl, H1⟩ := hrel
  by_cases hlt : i < es.length
  ·obtain ⟨g, rfl, hg, hc⟩ := HI.out (by omega)
   obtain ⟨c0, c1, c2, c3, c4, c5⟩ := hc i es[i] (List.getElem?_eq_getElem hlt)
   have hbl := H1.out.1
   have k0 := (hbl.cell (p := ⟨g, i * 6, none⟩) hg).trans c0
   have k1 := (hbl.cell (p := ⟨g, i * 6 + 1, none⟩) hg).trans c1
   have k2 := (hbl.cell (p := ⟨g, i * 6 + 2, none⟩) hg).trans c2
   have k3 := (hbl.cell (p := ⟨g, i * 6 + 3, none⟩) hg).trans c3
   have k4 := (hbl.cell (p := ⟨g, i * 6 + 4, none⟩) hg).trans c4
   have k5 := (hbl.cell (p := ⟨g, i * 6 + 5, none⟩) hg).trans c5
   have hlt' : (i : Int) < (es.length : Int) := by omega
   have HAT : Hid (aheadAt es grp i = if (es[i].group != grp) = true then none else aheadIn grp es[i] (es.take i)) := by show _ = _; unfold aheadAt; rw [List.getElem?_eq_getElem hlt]
   have HFR : Hid (aheadOf es grp = match aheadAt es grp i with | some x => some x | none => aheadFrom es grp (es.length - (i + 1)) (i + 1)) := by
    show _ = _
    rw [H1.out.2, show es.length - i = es.length - (i + 1) + 1 by omega, aheadFrom]
   have HBL : Hid _ := hbl
   have HC : Hid _ := hc
   clear c0 c1 c2 c3 c4 c5 hbl hc
   generalize es[i] = la at *
   obtain ⟨lt, lk, ln, lv, lb, lg⟩ := la
   simp only at k0 k1 k2 k3 k4 k5 HAT
   cases hgr : (lg != grp)
   ·rw [hgr] at HAT
    simp only [Bool.false_eq_true, if_false] at HAT
    go_upto_region 5 with fail
    have HWB : Hid (Below wr.heap.size wr (wr.alloc (.cells #[.int .i64 lt, .int .u8 (lk : Int), .int .u8 (ln : Int), .int .i16 lv, .int .i64 lb, .int .i64 lg] 59))) := (Below.refl _ _).alloc (Nat.le_refl _) _
    have d0 : (wr.alloc (.cells #[.int .i64 lt, .int .u8 (lk : Int), .int .u8 (ln : Int), .int .i16 lv, .int .i64 lb, .int .i64 lg] 59)).cell? ⟨wr.heap.size, 0, none⟩ = some (.int .i64 lt) := by simp
    have d1 : (wr.alloc (.cells #[.int .i64 lt, .int .u8 (lk : Int), .int .u8 (ln : Int), .int .i16 lv, .int .i64 lb, .int .i64 lg] 59)).cell? ⟨wr.heap.size, 1, none⟩ = some (.int .u8 (lk : Int)) := by simp
    have d2 : (wr.alloc (.cells #[.int .i64 lt, .int .u8 (lk : Int), .int .u8 (ln : Int), .int .i16 lv, .int .i64 lb, .int .i64 lg] 59)).cell? ⟨wr.heap.size, 2, none⟩ = some (.int .u8 (ln : Int)) := by simp
    have d3 : (wr.alloc (.cells #[.int .i64 lt, .int .u8 (lk : Int), .int .u8 (ln : Int), .int .i16 lv, .int .i64 lb, .int .i64 lg] 59)).cell? ⟨wr.heap.size, 3, none⟩ = some (.int .i16 lv) := by simp
    have d4 : (wr.alloc (.cells #[.int .i64 lt, .int .u8 (lk : Int), .int .u8 (ln : Int), .int .i16 lv, .int .i64 lb, .int .i64 lg] 59)).cell? ⟨wr.heap.size, 4, none⟩ = some (.int .i64 lb) := by simp
    have d5 : (wr.alloc (.cells #[.int .i64 lt, .int .u8 (lk : Int), .int .u8 (ln : Int), .int .i16 lv, .int .i64 lb, .int .i64 lg] 59)).cell? ⟨wr.heap.size, 5, none⟩ = some (.int .i64 lg) := by simp
    have HWZ : Hid ((wr.alloc (.cells #[.int .i64 lt, .int .u8 (lk : Int), .int .u8 (ln : Int), .int .i16 lv, .int .i64 lb, .int .i64 lg] 59)).heap.size = wr.heap.size + 1) := by show _ = _; simp
    generalize (wr.alloc (.cells #[.int .i64 lt, .int .u8 (lk : Int), .int .u8 (ln : Int), .int .i16 lv, .int .i64 lb, .int .i64 lg] 59)) = W at *
    have HWW : Hid (Below w.heap.size w W) := HBL.out.trans (HWB.out.mono HBL.out.size)
    have hic : (i : Int) ≤ (cap : Int) := by omega
    have hi0 : (0 : Int) ≤ (i : Int) := by omega
    clear k0 k1 k2 k3 k4 k5 HWB
    generalize wr.heap.size = D at *
    go_wp2_with fail
    go_loopw [25] (fun v25 w3 => ∃ j : Nat, j ≤ i ∧ v25 = .int .i64 (j : Int) ∧ Hid (Below W.heap.size W w3 ∧ aheadAt es grp i = aheadIn grp ⟨lt, lk, ln, lv, lb, lg⟩ ((es.take i).drop j))) (fun v25 _ => i - (intOf v25).toNat)
    case atStart => exact ⟨0, Nat.zero_le _, rfl, (show Hid _ from ⟨Below.refl _ _, HAT.out⟩)⟩
    case round =>
     obtain ⟨j, hj, rfl, H2⟩ := hrel
     by_cases hji : j < i
     ·have hje : j < es.length := by omega
      have hbl := H2.out.1
      obtain ⟨c0, c1, c2, c3, c4, c5⟩ := HC.out j es[j] (List.getElem?_eq_getElem hje)
      have hbw : Below w.heap.size w wr := HWW.out.trans (hbl.mono HWW.out.size)
      have k0 := (hbw.cell (p := ⟨g, j * 6, none⟩) hg).trans c0
      have k1 := (hbw.cell (p := ⟨g, j * 6 + 1, none⟩) hg).trans c1
      have k2 := (hbw.cell (p := ⟨g, j * 6 + 2, none⟩) hg).trans c2
      have k3 := (hbw.cell (p := ⟨g, j * 6 + 3, none⟩) hg).trans c3
      have k4 := (hbw.cell (p := ⟨g, j * 6 + 4, none⟩) hg).trans c4
      have k5 := (hbw.cell (p := ⟨g, j * 6 + 5, none⟩) hg).trans c5
      have HDR : Hid ((es.take i).drop j = es[j] :: (es.take i).drop (j + 1)) := by
       show _ = _
       rw [List.drop_eq_getElem_cons (by simp; omega)]
       simp
      have hji' : (j : Int) < (i : Int) := by omega
      have ltW : D < W.heap.size := by have := HWZ.out; omega
      have m0 := (hbl.cell (p := ⟨D, 0, none⟩) ltW).trans d0
      have m1 := (hbl.cell (p := ⟨D, 1, none⟩) ltW).trans d1
      have m2 := (hbl.cell (p := ⟨D, 2, none⟩) ltW).trans d2
      have m3 := (hbl.cell (p := ⟨D, 3, none⟩) ltW).trans d3
      have m4 := (hbl.cell (p := ⟨D, 4, none⟩) ltW).trans d4
      have m5 := (hbl.cell (p := ⟨D, 5, none⟩) ltW).trans d5
      have HB3 : Hid _ := hbl
      have HBW : Hid _ := hbw
      clear c0 c1 c2 c3 c4 c5 hbl hbw
      generalize es[j] = ea at *
      obtain ⟨et, ek, en, ev, eb, eg⟩ := ea
      simp only at k0 k1 k2 k3 k4 k5
      have HIN : Hid (aheadAt es grp i = if (eg != grp && hangEv ⟨et, ek, en, ev, eb, eg⟩ ⟨lt, lk, ln, lv, lb, lg⟩) = true then some eg else aheadIn grp ⟨lt, lk, ln, lv, lb, lg⟩ ((es.take i).drop (j + 1))) := by
       show _ = _
       rw [H2.out.2, HDR.out, aheadIn]
      go_upto_region 8 with fail
      have HVB : Hid (Below wr.heap.size wr (wr.alloc (.cells #[.int .i64 et, .int .u8 (ek : Int), .int .u8 (en : Int), .int .i16 ev, .int .i64 eb, .int .i64 eg] 59))) := (Below.refl _ _).alloc (Nat.le_refl _) _
      have n0 : (wr.alloc (.cells #[.int .i64 et, .int .u8 (ek : Int), .int .u8 (en : Int), .int .i16 ev, .int .i64 eb, .int .i64 eg] 59)).cell? ⟨wr.heap.size, 0, none⟩ = some (.int .i64 et) := by simp
      have n1 : (wr.alloc (.cells #[.int .i64 et, .int .u8 (ek : Int), .int .u8 (en : Int), .int .i16 ev, .int .i64 eb, .int .i64 eg] 59)).cell? ⟨wr.heap.size, 1, none⟩ = some (.int .u8 (ek : Int)) := by simp
      have n2 : (wr.alloc (.cells #[.int .i64 et, .int .u8 (ek : Int), .int .u8 (en : Int), .int .i16 ev, .int .i64 eb, .int .i64 eg] 59)).cell? ⟨wr.heap.size, 2, none⟩ = some (.int .u8 (en : Int)) := by simp
      have n3 : (wr.alloc (.cells #[.int .i64 et, .int .u8 (ek : Int), .int .u8 (en : Int), .int .i16 ev, .int .i64 eb, .int .i64 eg] 59)).cell? ⟨wr.heap.size, 3, none⟩ = some (.int .i16 ev) := by simp
      have n4 : (wr.alloc (.cells #[.int .i64 et, .int .u8 (ek : Int), .int .u8 (en : Int), .int .i16 ev, .int .i64 eb, .int .i64 eg] 59)).cell? ⟨wr.heap.size, 4, none⟩ = some (.int .i64 eb) := by simp
      have n5 : (wr.alloc (.cells #[.int .i64 et, .int .u8 (ek : Int), .int .u8 (en : Int), .int .i16 ev, .int .i64 eb, .int .i64 eg] 59)).cell? ⟨wr.heap.size, 5, none⟩ = some (.int .i64 eg) := by simp
      have o0 := alloc_cell m0 (.cells #[.int .i64 et, .int .u8 (ek : Int), .int .u8 (en : Int), .int .i16 ev, .int .i64 eb, .int .i64 eg] 59)
      have o1 := alloc_cell m1 (.cells #[.int .i64 et, .int .u8 (ek : Int), .int .u8 (en : Int), .int .i16 ev, .int .i64 eb, .int .i64 eg] 59)
      have o2 := alloc_cell m2 (.cells #[.int .i64 et, .int .u8 (ek : Int), .int .u8 (en : Int), .int .i16 ev, .int .i64 eb, .int .i64 eg] 59)
      have o3 := alloc_cell m3 (.cells #[.int .i64 et, .int .u8 (ek : Int), .int .u8 (en : Int), .int .i16 ev, .int .i64 eb, .int .i64 eg] 59)
      have o4 := alloc_cell m4 (.cells #[.int .i64 et, .int .u8 (ek : Int), .int .u8 (en : Int), .int .i16 ev, .int .i64 eb, .int .i64 eg] 59)
      have o5 := alloc_cell m5 (.cells #[.int .i64 et, .int .u8 (ek : Int), .int .u8 (en : Int), .int .i16 ev, .int .i64 eb, .int .i64 eg] 59)
      have HVZ : Hid ((wr.alloc (.cells #[.int .i64 et, .int .u8 (ek : Int), .int .u8 (en : Int), .int .i16 ev, .int .i64 eb, .int .i64 eg] 59)).heap.size = wr.heap.size + 1) := by show _ = _; simp
      generalize (wr.alloc (.cells #[.int .i64 et, .int .u8 (ek : Int), .int .u8 (en : Int), .int .i16 ev, .int .i64 eb, .int .i64 eg] 59)) = V at *
      have HB3V : Hid (Below W.heap.size W V) := HB3.out.trans (HVB.out.mono HB3.out.size)
      have HBWV : Hid (Below w.heap.size w V) := HBW.out.trans (HVB.out.mono HBW.out.size)
      clear k0 k1 k2 k3 k4 k5 m0 m1 m2 m3 m4 m5
      cases hne : (eg != grp)
      ·have HNX : Hid (aheadAt es grp i = aheadIn grp ⟨lt, lk, ln, lv, lb, lg⟩ ((es.take i).drop (j + 1))) := by
        show _ = _
        rw [HIN.out, hne]; rfl
       go_wp2
       go_roundw
       case rel => exact ⟨j + 1, by omega, by go_num, (show Hid _ from ⟨HB3V.out, HNX.out⟩)⟩
       case measure => simp [intOf]; omega
      ·go_wp2_with fail
       have hcall := hang_any ⟨et, ek, en, ev, eb, eg⟩ ⟨lt, lk, ln, lv, lb, lg⟩ V
       unfold Ev.val at hcall
       simp only at hcall
       refine Calls.mono hcall ?_
       clear hcall
       rintro e w4 ⟨rfl, hb4⟩
       have p5 := (hb4.cell (p := ⟨wr.heap.size, 5, none⟩) (show wr.heap.size < V.heap.size by have := HVZ.out; omega)).trans n5
       have HB4 : Hid _ := hb4
       clear hb4 n0 n1 n2 n3 n4 n5 o0 o1 o2 o3 o4 o5
       cases hh : hangEv ⟨et, ek, en, ev, eb, eg⟩ ⟨lt, lk, ln, lv, lb, lg⟩
       ·have HNX : Hid (aheadAt es grp i = aheadIn grp ⟨lt, lk, ln, lv, lb, lg⟩ ((es.take i).drop (j + 1))) := by
         show _ = _
         rw [HIN.out, hne, hh]; rfl
        clear hh
        go_wp2
        go_roundw
        case rel => exact ⟨j + 1, by omega, by go_num, (show Hid _ from ⟨HB3V.out.trans (HB4.out.mono HB3V.out.size), HNX.out⟩)⟩
        case measure => simp [intOf]; omega
       ·have HNX : Hid (aheadOf es grp = some eg) := by
         show _ = _
         rw [HFR.out, HIN.out, hne, hh]; rfl
        clear hh
        go_wp2
        go_ret2
        exact ⟨by rw [HNX.out]; rfl, HBWV.out.trans (HB4.out.mono HBWV.out.size)⟩
     ·have HN : Hid (aheadAt es grp i = none) := by
       show _ = _
       rw [H2.out.2, List.drop_eq_nil_of_le (by simp; omega)]; rfl
      have HN2 : Hid (aheadOf es grp = aheadFrom es grp (es.length - (i + 1)) (i + 1)) := by show _ = _; rw [HFR.out, HN.out]
      have hji' : ¬ (j : Int) < (i : Int) := by omega
      go_wp2
      go_roundw
      case rel => exact ⟨i + 1, by omega, by go_num, (show Hid _ from ⟨HWW.out.trans (H2.out.1.mono HWW.out.size), HN2.out⟩)⟩
      case measure => simp [intOf]; omega
   ·rw [hgr] at HAT
    simp only [if_true] at HAT
    have HN : Hid (aheadOf es grp = aheadFrom es grp (es.length - (i + 1)) (i + 1)) := by show _ = _; rw [HFR.out, HAT.out]
    go_wp2
    go_roundw
    case rel => exact ⟨i + 1, by omega, by go_num, (show Hid _ from ⟨HBL.out.alloc HBL.out.size _, HN.out⟩)⟩
    case measure => simp [intOf]; omega
  ·have HN : Hid (aheadOf es grp = none) := by show _ = _; rw [H1.out.2, show es.length - i = 0 by omega]; rfl
   go_wp2
   go_ret2
   exact ⟨by rw [HN.out]; rfl, H1.out.1⟩

def ev0 : Ev := ⟨0, 0, 0, 0, 0, 0⟩

/-- What nextFree has found behind one event more. -/
def nfStep (es : List Ev) (st : Option Ev) (e : Ev) : Option Ev := match st with
 | some nx => if firstEv e nx = true then (if (aheadOf es e.group).isSome = true then some nx else some e) else some nx
 | none => if (aheadOf es e.group).isSome = true then none else some e

def nextFree (es : List Ev) : Option Ev := es.foldl (nfStep es) none

structure NfAt (w wr : World) (nx : Ev) : Prop where
 c0 : wr.cell? ⟨w.heap.size, 0, none⟩ = some (.int .i64 nx.thread)
 c1 : wr.cell? ⟨w.heap.size, 1, none⟩ = some (.int .u8 (nx.kind : Int))
 c2 : wr.cell? ⟨w.heap.size, 2, none⟩ = some (.int .u8 (nx.name : Int))
 c3 : wr.cell? ⟨w.heap.size, 3, none⟩ = some (.int .i16 nx.value)
 c4 : wr.cell? ⟨w.heap.size, 4, none⟩ = some (.int .i64 nx.block)
 c5 : wr.cell? ⟨w.heap.size, 5, none⟩ = some (.int .i64 nx.group)
 fr : ∀ j, wr.frozen? ⟨w.heap.size, j, none⟩ = false
 bl : Below w.heap.size w wr
 size : w.heap.size < wr.heap.size

theorem NfAt.below {w wr wr' : World} {nx : Ev} (h : NfAt w wr nx) {N : Nat} (hb : Below N wr wr') (hN : w.heap.size < N) : NfAt w wr' nx :=
 ⟨(hb.cell (p := ⟨w.heap.size, 0, none⟩) hN).trans h.c0, (hb.cell (p := ⟨w.heap.size, 1, none⟩) hN).trans h.c1, (hb.cell (p := ⟨w.heap.size, 2, none⟩) hN).trans h.c2, (hb.cell (p := ⟨w.heap.size, 3, none⟩) hN).trans h.c3, (hb.cell (p := ⟨w.heap.size, 4, none⟩) hN).trans h.c4, (hb.cell (p := ⟨w.heap.size, 5, none⟩) hN).trans h.c5,
  fun j => (hb.frozen (p := ⟨w.heap.size, j, none⟩) hN).trans (h.fr j), h.bl.trans (hb.mono (by omega)), Nat.lt_of_lt_of_le h.size hb.size⟩

theorem NfAt.there {w wr : World} {nx : Ev} (h : NfAt w wr nx) : wr.there w.heap.size 0 6 := fun j hj => by
 have : j = 0 ∨ j = 1 ∨ j = 2 ∨ j = 3 ∨ j = 4 ∨ j = 5 := by omega
 refine ⟨?_, h.fr _⟩
 rcases this with rfl | rfl | rfl | rfl | rfl | rfl
 ·rw [h.c0]; rfl
 ·rw [h.c1]; rfl
 ·rw [h.c2]; rfl
 ·rw [h.c3]; rfl
 ·rw [h.c4]; rfl
 ·rw [h.c5]; rfl

theorem NfAt.put {w wr : World} {nx : Ev} (h : NfAt w wr nx) (e : Ev) : NfAt w (wr.setCells w.heap.size 0 [Value.int .i64 e.thread, .int .u8 (e.kind : Int), .int .u8 (e.name : Int), .int .i16 e.value, .int .i64 e.block, .int .i64 e.group]) e := by
 have hr := World.rangeAt_setCells_same wr w.heap.size 0 [Value.int .i64 e.thread, .int .u8 (e.kind : Int), .int .u8 (e.name : Int), .int .i16 e.value, .int .i64 e.block, .int .i64 e.group] h.there
 have c : ∀ j v, [Value.int .i64 e.thread, .int .u8 (e.kind : Int), .int .u8 (e.name : Int), .int .i16 e.value, .int .i64 e.block, .int .i64 e.group][j]? = some v → (wr.setCells w.heap.size 0 [Value.int .i64 e.thread, .int .u8 (e.kind : Int), .int .u8 (e.name : Int), .int .i16 e.value, .int .i64 e.block, .int .i64 e.group]).cell? ⟨w.heap.size, j, none⟩ = some v := fun j v hv => by
  have := hr j v hv
  rwa [Nat.zero_add] at this
 exact ⟨c 0 _ rfl, c 1 _ rfl, c 2 _ rfl, c 3 _ rfl, c 4 _ rfl, c 5 _ rfl, fun j => by rw [World.frozen?_setCells]; exact h.fr j, below_setCells _ (Nat.le_refl _) _ _ _ h.bl, by rw [size_setCells]; exact h.size⟩

def nextV (x : Option Ev) : Value := .tuple #[.int .i64 (x.getD ev0).group, .bool x.isSome]

theorem aheadV_form (x : Option Int) : ∃ g, aheadV x = .tuple #[.int .i64 g, .bool x.isSome] := by
 cases x with
 | none => exact ⟨0, rfl⟩
 | some g => exact ⟨g, rfl⟩

theorem nextFree_any (es : List Ev) (a : Option Addr) (cap : Nat) (w : World) (h : EvsIn w a es) (hl : es.length ≤ 1000000) (hcap : es.length ≤ cap) (hcap2 : cap ≤ maxLen) :
  Calls Tryz.prog 97 #[.slice a es.length cap] w fun e w' => e = .returned (nextV (nextFree es)) ∧ Below w.heap.size w w' := by
 have HI : Hid _ := h
 have HC2 : Hid _ := hcap2
 clear h hcap2
 go_enter Tryz.func97, Tryz.ntmps97
 go_wp2_with fail
 go_loopw [5, 12] (fun v5 v12 wr => ∃ (i : Nat) (st : Option Ev), i ≤ es.length ∧ v12 = .int .i64 (i : Int) ∧ v5 = .bool st.isSome ∧ Hid (st = (es.take i).foldl (nfStep es) none ∧ NfAt w wr (st.getD ev0))) (fun _ v12 _ => es.length - (intOf v12).toNat)
 case atStart =>
  refine ⟨0, none, Nat.zero_le _, rfl, rfl, ?_⟩
  show _ ∧ _
  refine ⟨rfl, ⟨?_, ?_, ?_, ?_, ?_, ?_, fun j => World.frozen?_alloc_at _ _ _ _ rfl, (Below.refl _ _).alloc (Nat.le_refl _) _, by simp⟩⟩ <;> simp [ev0]
 case round =>
  obtain ⟨i, st, hi, rfl, rfl, H1⟩ := hrel
  by_cases hlt : i < es.length
  ·obtain ⟨g, rfl, hg, hc⟩ := HI.out (by omega)
   obtain ⟨c0, c1, c2, c3, c4, c5⟩ := hc i es[i] (List.getElem?_eq_getElem hlt)
   have hbl := H1.out.2.bl
   have k0 := (hbl.cell (p := ⟨g, i * 6, none⟩) hg).trans c0
   have k1 := (hbl.cell (p := ⟨g, i * 6 + 1, none⟩) hg).trans c1
   have k2 := (hbl.cell (p := ⟨g, i * 6 + 2, none⟩) hg).trans c2
   have k3 := (hbl.cell (p := ⟨g, i * 6 + 3, none⟩) hg).trans c3
   have k4 := (hbl.cell (p := ⟨g, i * 6 + 4, none⟩) hg).trans c4
   have k5 := (hbl.cell (p := ⟨g, i * 6 + 5, none⟩) hg).trans c5
   have hlt' : (i : Int) < (es.length : Int) := by omega
   have HST : Hid ((es.take (i + 1)).foldl (nfStep es) none = nfStep es st es[i]) := by
    show _ = _
    rw [List.take_add_one, List.getElem?_eq_getElem hlt, List.foldl_append, ← H1.out.1]; rfl
   clear c0 c1 c2 c3 c4 c5 hbl hc
   generalize es[i] = ee at *
   obtain ⟨et, ek, en, ev, eb, eg⟩ := ee
   simp only at k0 k1 k2 k3 k4 k5
   go_upto_region 6 with fail
   have HWB : Hid (Below wr.heap.size wr (wr.alloc (.cells #[.int .i64 et, .int .u8 (ek : Int), .int .u8 (en : Int), .int .i16 ev, .int .i64 eb, .int .i64 eg] 59))) := (Below.refl _ _).alloc (Nat.le_refl _) _
   have d0 : (wr.alloc (.cells #[.int .i64 et, .int .u8 (ek : Int), .int .u8 (en : Int), .int .i16 ev, .int .i64 eb, .int .i64 eg] 59)).cell? ⟨wr.heap.size, 0, none⟩ = some (.int .i64 et) := by simp
   have d1 : (wr.alloc (.cells #[.int .i64 et, .int .u8 (ek : Int), .int .u8 (en : Int), .int .i16 ev, .int .i64 eb, .int .i64 eg] 59)).cell? ⟨wr.heap.size, 1, none⟩ = some (.int .u8 (ek : Int)) := by simp
   have d2 : (wr.alloc (.cells #[.int .i64 et, .int .u8 (ek : Int), .int .u8 (en : Int), .int .i16 ev, .int .i64 eb, .int .i64 eg] 59)).cell? ⟨wr.heap.size, 2, none⟩ = some (.int .u8 (en : Int)) := by simp
   have d3 : (wr.alloc (.cells #[.int .i64 et, .int .u8 (ek : Int), .int .u8 (en : Int), .int .i16 ev, .int .i64 eb, .int .i64 eg] 59)).cell? ⟨wr.heap.size, 3, none⟩ = some (.int .i16 ev) := by simp
   have d4 : (wr.alloc (.cells #[.int .i64 et, .int .u8 (ek : Int), .int .u8 (en : Int), .int .i16 ev, .int .i64 eb, .int .i64 eg] 59)).cell? ⟨wr.heap.size, 4, none⟩ = some (.int .i64 eb) := by simp
   have d5 : (wr.alloc (.cells #[.int .i64 et, .int .u8 (ek : Int), .int .u8 (en : Int), .int .i16 ev, .int .i64 eb, .int .i64 eg] 59)).cell? ⟨wr.heap.size, 5, none⟩ = some (.int .i64 eg) := by simp
   have HWZ : Hid ((wr.alloc (.cells #[.int .i64 et, .int .u8 (ek : Int), .int .u8 (en : Int), .int .i16 ev, .int .i64 eb, .int .i64 eg] 59)).heap.size = wr.heap.size + 1) := by show _ = _; simp
   generalize (wr.alloc (.cells #[.int .i64 et, .int .u8 (ek : Int), .int .u8 (en : Int), .int .i16 ev, .int .i64 eb, .int .i64 eg] 59)) = W at *
   have HNW : Hid (NfAt w W (st.getD ev0)) := H1.out.2.below HWB.out H1.out.2.size
   have HWS : Hid (w.heap.size < wr.heap.size) := H1.out.2.size
   clear k0 k1 k2 k3 k4 k5 H1
   generalize wr.heap.size = D at *
   have ltD : D < W.heap.size := by have := HWZ.out; omega
   cases st with
   | none =>
    go_wp2_with fail
    refine (aheadOf_any es (some ⟨g, 0, none⟩) cap eg _ (EvsIn.below HI.out HNW.out.bl) hl hcap HC2.out).mono ?_
    rintro e w3 ⟨rfl, hb3⟩
    obtain ⟨g0, hg0⟩ := aheadV_form (aheadOf es eg)
    rw [hg0]
    have HN3 : Hid (NfAt w w3 ev0) := HNW.out.below hb3 HNW.out.size
    have f0 := (hb3.cell (p := ⟨D, 0, none⟩) ltD).trans d0
    have f1 := (hb3.cell (p := ⟨D, 1, none⟩) ltD).trans d1
    have f2 := (hb3.cell (p := ⟨D, 2, none⟩) ltD).trans d2
    have f3 := (hb3.cell (p := ⟨D, 3, none⟩) ltD).trans d3
    have f4 := (hb3.cell (p := ⟨D, 4, none⟩) ltD).trans d4
    have f5 := (hb3.cell (p := ⟨D, 5, none⟩) ltD).trans d5
    clear hb3 hg0 d0 d1 d2 d3 d4 d5
    cases hah : (aheadOf es eg).isSome
    ·have HS1 : Hid (some ⟨et, ek, en, ev, eb, eg⟩ = (es.take (i + 1)).foldl (nfStep es) none) := by show _ = _; rw [HST.out]; simp only [nfStep, hah]; rfl
     clear hah
     have hth : w3.there w.heap.size 0 #[Value.int .i64 et, .int .u8 (ek : Int), .int .u8 (en : Int), .int .i16 ev, .int .i64 eb, .int .i64 eg].size := HN3.out.there
     have HPUT : Hid (NfAt w (w3.setCells w.heap.size 0 #[Value.int .i64 et, .int .u8 (ek : Int), .int .u8 (en : Int), .int .i16 ev, .int .i64 eb, .int .i64 eg].toList) ⟨et, ek, en, ev, eb, eg⟩) := HN3.out.put ⟨et, ek, en, ev, eb, eg⟩
     go_wp2_with (first | (refine wpList_store_mid rfl 59 _ _ rfl w.heap.size 0 #[Value.int .i64 et, .int .u8 (ek : Int), .int .u8 (en : Int), .int .i16 ev, .int .i64 eb, .int .i64 eg] rfl rfl hth Tryz.size59 (by simp [Value.oneCell']) ?_; generalize w3.setCells w.heap.size 0 #[Value.int .i64 et, .int .u8 (ek : Int), .int .u8 (en : Int), .int .i16 ev, .int .i64 eb, .int .i64 eg].toList = F at *))
     go_roundw
     case rel => exact ⟨i + 1, some ⟨et, ek, en, ev, eb, eg⟩, by omega, by go_num, rfl, (show Hid _ from ⟨HS1.out, HPUT.out⟩)⟩
     case measure => simp [intOf]; omega
    ·have HS1 : Hid ((none : Option Ev) = (es.take (i + 1)).foldl (nfStep es) none) := by show _ = _; rw [HST.out]; simp only [nfStep, hah]; rfl
     clear hah
     go_wp2
     go_roundw
     case rel => exact ⟨i + 1, (none : Option Ev), by omega, by go_num, rfl, (show Hid _ from ⟨HS1.out, HN3.out⟩)⟩
     case measure => simp [intOf]; omega
   | some nx =>
    obtain ⟨nt, nk, nn, nv, nb, ng⟩ := nx
    obtain ⟨c0, c1, c2, c3, c4, c5, -, -, -⟩ := HNW.out
    simp only [Option.getD_some] at c0 c1 c2 c3 c4 c5
    go_wp2_with fail
    have hcall := comesFirst_any ⟨et, ek, en, ev, eb, eg⟩ ⟨nt, nk, nn, nv, nb, ng⟩ W
    unfold Ev.val at hcall
    simp only at hcall
    refine Calls.mono hcall ?_
    clear hcall
    rintro e w2 ⟨rfl, hb2⟩
    have HN2 : Hid (NfAt w w2 ⟨nt, nk, nn, nv, nb, ng⟩) := NfAt.below HNW.out hb2 HNW.out.size
    have e0 := (hb2.cell (p := ⟨D, 0, none⟩) ltD).trans d0
    have e1 := (hb2.cell (p := ⟨D, 1, none⟩) ltD).trans d1
    have e2 := (hb2.cell (p := ⟨D, 2, none⟩) ltD).trans d2
    have e3 := (hb2.cell (p := ⟨D, 3, none⟩) ltD).trans d3
    have e4 := (hb2.cell (p := ⟨D, 4, none⟩) ltD).trans d4
    have e5 := (hb2.cell (p := ⟨D, 5, none⟩) ltD).trans d5
    have ltD2 : D < w2.heap.size := Nat.lt_of_lt_of_le ltD hb2.size
    clear hb2 d0 d1 d2 d3 d4 d5 c0 c1 c2 c3 c4 c5
    cases hfi : firstEv ⟨et, ek, en, ev, eb, eg⟩ ⟨nt, nk, nn, nv, nb, ng⟩
    ·have HS1 : Hid (some ⟨nt, nk, nn, nv, nb, ng⟩ = (es.take (i + 1)).foldl (nfStep es) none) := by show _ = _; rw [HST.out]; simp only [nfStep, hfi]; rfl
     clear hfi
     go_wp2
     go_roundw
     case rel => exact ⟨i + 1, some ⟨nt, nk, nn, nv, nb, ng⟩, by omega, by go_num, rfl, (show Hid _ from ⟨HS1.out, HN2.out⟩)⟩
     case measure => simp [intOf]; omega
    ·have d0 := e0
     have d1 := e1
     have d2 := e2
     have d3 := e3
     have d4 := e4
     have d5 := e5
     clear e0 e1 e2 e3 e4 e5
     go_wp2_with fail
     refine (aheadOf_any es (some ⟨g, 0, none⟩) cap eg _ (EvsIn.below HI.out HN2.out.bl) hl hcap HC2.out).mono ?_
     rintro e w3 ⟨rfl, hb3⟩
     obtain ⟨g0, hg0⟩ := aheadV_form (aheadOf es eg)
     rw [hg0]
     have HN3 : Hid (NfAt w w3 ⟨nt, nk, nn, nv, nb, ng⟩) := HN2.out.below hb3 HN2.out.size
     have f0 := (hb3.cell (p := ⟨D, 0, none⟩) ltD2).trans d0
     have f1 := (hb3.cell (p := ⟨D, 1, none⟩) ltD2).trans d1
     have f2 := (hb3.cell (p := ⟨D, 2, none⟩) ltD2).trans d2
     have f3 := (hb3.cell (p := ⟨D, 3, none⟩) ltD2).trans d3
     have f4 := (hb3.cell (p := ⟨D, 4, none⟩) ltD2).trans d4
     have f5 := (hb3.cell (p := ⟨D, 5, none⟩) ltD2).trans d5
     clear hb3 hg0 d0 d1 d2 d3 d4 d5
     cases hah : (aheadOf es eg).isSome
     ·have HS1 : Hid (some ⟨et, ek, en, ev, eb, eg⟩ = (es.take (i + 1)).foldl (nfStep es) none) := by show _ = _; rw [HST.out]; simp only [nfStep, hfi, hah]; rfl
      clear hah
      have hth : w3.there w.heap.size 0 #[Value.int .i64 et, .int .u8 (ek : Int), .int .u8 (en : Int), .int .i16 ev, .int .i64 eb, .int .i64 eg].size := HN3.out.there
      have HPUT : Hid (NfAt w (w3.setCells w.heap.size 0 #[Value.int .i64 et, .int .u8 (ek : Int), .int .u8 (en : Int), .int .i16 ev, .int .i64 eb, .int .i64 eg].toList) ⟨et, ek, en, ev, eb, eg⟩) := HN3.out.put ⟨et, ek, en, ev, eb, eg⟩
      go_wp2_with (first | (refine wpList_store_mid rfl 59 _ _ rfl w.heap.size 0 #[Value.int .i64 et, .int .u8 (ek : Int), .int .u8 (en : Int), .int .i16 ev, .int .i64 eb, .int .i64 eg] rfl rfl hth Tryz.size59 (by simp [Value.oneCell']) ?_; generalize w3.setCells w.heap.size 0 #[Value.int .i64 et, .int .u8 (ek : Int), .int .u8 (en : Int), .int .i16 ev, .int .i64 eb, .int .i64 eg].toList = F at *))
      go_roundw
      case rel => exact ⟨i + 1, some ⟨et, ek, en, ev, eb, eg⟩, by omega, by go_num, rfl, (show Hid _ from ⟨HS1.out, HPUT.out⟩)⟩
      case measure => simp [intOf]; omega
     ·have HS1 : Hid ((some ⟨nt, nk, nn, nv, nb, ng⟩ : Option Ev) = (es.take (i + 1)).foldl (nfStep es) none) := by show _ = _; rw [HST.out]; simp only [nfStep, hfi, hah]; rfl
      clear hah
      go_wp2
      go_roundw
      case rel => exact ⟨i + 1, (some ⟨nt, nk, nn, nv, nb, ng⟩ : Option Ev), by omega, by go_num, rfl, (show Hid _ from ⟨HS1.out, HN3.out⟩)⟩
      case measure => simp [intOf]; omega
  ·have hie : i = es.length := by omega
   subst hie
   have HV : Hid (nextFree es = st) := by show _ = _; unfold nextFree; rw [H1.out.1, List.take_length]
   have c5 := H1.out.2.c5
   go_wp2
   go_ret2
   exact ⟨by rw [HV.out]; rfl, H1.out.2.bl⟩

/-- A way from its k-th group back to a group on it, behind what has been listed. -/
def backTo (way : List Int) (grp : Int) : Nat → List Int → List Int
 | 0, acc => acc
 | k + 1, acc => if (way.getD k 0 == grp) = true then acc ++ [way.getD k 0] else backTo way grp k (acc ++ [way.getD k 0])

structure BackAt (w wr : World) (acc : List Int) (ca : Option Addr) (ccap : Nat) : Prop where
 own : wr.ownsRow w.heap.size 3 1 (.slice ca acc.length ccap) acc.length (intCells acc)
 bl : Below w.heap.size w wr

theorem backTo_any (way : List Int) (a : Option Addr) (cap : Nat) (grp : Int) (w : World) (h : IntsIn w a way) (hl : way.length ≤ 1000000) :
  Calls Tryz.prog 87 #[.slice a way.length cap, .int .i64 grp] w fun e w' => (∃ ca ccap, e = .returned (.slice ca (backTo way grp way.length []).length ccap) ∧ w'.ownsRow w.heap.size 3 1 (.slice ca (backTo way grp way.length []).length ccap) (backTo way grp way.length []).length (intCells (backTo way grp way.length []))) ∧ Below w.heap.size w w' := by
 have HI : Hid _ := h
 clear h
 obtain ⟨i0, hi0, hz0, hz1, hz2⟩ := info_parts Tryz.info3
 go_enter Tryz.func87, Tryz.ntmps87
 go_wp2_with fail
 go_loopw [5, 6] (fun v5 v6 wr => ∃ (k : Nat) (acc : List Int) (ca : Option Addr) (ccap : Nat), k ≤ way.length ∧ acc.length + k = way.length ∧ v6 = .int .i64 ((k : Int) - 1) ∧ v5 = .slice ca acc.length ccap ∧ Hid (BackAt w wr acc ca ccap ∧ backTo way grp way.length [] = backTo way grp k acc)) (fun _ v6 _ => ((intOf v6) + 1).toNat)
 case atStart => exact ⟨way.length, [], none, 0, Nat.le_refl _, by simp, rfl, rfl, (show Hid _ from ⟨⟨World.ownsRow_nil _ _ _ _, Below.refl _ _⟩, rfl⟩)⟩
 case round =>
  obtain ⟨k, acc, ca, ccap, hk, hak, rfl, rfl, H1⟩ := hrel
  cases k with
  | zero =>
   have HV : Hid (backTo way grp way.length [] = acc) := H1.out.2
   go_wp2
   go_ret
   exact ⟨⟨ca, ccap, by rw [HV.out]; rfl, by rw [HV.out]; exact H1.out.1.own⟩, H1.out.1.bl⟩
  | succ k =>
   have hj : ((k + 1 : Nat) : Int) - 1 = (k : Int) := by omega
   obtain ⟨g, rfl, hg, hc⟩ := HI.out (by omega)
   have hkl : k < way.length := by omega
   have c0 := (H1.out.1.bl.cell (p := ⟨g, k, none⟩) hg).trans (hc k way[k] (List.getElem?_eq_getElem hkl))
   have HGD : Hid (way.getD k 0 = way[k]) := by show _ = _; simp [List.getD, hkl]
   have hkl' : (k : Int) < (way.length : Int) := by omega
   have hk0 : (0 : Int) ≤ (k : Int) := by omega
   have HO : Hid (wr.ownsRow w.heap.size 3 1 (.slice ca acc.length ccap) acc.length (intCells acc)) := H1.out.1.own
   have HB : Hid _ := H1.out.1.bl
   have hzw := HB.out.size
   have HEQ : Hid _ := H1.out.2
   clear hc H1
   generalize way[k] = x at *
   rw [hj]
   go_upto_region 6 with (first | (refine wpList_append_lies _ rfl _ _ _ rfl w.heap.size 3 i0 _ 1 8 Tryz.underlying31 hi0 hz0 hz1 hz2 rfl (by omega) (.slice ca acc.length ccap) acc.length (intCells acc) rfl (HO.out.alloc _) ⟨wr.heap.size, 0, none⟩ 1 1 [Value.int .i64 x] rfl rfl (World.news_of_block (cs := #[Value.int .i64 x]) (t := 3) (fr := (0, 0)) (heap_alloc_new wr _)) (by simp [Value.oneCell']) (by omega) (by unfold maxLen; omega) (by omega) (by simp; omega) (wr.heap.size + 1) (by simp) ?_; intro gg cap1 w5 hown hgrow hat hlt5))
   have ho5 : w5.ownsRow w.heap.size 3 1 (.slice (some ⟨gg, 0, none⟩) (acc ++ [x]).length cap1) (acc ++ [x]).length (intCells (acc ++ [x])) := by simpa [intCells] using hown
   have HO5 : Hid (w5.ownsRow w.heap.size 3 1 (.slice (some ⟨gg, 0, none⟩) (acc ++ [x]).length cap1) (acc ++ [x]).length (intCells (acc ++ [x]))) := ho5
   have HB5 : Hid (Below w.heap.size w w5) := HB.out.trans (Below.grown ((Below.refl w.heap.size wr).alloc (by omega) _) hgrow (by simp; omega) (fun y hy => (HO.out.lt y hy).1))
   obtain ⟨g', hg', -, hc'⟩ := HI.out (by omega)
   have c1 : w5.cell? ⟨g, k, none⟩ = some (.int .i64 x) := by
    have e1 := (HB5.out.cell (p := ⟨g, k, none⟩) hg)
    have e2 := (HB.out.cell (p := ⟨g, k, none⟩) hg)
    rw [e1, ← e2]; exact c0
   clear hown hgrow hat c0 hg' hc' ho5
   cases hx : (x == grp)
   ·have HV : Hid (backTo way grp way.length [] = backTo way grp k (acc ++ [x])) := by show _ = _; rw [HEQ.out, backTo, HGD.out, hx]; rfl
    go_wp2
    go_roundw
    case rel => exact ⟨k, acc ++ [x], some ⟨gg, 0, none⟩, cap1, by omega, by simp; omega, by go_num, by simp, (show Hid _ from ⟨⟨HO5.out, HB5.out⟩, HV.out⟩)⟩
    case measure => simp [intOf]
   ·have HV : Hid (backTo way grp way.length [] = acc ++ [x]) := by show _ = _; rw [HEQ.out, backTo, HGD.out, hx]; rfl
    go_wp2
    go_ret
    exact ⟨⟨some ⟨gg, 0, none⟩, cap1, by rw [HV.out]; simp, by rw [HV.out]; exact HO5.out⟩, HB5.out⟩

end Go.Proofs.YtfdafcnfefbcbabGreat
