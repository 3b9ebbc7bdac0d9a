/-
 Several texts of ours in one: Order5, Order6, Order7.
-/
import Derived.Test.YtfdafcnfefbcbabGreatPla
/-
 Package order: the contract of takeGroups.
-/
namespace Go.Proofs.YtfdafcnfefbcbabGreat
open Go.RowKit
set_option linter.unusedVariables false
set_option maxRecDepth 100000
set_option maxHeartbeats 4000000

/-- What takeGroups rests on in a round over what is left. -/
structure TkIn (w wr : World) (H : Nat) (left rest : List Ev) (taken : List Int) (la : Option Addr) (lcap : Nat) (ra : Option Addr) (rcap : Nat) (ta : Option Addr) (tcap : Nat) : Prop where
 left : OwnsIn wr 0 H 59 6 (.slice la left.length lcap) left.length (evCells left)
 rest : wr.ownsRow H 59 6 (.slice ra rest.length rcap) rest.length (evCells rest)
 taken : wr.ownsRow w.heap.size 3 1 (.slice ta taken.length tcap) taken.length (intCells taken)
 bl : Below w.heap.size w wr
 h1 : w.heap.size ≤ H
 h2 : H ≤ wr.heap.size

theorem TkIn.below {w wr wr' : World} {H : Nat} {left rest : List Ev} {taken : List Int} {la : Option Addr} {lcap : Nat} {ra : Option Addr} {rcap : Nat} {ta : Option Addr} {tcap : Nat} (h : TkIn w wr H left rest taken la lcap ra rcap ta tcap) (hb : Below wr.heap.size wr wr') : TkIn w wr' H left rest taken la lcap ra rcap ta tcap :=
 ⟨h.left.below (hb.mono h.h2), ((ownsRow_in h.rest).below hb).1, ((ownsRow_in h.taken).below hb).1, h.bl.trans (hb.mono h.bl.size), h.h1, Nat.le_trans h.h2 hb.size⟩

theorem TkIn.putTaken {w wr wr' : World} {H : Nat} {left rest : List Ev} {taken : List Int} {la : Option Addr} {lcap : Nat} {ra : Option Addr} {rcap : Nat} {ta : Option Addr} {tcap : Nat} (h : TkIn w wr H left rest taken la lcap ra rcap ta tcap) {x : Int} {gg cap1 : Nat}
  (hown : wr'.ownsRow w.heap.size 3 1 (.slice (some ⟨gg, 0, none⟩) (taken.length + 1) cap1) (taken.length + 1) (intCells taken ++ [.int .i64 x])) (hgrow : wr.grownBy wr' (Value.slice ta taken.length tcap).ownBlock) : TkIn w wr' H left rest (taken ++ [x]) la lcap ra rcap (some ⟨gg, 0, none⟩) cap1 := by
 refine ⟨?_, ?_, by simpa [intCells] using hown, h.bl.grown hgrow h.bl.size (fun y hy => (h.taken.lt y hy).1), h.h1, Nat.le_trans h.h2 hgrow.size⟩
 ·exact h.left.of_block fun g hg => hgrow.block g (h.left.1.lt g hg).2 (fun e => owns_apart h.left.1 h.taken (by decide) hg e.symm)
 ·exact ownsRow_of_block h.rest fun g hg => hgrow.block g (h.rest.lt g hg).2 (fun e => owns_apart h.rest h.taken (by decide) hg e.symm)

theorem TkIn.putRest {w wr wr' : World} {H : Nat} {left rest : List Ev} {taken : List Int} {la : Option Addr} {lcap : Nat} {ra : Option Addr} {rcap : Nat} {ta : Option Addr} {tcap : Nat} (h : TkIn w wr H left rest taken la lcap ra rcap ta tcap) {e : Ev} {gg cap1 : Nat}
  (hown : wr'.ownsRow H 59 6 (.slice (some ⟨gg, 0, none⟩) (rest.length + 1) cap1) (rest.length + 1) (evCells rest ++ e.cells)) (hgrow : wr.grownBy wr' (Value.slice ra rest.length rcap).ownBlock) : TkIn w wr' H left (rest ++ [e]) taken la lcap (some ⟨gg, 0, none⟩) cap1 ta tcap := by
 refine ⟨?_, by simpa [evCells_append, evCells] using hown, ?_, h.bl.grown hgrow h.bl.size (fun y hy => Nat.le_trans h.h1 (h.rest.lt y hy).1), h.h1, Nat.le_trans h.h2 hgrow.size⟩
 ·exact h.left.of_block fun g hg => hgrow.block g (h.left.1.lt g hg).2 (fun e => by
     have h1 := h.left.2 g hg
     have h2 := (h.rest.lt g e.symm).1
     omega)
 ·exact ownsRow_of_block h.taken fun g hg => hgrow.block g (h.taken.lt g hg).2 (fun e => owns_apart h.taken h.rest (by decide) hg e.symm)

theorem owns_cap {w : World} {lo : Nat} {e : TypeId} {size : Nat} {a : Option Addr} {n m cap : Nat} {xs : List Value} (h : w.ownsRow lo e size (.slice a m cap) n xs) : n ≤ cap ∧ cap ≤ maxLen := by
 rcases h.2 with ⟨h1, h2⟩ | ⟨g, c, cur, h1, -, -, h2, h3, -⟩
 ·simp at h1; subst h2; rw [h1.2.2]; exact ⟨Nat.le_refl _, Nat.zero_le _⟩
 ·simp at h1; rw [h1.2.2]; exact ⟨h2, h3⟩

def lenV : Value → Nat
 | .slice _ n _ => n
 | _ => 0

theorem Tryz.evinfo59 : (Tryz.prog.info? 59).map (fun i => (i.zero, i.size, i.bytes)) = some (some (.agg #[.int .i64 0, .int .u8 0, .int .u8 0, .int .i16 0, .int .i64 0, .int .i64 0]), 6, 32) := by kernel_rfl

/-- What takeGroups answers. -/
def TakeSays (es : List Ev) (w : World) (e : Ending) (w' : World) : Prop :=
 Below w.heap.size w w' ∧ ∃ ta tcap la lcap, e = .returned (.tuple #[.slice ta (takeGroups es).1.length tcap, .slice la (takeGroups es).2.length lcap]) ∧ w'.ownsRow w.heap.size 3 1 (.slice ta (takeGroups es).1.length tcap) (takeGroups es).1.length (intCells (takeGroups es).1) ∧ w'.ownsRow 0 59 6 (.slice la (takeGroups es).2.length lcap) (takeGroups es).2.length (evCells (takeGroups es).2)

theorem left_snoc (l : List Ev) (e : Ev) (g : Int) : leftOf (l ++ [e]) g = if (e.group == g) = true then leftOf l g else leftOf l g ++ [e] := by
 unfold leftOf
 rw [List.filter_append]
 split
 ·rename_i h; rw [List.filter_cons_of_neg (by simpa using h), List.filter_nil, List.append_nil]
 ·rename_i h; rw [List.filter_cons_of_pos (by simpa using h), List.filter_nil]
theorem taken_snoc (l : List Ev) (e : Ev) (g : Int) : takenOf (l ++ [e]) g = if (e.group == g) = true then takenOf l g ++ [e.thread] else takenOf l g := by
 unfold takenOf
 rw [List.filter_append]
 split
 ·rename_i h; rw [List.filter_cons_of_pos (by simpa using h), List.filter_nil, List.map_append]; rfl
 ·rename_i h; rw [List.filter_cons_of_neg (by simpa using h), List.filter_nil, List.append_nil]

theorem takeGroups_any (es : List Ev) (a : Option Addr) (cap lo : Nat) (w : World) (h : w.ownsRow lo 59 6 (.slice a es.length cap) es.length (evCells es)) (hl : es.length ≤ 4000) :
  Calls Tryz.prog 84 #[.slice a es.length cap] w fun e w' => TakeSays es w e w' := by
 have H0 : Hid (OwnsIn w 0 w.heap.size 59 6 (.slice a es.length cap) es.length (evCells es)) := (ownsRow_in h).mono (Nat.zero_le _) (Nat.le_refl _)
 clear h
 obtain ⟨i0, hi0, hz0, hz1, hz2⟩ := info_parts Tryz.info3
 obtain ⟨j0, hj0, hy0, hy1, hy2⟩ := info_parts Tryz.evinfo59
 go_enter Tryz.func84, Tryz.ntmps84
 go_wp2_with fail
 refine (nextFree_any es a cap _ (evs_of_owns H0.out.1) (by omega) (owns_cap H0.out.1).1 (owns_cap H0.out.1).2).mono ?_
 rintro e w1 ⟨rfl, hb1⟩
 have HB1 : Hid _ := hb1
 clear hb1
 unfold nextV
 go_wp2_with fail
 go_loopw [4, 5, 6, 7] (fun v4 v5 v6 v7 wr => ∃ (left : List Ev) (taken : List Int) (la : Option Addr) (lcap : Nat) (ta : Option Addr) (tcap : Nat), left.length + taken.length = es.length ∧ v4 = .slice ta taken.length tcap ∧ v5 = .slice la left.length lcap ∧ v6 = .int .i64 ((nextFree left).getD ev0).group ∧ v7 = .bool (nextFree left).isSome
   ∧ Hid (TkIn w wr wr.heap.size left [] taken la lcap none 0 ta tcap ∧ ∃ k, left.length < k ∧ takeGroups es = takeGo k left taken)) (fun _ v5 _ _ _ => lenV v5)
 case atStart =>
  refine ⟨es, [], a, cap, none, 0, by simp, rfl, rfl, rfl, rfl, ?_⟩
  exact ⟨⟨(H0.out.below HB1.out).mono (Nat.le_refl _) HB1.out.size, World.ownsRow_nil _ _ _ _, World.ownsRow_nil _ _ _ _, HB1.out, HB1.out.size, Nat.le_refl _⟩, es.length + 1, by omega, rfl⟩
 case round =>
  obtain ⟨left, taken, la, lcap, ta, tcap, hlen, rfl, rfl, rfl, rfl, HH⟩ := hrel
  cases hnf : nextFree left with
  | none =>
   have HR : Hid (takeGroups es = (taken, left)) := by
    obtain ⟨k, hk, hE⟩ := HH.out.2
    show _ = _
    rw [hE]
    cases k with
    | zero => omega
    | succ k => rw [takeGo, hnf]
   clear hnf
   go_wp2
   go_ret2
   refine ⟨HH.out.1.bl, ?_⟩
   rw [HR.out]
   exact ⟨ta, tcap, la, lcap, rfl, HH.out.1.taken, HH.out.1.left.1⟩
  | some nx =>
   have HM : Hid (nx ∈ left) := nextFree_mem hnf
   have HE : Hid (∃ k, (leftOf left nx.group).length < k ∧ takeGroups es = takeGo k (leftOf left nx.group) (taken ++ takenOf left nx.group)) := by
    obtain ⟨k, hk, hE⟩ := HH.out.2
    show ∃ k, _
    cases k with
    | zero => omega
    | succ k =>
     refine ⟨k, ?_, by rw [hE, takeGo, hnf]⟩
     have := left_shorter (nextFree_mem hnf)
     omega
   have HT : Hid (TkIn w wr wr.heap.size left [] taken la lcap none 0 ta tcap) := HH.out.1
   have HLT : Hid ((leftOf left nx.group).length < left.length) := left_shorter HM.out
   clear HH hnf HM
   simp only [Option.getD_some, Option.isSome_some]
   generalize nx.group = ng at *
   generalize wr.heap.size = H at *
   go_wp2_with fail
   go_loopw [4, 8, 20] (fun v4 v8 v20 w3 => ∃ (i : Nat) (tk : List Int) (rs : List Ev) (ra : Option Addr) (rcap : Nat) (ta : Option Addr) (tcap : Nat), i ≤ left.length ∧ v20 = .int .i64 (i : Int) ∧ v4 = .slice ta tk.length tcap ∧ v8 = .slice ra rs.length rcap ∧ tk.length + rs.length = taken.length + i
     ∧ Hid (TkIn w w3 H left rs tk la lcap ra rcap ta tcap ∧ rs = leftOf (left.take i) ng ∧ tk = taken ++ takenOf (left.take i) ng)) (fun _ _ v20 _ => left.length - (intOf v20).toNat)
   case atStart => exact ⟨0, taken, [], none, 0, ta, tcap, Nat.zero_le _, rfl, rfl, rfl, by simp, (show Hid _ from ⟨HT.out, by simp [leftOf], by simp [takenOf]⟩)⟩
   case round =>
    obtain ⟨i, tk, rs, ra, rcap, ta, tcap, hi, rfl, rfl, rfl, htr, H2⟩ := hrel
    by_cases hlt : i < left.length
    ·obtain ⟨g, rfl, hg, hc⟩ := evs_of_owns H2.out.1.left.1 (by omega)
     obtain ⟨k0, k1, k2, k3, k4, k5⟩ := hc i left[i] (List.getElem?_eq_getElem hlt)
     have hlt' : (i : Int) < (left.length : Int) := by omega
     have HTA : Hid (left.take (i + 1) = left.take i ++ [left[i]]) := by show _ = _; rw [List.take_add_one, List.getElem?_eq_getElem hlt]; rfl
     have HIN : Hid (TkIn w wr H left rs tk (some ⟨g, 0, none⟩) lcap ra rcap ta tcap) := H2.out.1
     have HRS : Hid _ := H2.out.2.1
     have HTK : Hid _ := H2.out.2.2
     clear hc H2 hg
     generalize left[i] = la at *
     obtain ⟨et, ek, en, ev, eb, eg⟩ := la
     simp only at k0 k1 k2 k3 k4 k5
     go_upto_region 9 with fail
     have HIW : Hid (TkIn w (wr.alloc (.cells #[.int .i64 et, .int .u8 (ek : Int), .int .u8 (en : Int), .int .i16 ev, .int .i64 eb, .int .i64 eg] 59)) H left rs tk (some ⟨g, 0, none⟩) lcap ra rcap ta tcap) := HIN.out.below ((Below.refl _ _).alloc (Nat.le_refl _) _)
     have d0 : (wr.alloc (.cells #[.int .i64 et, .int .u8 (ek : Int), .int .u8 (en : Int), .int .i16 ev, .int .i64 eb, .int .i64 eg] 59)).cell? ⟨wr.heap.size, 0, none⟩ = some (.int .i64 et) := by simp
     have d1 : (wr.alloc (.cells #[.int .i64 et, .int .u8 (ek : Int), .int .u8 (en : Int), .int .i16 ev, .int .i64 eb, .int .i64 eg] 59)).cell? ⟨wr.heap.size, 1, none⟩ = some (.int .u8 (ek : Int)) := by simp
     have d2 : (wr.alloc (.cells #[.int .i64 et, .int .u8 (ek : Int), .int .u8 (en : Int), .int .i16 ev, .int .i64 eb, .int .i64 eg] 59)).cell? ⟨wr.heap.size, 2, none⟩ = some (.int .u8 (en : Int)) := by simp
     have d3 : (wr.alloc (.cells #[.int .i64 et, .int .u8 (ek : Int), .int .u8 (en : Int), .int .i16 ev, .int .i64 eb, .int .i64 eg] 59)).cell? ⟨wr.heap.size, 3, none⟩ = some (.int .i16 ev) := by simp
     have d4 : (wr.alloc (.cells #[.int .i64 et, .int .u8 (ek : Int), .int .u8 (en : Int), .int .i16 ev, .int .i64 eb, .int .i64 eg] 59)).cell? ⟨wr.heap.size, 4, none⟩ = some (.int .i64 eb) := by simp
     have d5 : (wr.alloc (.cells #[.int .i64 et, .int .u8 (ek : Int), .int .u8 (en : Int), .int .i16 ev, .int .i64 eb, .int .i64 eg] 59)).cell? ⟨wr.heap.size, 5, none⟩ = some (.int .i64 eg) := by simp
     generalize (wr.alloc (.cells #[.int .i64 et, .int .u8 (ek : Int), .int .u8 (en : Int), .int .i16 ev, .int .i64 eb, .int .i64 eg] 59)) = W at *
     clear k0 k1 k2 k3 k4 k5 HIN
     generalize wr.heap.size = D at *
     have hbW := HIW.out.bl.size
     have hHW := HIW.out.h2
     cases hx : (eg == ng)
     ·have HR2 : Hid (rs ++ [⟨et, ek, en, ev, eb, eg⟩] = leftOf (left.take (i + 1)) ng ∧ tk = taken ++ takenOf (left.take (i + 1)) ng) := by
       show _ ∧ _
       rw [HTA.out, left_snoc, taken_snoc, hx, ← HRS.out]
       exact ⟨rfl, HTK.out⟩
      have HAI : Hid (TkIn w (W.alloc (.cells #[.int .i64 et, .int .u8 (ek : Int), .int .u8 (en : Int), .int .i16 ev, .int .i64 eb, .int .i64 eg] 59)) H left rs tk (some ⟨g, 0, none⟩) lcap ra rcap ta tcap) := HIW.out.below ((Below.refl _ _).alloc (Nat.le_refl _) _)
      go_upto_region 12 with (first | (refine wpList_append_lies _ rfl _ _ _ rfl H 59 j0 _ 6 32 Tryz.underlying53 hj0 hy0 hy1 hy2 rfl (by omega) (.slice ra rs.length rcap) rs.length (evCells rs) rfl HAI.out.rest ⟨W.heap.size, 0, none⟩ 1 1 [Value.int .i64 et, .int .u8 (ek : Int), .int .u8 (en : Int), .int .i16 ev, .int .i64 eb, .int .i64 eg] rfl rfl (World.news_of_block (cs := #[Value.int .i64 et, .int .u8 (ek : Int), .int .u8 (en : Int), .int .i16 ev, .int .i64 eb, .int .i64 eg]) (t := 59) (fr := (0, 0)) (heap_alloc_new W _)) (by simp [Value.oneCell']) (by omega) (by unfold maxLen; omega) (by omega) (by simp; omega) (W.heap.size + 1) (by simp) ?_; intro gg cap1 w5 hown hgrow hat hlt5))
      have HI5 : Hid (TkIn w w5 H left (rs ++ [⟨et, ek, en, ev, eb, eg⟩]) tk (some ⟨g, 0, none⟩) lcap (some ⟨gg, 0, none⟩) cap1 ta tcap) := HAI.out.putRest (e := ⟨et, ek, en, ev, eb, eg⟩) hown hgrow
      clear hown hgrow hat HAI
      go_wp2
      go_roundw
      case rel => exact ⟨i + 1, tk, rs ++ [⟨et, ek, en, ev, eb, eg⟩], some ⟨gg, 0, none⟩, cap1, ta, tcap, by omega, by go_num, rfl, by simp, by simp; omega, (show Hid _ from ⟨HI5.out, HR2.out⟩)⟩
      case measure => simp [intOf]; omega
     ·have HR2 : Hid (rs = leftOf (left.take (i + 1)) ng ∧ tk ++ [et] = taken ++ takenOf (left.take (i + 1)) ng) := by
       show _ ∧ _
       rw [HTA.out, left_snoc, taken_snoc, hx, ← HRS.out]
       refine ⟨rfl, ?_⟩
       have := HTK.out
       simp [← List.append_assoc, ← this]
      have HAI : Hid (TkIn w (W.alloc (.cells #[.int .i64 et] 3)) H left rs tk (some ⟨g, 0, none⟩) lcap ra rcap ta tcap) := HIW.out.below ((Below.refl _ _).alloc (Nat.le_refl _) _)
      go_upto_region 12 with (first | (refine wpList_append_lies _ rfl _ _ _ rfl w.heap.size 3 i0 _ 1 8 Tryz.underlying31 hi0 hz0 hz1 hz2 rfl (by omega) (.slice ta tk.length tcap) tk.length (intCells tk) rfl HAI.out.taken ⟨W.heap.size, 0, none⟩ 1 1 [Value.int .i64 et] rfl rfl (World.news_of_block (cs := #[Value.int .i64 et]) (t := 3) (fr := (0, 0)) (heap_alloc_new W _)) (by simp [Value.oneCell']) (by omega) (by unfold maxLen; omega) (by omega) (by simp; omega) (W.heap.size + 1) (by simp) ?_; intro gg cap1 w5 hown hgrow hat hlt5))
      have HI5 : Hid (TkIn w w5 H left rs (tk ++ [et]) (some ⟨g, 0, none⟩) lcap ra rcap (some ⟨gg, 0, none⟩) cap1) := HAI.out.putTaken hown hgrow
      clear hown hgrow hat HAI
      go_wp2
      go_roundw
      case rel => exact ⟨i + 1, tk ++ [et], rs, ra, rcap, some ⟨gg, 0, none⟩, cap1, by omega, by go_num, by simp, rfl, by simp; omega, (show Hid _ from ⟨HI5.out, HR2.out⟩)⟩
      case measure => simp [intOf]; omega
    ·have hie : i = left.length := by omega
     subst hie
     have HRS : Hid (rs = leftOf left ng) := by show _ = _; rw [H2.out.2.1, List.take_length]
     have HTK : Hid (tk = taken ++ takenOf left ng) := by show _ = _; rw [H2.out.2.2, List.take_length]
     have HO : Hid (OwnsIn wr 0 wr.heap.size 59 6 (.slice ra rs.length rcap) rs.length (evCells rs)) := (ownsRow_in H2.out.1.rest).mono (Nat.zero_le _) (Nat.le_refl _)
     go_wp2_with fail
     refine (nextFree_any rs ra rcap _ (evs_of_owns HO.out.1) (by omega) (owns_cap HO.out.1).1 (owns_cap HO.out.1).2).mono ?_
     rintro e w4 ⟨rfl, hb4⟩
     unfold nextV
     have H4 : Hid (TkIn w w4 w4.heap.size rs [] tk ra rcap none 0 ta tcap) := ⟨(HO.out.below hb4).mono (Nat.le_refl _) hb4.size, World.ownsRow_nil _ _ _ _, ((ownsRow_in H2.out.1.taken).below hb4).1, H2.out.1.bl.trans (hb4.mono H2.out.1.bl.size), Nat.le_trans H2.out.1.bl.size hb4.size, Nat.le_refl _⟩
     clear hb4
     go_wp2
     go_roundw
     case rel =>
      refine ⟨rs, tk, ra, rcap, ta, tcap, by omega, rfl, rfl, rfl, rfl, ?_⟩
      show _ ∧ _
      refine ⟨H4.out, ?_⟩
      rw [HRS.out, HTK.out]
      exact HE.out
     case measure =>
      show rs.length < left.length
      rw [HRS.out]; exact HLT.out

/-- A list of ints comes out, in memory of the call's own; nothing stands for none. -/
def ListSays (l : List Int) (w : World) (v : Value) (w' : World) : Prop :=
 ∃ ca ccap, v = .slice ca l.length ccap ∧ w'.ownsRow w.heap.size 3 1 (.slice ca l.length ccap) l.length (intCells l) ∧ (l = [] → ca = none ∧ ccap = 0)

theorem ListSays.nil (w w' : World) : ListSays [] w (.slice none 0 0) w' := ⟨none, 0, rfl, World.ownsRow_nil _ _ _ _, fun _ => ⟨rfl, rfl⟩⟩

structure CycAt (w1 wr : World) (knot : List Ev) (la : Option Addr) (lcap : Nat) (way : List Int) (wa : Option Addr) (wcap : Nat) : Prop where
 knot : OwnsIn wr 0 w1.heap.size 59 6 (.slice la knot.length lcap) knot.length (evCells knot)
 way : wr.ownsRow w1.heap.size 3 1 (.slice wa way.length wcap) way.length (intCells way)
 bl : Below w1.heap.size w1 wr

theorem CycAt.below {w1 wr wr' : World} {knot : List Ev} {la : Option Addr} {lcap : Nat} {way : List Int} {wa : Option Addr} {wcap : Nat} (h : CycAt w1 wr knot la lcap way wa wcap) (hb : Below wr.heap.size wr wr') : CycAt w1 wr' knot la lcap way wa wcap :=
 ⟨h.knot.below (hb.mono h.bl.size), ((ownsRow_in h.way).below hb).1, h.bl.trans (hb.mono h.bl.size)⟩

theorem cycle_any (es : List Ev) (a : Option Addr) (cap lo : Nat) (w : World) (h : w.ownsRow lo 59 6 (.slice a es.length cap) es.length (evCells es)) (hl : es.length ≤ 4000) :
  Calls Tryz.prog 61 #[.slice a es.length cap] w fun e w' => Below w.heap.size w w' ∧ ∃ v, e = .returned v ∧ ListSays (cycleOf es) w v w' := by
 have H0 : Hid (w.ownsRow lo 59 6 (.slice a es.length cap) es.length (evCells es)) := h
 clear h
 obtain ⟨i0, hi0, hz0, hz1, hz2⟩ := info_parts Tryz.info3
 go_enter Tryz.func61, Tryz.ntmps61
 go_wp2_with fail
 refine (takeGroups_any es a cap lo _ H0.out hl).mono ?_
 rintro e w1 ⟨hb1, ta, tcap, la, lcap, rfl, -, ho1⟩
 have HB1 : Hid _ := hb1
 have HO1 : Hid (w1.ownsRow 0 59 6 (.slice la (takeGroups es).2.length lcap) (takeGroups es).2.length (evCells (takeGroups es).2)) := ho1
 have HC : Hid (cycleOf es = cycOf (takeGroups es).2) := rfl
 have HN : Hid (nextFree (takeGroups es).2 = none) := takeGroups_left es
 have HKL : Hid ((takeGroups es).2.length ≤ 4000) := Nat.le_trans (takeGroups_sub es).length_le hl
 clear hb1 ho1
 generalize (takeGroups es).2 = knot at *
 generalize (takeGroups es).1.length = tn at *
 have hkl := HKL.out
 cases knot with
 | nil =>
  have HE : Hid (cycleOf es = []) := HC.out
  go_wp2
  go_ret
  refine ⟨HB1.out, _, rfl, ?_⟩
  rw [HE.out]; exact ListSays.nil _ _
 | cons k r =>
  have HK0 : Hid (EvsIn w1 la (k :: r)) := evs_of_owns HO1.out
  obtain ⟨g, rfl, hg, hc⟩ := HK0.out (by simp)
  obtain ⟨-, -, -, -, -, k5⟩ := hc 0 k rfl
  have hne : ((((k :: r).length : Nat) : Int) == 0) = false := by simp; omega
  have hpos : (0 : Int) < (((k :: r).length : Nat) : Int) := by simp only [List.length_cons]; omega
  have HKC : Hid (OwnsIn w1 0 w1.heap.size 59 6 (.slice (some ⟨g, 0, none⟩) (k :: r).length lcap) (k :: r).length (evCells (k :: r))) := (ownsRow_in HO1.out).mono (Nat.zero_le _) (Nat.le_refl _)
  have HC2 : Hid (cycleOf es = backTo (cycGo (k :: r) ((k :: r).length + 1) [] k.group).1 (cycGo (k :: r) ((k :: r).length + 1) [] k.group).2 (cycGo (k :: r) ((k :: r).length + 1) [] k.group).1.length []) := HC.out
  have HW0 : Hid (WayOk (k :: r) [] k.group) := ⟨List.nodup_nil, fun x hx => by simp at hx, by simp, fun i x y hx hy => by simp at hy⟩
  have HNE : Hid (cycleOf es ≠ []) := by
   show _ ≠ _
   rw [HC.out]
   intro e
   have := (cycOf_knot HN.out (by simp)).two
   rw [e] at this
   simp at this
  clear hc hg HK0 HC HO1
  have hnn : (0 : Int) * 6 + 5 = 5 := by omega
  simp only [Nat.zero_mul, Nat.zero_add] at k5
  generalize HGE : k.group = kg at *
  clear HGE
  generalize (k :: r) = knot at *
  go_wp2_with fail
  go_loopw [5, 6] (fun v5 v6 wr => ∃ (way : List Int) (gg : Int) (wa : Option Addr) (wcap : Nat), v5 = .int .i64 gg ∧ v6 = .slice wa way.length wcap ∧ way.length ≤ 4000 ∧ Hid (CycAt w1 wr knot (some ⟨g, 0, none⟩) lcap way wa wcap ∧ WayOk knot way gg ∧ ∃ k, knot.length < k + way.length ∧ cycGo knot (knot.length + 1) [] kg = cycGo knot k way gg)) (fun _ v6 _ => 5000 - lenV v6)
  case atStart => exact ⟨[], kg, none, 0, rfl, rfl, by simp, (show Hid _ from ⟨⟨HKC.out, World.ownsRow_nil _ _ _ _, Below.refl _ _⟩, HW0.out, knot.length + 1, by simp, rfl⟩)⟩
  case round =>
   obtain ⟨way, gg, wa, wcap, rfl, rfl, hwl, HH⟩ := hrel
   go_wp2_with fail
   refine (contains_any way wa wcap gg _ (ints_of_owns HH.out.1.way) (by omega)).mono ?_
   rintro e w2 ⟨rfl, rfl⟩
   by_cases hm : gg ∈ way
   ·have hd : decide (gg ∈ way) = true := by simpa using hm
    have HR : Hid (cycleOf es = backTo way gg way.length []) := by
     obtain ⟨k, hk, hE⟩ := HH.out.2.2
     show _ = _
     rw [HC2.out, hE]
     cases k with
     | zero => rfl
     | succ k => rw [cycGo, if_pos hm]
    clear hm
    rw [hd]
    go_wp2_with fail
    refine (backTo_any way wa wcap gg _ (ints_of_owns HH.out.1.way) (by omega)).mono ?_
    rintro e w3 ⟨⟨ca, ccap, rfl, ho⟩, hb3⟩
    have HO3 : Hid _ := ho
    clear ho
    go_wp2
    go_ret
    have hbw := HB1.out.trans ((HH.out.1.bl.trans (hb3.mono HH.out.1.bl.size)).mono HB1.out.size)
    refine ⟨hbw, _, rfl, ?_⟩
    rw [HR.out]
    exact ⟨ca, ccap, rfl, ((ownsRow_in HO3.out).mono (Nat.le_trans HB1.out.size HH.out.1.bl.size) (Nat.le_refl _)).1, fun e => absurd (HR.out.trans e) HNE.out⟩
   ·have hd : decide (gg ∈ way) = false := by simpa using hm
    have HWN : Hid (WayOk knot (way ++ [gg]) ((aheadOf knot gg).getD 0)) := HH.out.2.1.next HN.out hm
    have HKN : Hid (∃ k, knot.length < k + (way ++ [gg]).length ∧ cycGo knot (knot.length + 1) [] kg = cycGo knot k (way ++ [gg]) ((aheadOf knot gg).getD 0)) := by
     obtain ⟨k, hk, hE⟩ := HH.out.2.2
     show ∃ k, _
     cases k with
     | zero => have := HH.out.2.1.len; omega
     | succ k => exact ⟨k, by simp; omega, by rw [hE, cycGo, if_neg hm]⟩
    have hln := HWN.out.len
    simp only [List.length_append, List.length_singleton] at hln
    have hls : way.length + 1 ≤ 4000 := by have := HKL.out; omega
    have HC2' : Hid (CycAt w1 w2 knot (some ⟨g, 0, none⟩) lcap way wa wcap) := HH.out.1
    have HCA : Hid (CycAt w1 (w2.alloc (.cells #[.int .i64 gg] 3)) knot (some ⟨g, 0, none⟩) lcap way wa wcap) := HH.out.1.below ((Below.refl _ _).alloc (Nat.le_refl _) _)
    have hzz := HC2'.out.bl.size
    clear hm HH
    rw [hd]
    go_upto_region 8 with (first | (refine wpList_append_lies _ rfl _ _ _ rfl w1.heap.size 3 i0 _ 1 8 Tryz.underlying31 hi0 hz0 hz1 hz2 rfl (by omega) (.slice wa way.length wcap) way.length (intCells way) rfl HCA.out.way ⟨w2.heap.size, 0, none⟩ 1 1 [Value.int .i64 gg] rfl rfl (World.news_of_block (cs := #[Value.int .i64 gg]) (t := 3) (fr := (0, 0)) (heap_alloc_new w2 _)) (by simp [Value.oneCell']) (by omega) (by unfold maxLen; omega) (by omega) (by simp; omega) (w2.heap.size + 1) (by simp) ?_; intro g5 cap1 w5 hown hgrow hat hlt5))
    have H5 : Hid (CycAt w1 w5 knot (some ⟨g, 0, none⟩) lcap (way ++ [gg]) (some ⟨g5, 0, none⟩) cap1) := by
     refine ⟨HCA.out.knot.of_block fun x hx => hgrow.block x (HCA.out.knot.1.lt x hx).2 (fun e => ?_), by simpa [intCells] using hown, HCA.out.bl.grown hgrow HCA.out.bl.size (fun y hy => (HCA.out.way.lt y hy).1)⟩
     have h1 := HCA.out.knot.2 x hx
     have h2 := (HCA.out.way.lt x e.symm).1
     omega
    clear hown hgrow hat HCA HC2'
    go_wp2_with fail
    refine (aheadOf_any knot (some ⟨g, 0, none⟩) lcap gg _ (evs_of_owns H5.out.knot.1) (by omega) (owns_cap H5.out.knot.1).1 (owns_cap H5.out.knot.1).2).mono ?_
    rintro e w6 ⟨rfl, hb6⟩
    have H6 : Hid (CycAt w1 w6 knot (some ⟨g, 0, none⟩) lcap (way ++ [gg]) (some ⟨g5, 0, none⟩) cap1) := H5.out.below hb6
    clear hb6 H5
    obtain ⟨gx, hgx, hgd⟩ : ∃ gx, aheadV (aheadOf knot gg) = .tuple #[.int .i64 gx, .bool (aheadOf knot gg).isSome] ∧ gx = (aheadOf knot gg).getD 0 := by
     cases aheadOf knot gg with
     | none => exact ⟨0, rfl, rfl⟩
     | some y => exact ⟨y, rfl, rfl⟩
    rw [hgx]
    rw [← hgd] at HWN HKN
    clear hgx hgd
    go_wp2
    go_roundw
    case rel => exact ⟨way ++ [gg], gx, some ⟨g5, 0, none⟩, cap1, rfl, by simp, by simp; omega, (show Hid _ from ⟨H6.out, HWN.out, HKN.out⟩)⟩
    case measure => simp [lenV]; omega

theorem arrange_any (es : List Ev) (a : Option Addr) (cap lo : Nat) (w : World) (h : w.ownsRow lo 59 6 (.slice a es.length cap) es.length (evCells es)) (hl : es.length ≤ 4000) :
  Calls Tryz.prog 64 #[.slice a es.length cap] w fun e w' => Below w.heap.size w w' ∧ (((takeGroups es).2 ≠ [] ∧ e = .returned (.tuple #[.slice none 0 0, .bool false])) ∨ ((takeGroups es).2 = [] ∧ ∃ ta tcap, e = .returned (.tuple #[.slice ta (takeGroups es).1.length tcap, .bool true]) ∧ w'.ownsRow w.heap.size 3 1 (.slice ta (takeGroups es).1.length tcap) (takeGroups es).1.length (intCells (takeGroups es).1))) := by
 have H0 : Hid (w.ownsRow lo 59 6 (.slice a es.length cap) es.length (evCells es)) := h
 clear h
 go_enter Tryz.func64, Tryz.ntmps64
 go_wp2_with fail
 refine (takeGroups_any es a cap lo _ H0.out hl).mono ?_
 rintro e w1 ⟨hb1, ta, tcap, la, lcap, rfl, ho1, -⟩
 obtain ⟨taken, knot, htk⟩ : ∃ taken knot, takeGroups es = (taken, knot) := ⟨_, _, rfl⟩
 rw [htk] at ho1 ⊢
 simp only at ho1 ⊢
 have HB1 : Hid _ := hb1
 have HO1 : Hid (w1.ownsRow w.heap.size 3 1 (.slice ta taken.length tcap) taken.length (intCells taken)) := ho1
 have HTK : Hid _ := htk
 clear hb1 ho1 htk
 cases knot with
 | nil =>
  go_wp2
  go_ret2
  refine ⟨HB1.out, .inr ?_⟩
  rw [HTK.out]
  exact ⟨rfl, ta, tcap, rfl, HO1.out⟩
 | cons k r =>
  have hpos : (0 : Int) < (((k :: r).length : Nat) : Int) := by simp only [List.length_cons]; omega
  have HNE : Hid ((takeGroups es).2 ≠ []) := by show _ ≠ _; rw [HTK.out]; simp
  clear HTK
  generalize (k :: r) = knot at *
  go_wp2
  go_ret2
  exact ⟨HB1.out, .inl ⟨HNE.out, rfl⟩⟩

attribute [local go_sem ↓] Go.wp_at_zero Go.wp_at_succ exec_load_state
attribute [local go_sem] ptrB isPtr0 aggL

theorem follow_pos (p : List (List Pl.POp)) : ∀ (ms : List Int) (S : St) (es : List Ev) (g : Nat) (S1 : St) (es1 : List Ev), StOk S p → follow p S es g ms = some (S1, es1) → StOk S1 p ∧ es1.length + posSum S ≤ es.length + posSum S1
 | [], S, es, g, S1, es1, hS, h => by
  simp only [follow, Option.some.injEq, Prod.mk.injEq] at h
  obtain ⟨rfl, rfl⟩ := h
  exact ⟨hS, Nat.le_refl _⟩
 | m :: ms, S, es, g, S1, es1, hS, h => by
  rw [follow] at h
  cases hs : step S p m with
  | none => rw [hs] at h; cases h
  | some x =>
   obtain ⟨S', e⟩ := x
   rw [hs] at h
   obtain ⟨a, b⟩ := follow_pos p ms _ _ _ _ _ (step_ok hS hs) h
   have := step_pos hs
   simp at b
   exact ⟨a, by omega⟩

theorem follow_short {w : World} {lo hi : Nat} {a : Option Addr} {cap : Nat} {p : List (List Pl.POp)} (hp : ProgOk w lo hi a cap p) {ms : List Int} {S : St} {es : List Ev} (h : follow p (beginTo p 4) [] 0 ms = some (S, es)) : es.length ≤ 4000 := by
 obtain ⟨h1, h2⟩ := follow_pos p ms _ _ _ _ _ (begin_ok p) h
 have := posSum_le hp h1
 simp at h2
 omega

def CycleSays (p : List (List Pl.POp)) (ms : List Int) (w : World) (e : Ending) (w' : World) : Prop :=
 Below w.heap.size w w' ∧ match follow p (beginTo p 4) [] 0 ms with
 | none => e = .returned (.tuple #[.slice none 0 0, .int .i64 4])
 | some (S, es) => ∃ v, e = .returned (.tuple #[v, .int .i64 0]) ∧ ListSays (cycleOf es) w v w'

def ArrangeSays (p : List (List Pl.POp)) (ms : List Int) (w : World) (e : Ending) (w' : World) : Prop :=
 Below w.heap.size w w' ∧ match follow p (beginTo p 4) [] 0 ms with
 | none => e = .returned (.tuple #[.slice none 0 0, .int .i64 4])
 | some (S, es) => ((takeGroups es).2 ≠ [] ∧ e = .returned (.tuple #[.slice none 0 0, .int .i64 5])) ∨ ((takeGroups es).2 = [] ∧ ∃ ta tcap, e = .returned (.tuple #[.slice ta (takeGroups es).1.length tcap, .int .i64 0]) ∧ w'.ownsRow w.heap.size 3 1 (.slice ta (takeGroups es).1.length tcap) (takeGroups es).1.length (intCells (takeGroups es).1))

theorem progCycle_any (p : List (List Pl.POp)) (lo hi b : Nat) (ms : List Int) (sa : Option Addr) (scap : Nat) (w : World) (hp : ProgIn w lo hi b p) (hs : Tiny p) (hh : hi ≤ w.heap.size) (hm : IntsIn w sa ms) (hlen : ms.length ≤ maxLen) :
  Calls Tryz.prog 40 #[.pointer (some ⟨b, 0, none⟩), .slice sa ms.length scap] w fun e w' => CycleSays p ms w e w' := by
 obtain ⟨a, cap, hbh, hc, hok⟩ := hp.ok hs hh
 have HM : Hid _ := hm
 have HOK : Hid _ := hok
 have HL : Hid _ := hlen
 clear hm hok hlen hp hs
 go_enter Tryz.func40, Tryz.ntmps40
 go_wp2_with fail
 refine (follow_any p a cap lo hi ms sa scap _ HOK.out HM.out HL.out).mono ?_
 rintro e w1 hf
 obtain ⟨S', ea, n, ecap, c, rfl, hF, hT⟩ := followSays_form hf
 have hb1 := hf.1
 have HF : Hid (c = false → _) := hF
 have HT : Hid (c = true → _) := hT
 clear hF hT hf
 have HXT : Hid ((w1.alloc (.cells z24 108)).there w1.heap.size 0 (stL S').toArray.size) := new_there w1
 have HXB : Hid (Below w1.heap.size w1 ((w1.alloc (.cells z24 108)).setCells w1.heap.size 0 (stL S').toArray.toList)) := new_below w1 _
 go_upto_region 2 with (first | (refine wpList_store_mid rfl 108 _ _ rfl w1.heap.size 0 (stL S').toArray rfl rfl (by exact HXT.out) Tryz.size108 (all_oneCell_toArray (stL_one _)) ?_; generalize ((w1.alloc (.cells z24 108)).setCells w1.heap.size 0 (stL S').toArray.toList) = X at *))
 have HBX : Hid (Below w.heap.size w X) := hb1.trans (HXB.out.mono hb1.size)
 cases c
 ·have HN : Hid _ := HF.out rfl
  clear HF HT
  go_wp2
  go_ret2
  refine ⟨HBX.out, ?_⟩
  rw [HN.out]; rfl
 ·obtain ⟨es, hfo, rfl, ho⟩ := HT.out rfl
  have HFO : Hid _ := hfo
  have HO : Hid (X.ownsRow w.heap.size 59 6 (.slice ea es.length ecap) es.length (evCells es)) := ((ownsRow_in ho).below HXB.out).1
  have HEL : Hid (es.length ≤ 4000) := follow_short HOK.out hfo
  clear HF HT hfo ho
  go_wp2_with fail
  refine (cycle_any es ea ecap w.heap.size _ HO.out HEL.out).mono ?_
  rintro e w3 ⟨hb3, v, rfl, ca, ccap, rfl, ho3, hn3⟩
  have HO3 : Hid (w3.ownsRow X.heap.size 3 1 (.slice ca (cycleOf es).length ccap) (cycleOf es).length (intCells (cycleOf es))) := ho3
  have HN3 : Hid _ := hn3
  clear ho3 hn3
  go_wp2
  go_ret2
  refine ⟨HBX.out.trans (hb3.mono HBX.out.size), ?_⟩
  rw [HFO.out]
  exact ⟨_, rfl, ca, ccap, rfl, ((ownsRow_in HO3.out).mono HBX.out.size (Nat.le_refl _)).1, HN3.out⟩

theorem progArrange_any (p : List (List Pl.POp)) (lo hi b : Nat) (ms : List Int) (sa : Option Addr) (scap : Nat) (w : World) (hp : ProgIn w lo hi b p) (hs : Tiny p) (hh : hi ≤ w.heap.size) (hm : IntsIn w sa ms) (hlen : ms.length ≤ maxLen) :
  Calls Tryz.prog 43 #[.pointer (some ⟨b, 0, none⟩), .slice sa ms.length scap] w fun e w' => ArrangeSays p ms w e w' := by
 obtain ⟨a, cap, hbh, hc, hok⟩ := hp.ok hs hh
 have HM : Hid _ := hm
 have HOK : Hid _ := hok
 have HL : Hid _ := hlen
 clear hm hok hlen hp hs
 go_enter Tryz.func43, Tryz.ntmps43
 go_wp2_with fail
 refine (follow_any p a cap lo hi ms sa scap _ HOK.out HM.out HL.out).mono ?_
 rintro e w1 hf
 obtain ⟨S', ea, n, ecap, c, rfl, hF, hT⟩ := followSays_form hf
 have hb1 := hf.1
 have HF : Hid (c = false → _) := hF
 have HT : Hid (c = true → _) := hT
 clear hF hT hf
 have HXT : Hid ((w1.alloc (.cells z24 108)).there w1.heap.size 0 (stL S').toArray.size) := new_there w1
 have HXB : Hid (Below w1.heap.size w1 ((w1.alloc (.cells z24 108)).setCells w1.heap.size 0 (stL S').toArray.toList)) := new_below w1 _
 go_upto_region 2 with (first | (refine wpList_store_mid rfl 108 _ _ rfl w1.heap.size 0 (stL S').toArray rfl rfl (by exact HXT.out) Tryz.size108 (all_oneCell_toArray (stL_one _)) ?_; generalize ((w1.alloc (.cells z24 108)).setCells w1.heap.size 0 (stL S').toArray.toList) = X at *))
 have HBX : Hid (Below w.heap.size w X) := hb1.trans (HXB.out.mono hb1.size)
 cases c
 ·have HN : Hid _ := HF.out rfl
  clear HF HT
  go_wp2
  go_ret2
  refine ⟨HBX.out, ?_⟩
  rw [HN.out]; rfl
 ·obtain ⟨es, hfo, rfl, ho⟩ := HT.out rfl
  have HFO : Hid _ := hfo
  have HO : Hid (X.ownsRow w.heap.size 59 6 (.slice ea es.length ecap) es.length (evCells es)) := ((ownsRow_in ho).below HXB.out).1
  have HEL : Hid (es.length ≤ 4000) := follow_short HOK.out hfo
  clear HF HT hfo ho
  go_wp2_with fail
  refine (arrange_any es ea ecap w.heap.size _ HO.out HEL.out).mono ?_
  rintro e w3 ⟨hb3, ⟨hk, rfl⟩ | ⟨hk, ta, tcap, rfl, ho3⟩⟩
  ·have HK : Hid _ := hk
   clear hk
   go_wp2
   go_ret2
   refine ⟨HBX.out.trans (hb3.mono HBX.out.size), ?_⟩
   rw [HFO.out]
   exact .inl ⟨HK.out, rfl⟩
  ·have HK : Hid _ := hk
   have HO3 : Hid (w3.ownsRow X.heap.size 3 1 (.slice ta (takeGroups es).1.length tcap) (takeGroups es).1.length (intCells (takeGroups es).1)) := ho3
   clear hk ho3
   go_wp2
   go_ret2
   refine ⟨HBX.out.trans (hb3.mono HBX.out.size), ?_⟩
   rw [HFO.out]
   exact .inr ⟨HK.out, ta, tcap, rfl, ((ownsRow_in HO3.out).mono HBX.out.size (Nat.le_refl _)).1⟩

end Go.Proofs.YtfdafcnfefbcbabGreat
