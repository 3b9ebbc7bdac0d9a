/-
  The contracts of given (with what is known of its text) and of line (with why it ended).
-/
import Derived.Test.YtfdafcnfefbcbabLine
import Derived.Test.YtfdafcnfefbcbabPla
namespace Go.Proofs.Ytfdafcnfefbcbab
open Go.RowKit
set_option linter.unusedVariables false

set_option maxRecDepth 100000 in
set_option maxHeartbeats 1000000 in
theorem given3_any (os : List Raw) (a : Option Addr) (cap : Nat) (w : World) (hr : RawsIn w a os) (hl : os.length ≤ 140737488351232) :
    Calls Try.prog 5 #[.slice a os.length cap] w fun e w' => (∃ b p, e = .returned (.tuple #[.pointer (some ⟨b, 0, none⟩), .bool true]) ∧ ProgIn w' w.heap.size w'.heap.size b p ∧ Tiny p ∧ Pl.countShared p ≤ 10 ∧ Names p ∧ ContP p) ∧ Below w.heap.size w w' := by
  have HR : Hid _ := hr
  clear hr
  go_enter Try.func5, Try.ntmps5
  go_wp2_with fail
  refine (text_any os a cap _ HR.out hl).mono ?_
  rintro e w1 ⟨⟨s, rfl, hs⟩, hb1⟩
  have hla : lastTo (txAll os) 4 < 4 := by
    unfold lastTo lastTo lastTo lastTo lastTo
    repeat' split
    all_goals omega
  obtain ⟨p, hp⟩ := join_new (txAll_ok os) _ hla
  have hz : s.size ≤ 100 := by
    have h1 := bytesOf_length s
    have h2 := (join_bounds (txAll_ok os) _ hla).1
    rw [hs] at h1
    omega
  rw [← hs] at hp
  have HP : Hid _ := hp
  have HB1 : Hid _ := hb1
  clear hla hs hp hb1
  go_wp2_with fail
  refine (new_any s _ (by unfold maxLen; omega)).mono ?_
  rintro e w2 hn
  have hb2 := HB1.out.trans (hn.1.mono HB1.out.size)
  rw [HP.out] at hn
  obtain ⟨h1, b, rfl, h2⟩ := hn
  have H2 : Hid _ := h2
  have HZ : Hid _ := HB1.out.size
  have HB2 : Hid _ := hb2
  clear h1 h2 hb2
  go_wp2
  go_ret2
  refine ⟨⟨b, p, rfl, ?_, new_tiny (bytesOf_lt _) HP.out, new_count HP.out, new_names HP.out, new_cont HP.out⟩, HB2.out⟩
  obtain ⟨g1, g2, a', cap', g3, g4⟩ := H2.out
  exact ⟨Nat.le_trans HZ.out g1, g2, a', cap', g3, g4.mono HZ.out (Nat.le_refl _)⟩

def LineSays2 (p : List (List Pl.POp)) (n : Nat) (w : World) (e : Ending) (w' : World) : Prop :=
  ∃ ms ma mcap S es, e = .returned (.tuple #[.slice ma ms.length mcap, .bool true]) ∧ LineAt p w w' ms ma mcap S es ∧ (readyTo S p 4 = [] ∨ ms.length = n)

set_option maxRecDepth 100000 in
set_option maxHeartbeats 1000000 in
theorem line2_any (p : List (List Pl.POp)) (lo hi b : Nat) (rs : List Int) (ra : Option Addr) (rcap : Nat) (w : World) (hp : ProgIn w lo hi b p) (hs : Tiny p) (hc10 : Pl.countShared p ≤ 10) (hh : hi ≤ w.heap.size) (hr : NumsIn w ra rs) (hl : rs.length ≤ 140737488351232) :
    Calls Try.prog 16 #[.pointer (some ⟨b, 0, none⟩), .slice ra rs.length rcap] w fun e w' => LineSays2 p rs.length w e w' := by
  have HP : Hid (ProgIn w lo hi b p) := hp
  have HS : Hid _ := hs
  have HR : Hid _ := hr
  have HC : Hid _ := hc10
  clear hp hs hr hc10
  obtain ⟨i0, hi0, hz0, hz1, hz2⟩ := info_parts Try.info3
  go_enter Try.func16, Try.ntmps16
  go_wp2_with fail
  go_loopw [6, 7] (fun v6 v7 wr => ∃ (ms : List Int) (ma : Option Addr) (mcap : Nat) (S : St) (es : List Ev), ms.length ≤ rs.length ∧ ms.length ≤ 10 ∧ v7 = .int .i64 (ms.length : Int) ∧ v6 = .slice ma ms.length mcap ∧ Hid (LineAt p w wr ms ma mcap S es)) (fun _ v7 _ => rs.length - (intOf v7).toNat)
  case atStart => exact ⟨[], none, 0, beginTo p 4, [], Nat.zero_le _, Nat.zero_le _, rfl, rfl, (show Hid _ from ⟨World.ownsRow_nil _ _ _ _, Below.refl _ _, rfl, fun _ => ⟨rfl, rfl⟩⟩)⟩
  case round =>
    obtain ⟨ms, ma, mcap, S, es, hml, hm10, rfl, rfl, HH⟩ := hrel
    have h10' : (ms.length : Int) ≤ 10 := by omega
    by_cases hlt : ms.length < rs.length
    · have hlt' : (ms.length : Int) < (rs.length : Int) := by omega
      go_wp2_with fail
      refine (progReady_any p lo hi b ms ma mcap _ (HP.out.below (HH.out.bl.mono hh)) HS.out (Nat.le_trans hh HH.out.bl.size) (ints_of_owns HH.out.own) (by unfold maxLen; omega)).mono ?_
      rintro e w1 hrs
      unfold ReadySays at hrs
      rw [HH.out.fol] at hrs
      obtain ⟨hb1, la, lcap, rfl, ho1⟩ := hrs
      have hrl := readyTo_length S p 4
      have HOK : Hid _ := follow_len HH.out.fol
      have HOM : Hid (w1.ownsRow w.heap.size 3 1 (.slice ma ms.length mcap) ms.length (intCells ms)) := ((ownsRow_in HH.out.own).below hb1).1
      have HB1 : Hid (Below w.heap.size w w1) := HH.out.bl.trans (hb1.mono HH.out.bl.size)
      have hzw := HB1.out.size
      by_cases hrd : readyTo S p 4 = []
      · have hr0 : Hid _ := hrd
        rw [hrd]
        clear hrl ho1 hrd
        go_wp2
        go_ret2
        exact ⟨ms, ma, mcap, S, es, rfl, ⟨HOM.out, HB1.out, HH.out.fol, HH.out.nil⟩, .inl hr0.out⟩
      · have hpos : 0 < (readyTo S p 4).length := List.length_pos_iff.2 hrd
        have h9 : ms.length + 1 ≤ 10 := by
          obtain ⟨x, hx⟩ := List.length_pos_iff_exists_mem.1 hpos
          have := can_rem HOK.out.1 ((mem_ready4 S p x).1 hx)
          have := HOK.out.2.2
          have := HC.out
          omega
        have hne : (((readyTo S p 4).length : Int) == 0) = false := by simp; exact hrd
        obtain ⟨g, o, rfl, hg, hgc⟩ := HR.out (by omega)
        obtain ⟨c0, hin⟩ := hgc ms.length rs[ms.length] (List.getElem?_eq_getElem hlt)
        have d0 := (HB1.out.cell (p := ⟨g, o + ms.length, none⟩) hg).trans c0
        have HIN : Hid _ := hin
        generalize rs[ms.length] = x at *
        have hpk := pickOf_lt x ((readyTo S p 4).length : Int) (by omega)
        obtain ⟨j, hj⟩ : ∃ j : Nat, pickOf x ((readyTo S p 4).length : Int) = (j : Int) := ⟨(pickOf x ((readyTo S p 4).length : Int)).toNat, by omega⟩
        have hjl : j < (readyTo S p 4).length := by omega
        obtain ⟨lb, rfl, -, hlb, -, -, hlc, -⟩ := owns_cells ho1 hpos
        have e0 : w1.cell? ⟨lb, j, none⟩ = some (.int .i64 (readyTo S p 4)[j]) := hlc j _ (by simp [intCells, hjl])
        have HMEM : Hid (canStep S p (readyTo S p 4)[j] = true) := (mem_ready4 S p _).1 (List.getElem_mem hjl)
        have HJ : Hid _ := hj
        have hjl' : (j : Int) < ((readyTo S p 4).length : Int) := by omega
        have hj0 : (0 : Int) ≤ (j : Int) := by omega
        clear c0 hgc hin hlc ho1 hrd hpk hj
        generalize (readyTo S p 4)[j] = m at *
        generalize (readyTo S p 4).length = n at *
        go_wp2_with fail
        refine (pick_any x (n : Int) _ HIN.out (by omega) (by omega)).mono ?_
        rintro e w2 ⟨rfl, rfl⟩
        rw [HJ.out]
        go_wp2_with (first | (refine wpList_append_lies _ rfl _ _ _ rfl w.heap.size 3 i0 _ 1 8 Try.underlying23 hi0 hz0 hz1 hz2 rfl (by omega) (.slice ma ms.length mcap) ms.length (intCells ms) rfl (HOM.out.alloc _) ⟨w2.heap.size, 0, none⟩ 1 1 [Value.int .i64 m] rfl rfl (World.news_of_block (cs := #[Value.int .i64 m]) (t := 3) (fr := (0, 0)) (heap_alloc_new w2 _)) (by simp [Value.oneCell']) (by omega) (by unfold maxLen; omega) (by omega) (by simp; omega) (w2.heap.size + 1) (by simp) ?_; intro gg cap1 w5 hown hgrow hat hlt5))
        go_roundw
        case rel =>
          have hst := step_iff S p m
          rw [HMEM.out] at hst
          obtain ⟨⟨S2, ev⟩, hx⟩ := Option.isSome_iff_exists.1 hst
          obtain ⟨gr, hf⟩ := (follow_snoc HH.out.fol m).2 S2 ev hx
          refine ⟨ms ++ [m], some ⟨gg, 0, none⟩, cap1, S2, _, by simp; omega, by simp; omega, by simp, by simp, (show Hid _ from ⟨by simpa [intCells] using hown, ?_, hf, fun h => by simp at h⟩)⟩
          exact HB1.out.trans (Below.grown ((Below.refl w.heap.size w2).alloc (by omega) _) hgrow (by simp; omega) (fun y hy => (HOM.out.lt y hy).1))
        case measure => simp [intOf]; omega
    · have hlt' : ¬ (ms.length : Int) < (rs.length : Int) := by omega
      go_wp2
      go_ret2
      exact ⟨ms, ma, mcap, S, es, rfl, HH.out, .inr (by omega)⟩

end Go.Proofs.Ytfdafcnfefbcbab
