/-
  The law Arranged: its walk.
-/
import Derived.Test.YtfdafcnfefbcbaaAlike
import Derived.Test.YtfdafcnfefbcbaaKeep2
import Derived.Test.YtfdafcnfefbcbaaRawArgs
namespace Go.Proofs.Ytfdafcnfefbcbaa
open Go.RowKit
set_option linter.unusedVariables false

/-- Each beginning of a run is one, its events the first of the run's. -/
theorem follow_take {p : List (List Pl.POp)} {S : St} {ms : List Int} {S1 : St} {es : List Ev} (h : follow p S [] 0 ms = some (S1, es)) (k : Nat) : ∃ S' es', follow p S [] 0 (ms.take k) = some (S', es') ∧ List.Sublist es' es := by
  have hs : ms = ms.take k ++ ms.drop k := (List.take_append_drop k ms).symm
  cases hf : follow p S [] 0 (ms.take k) with
  | none =>
    have := follow_none p (ms.take k) S [] 0 (ms.drop k) hf
    rw [← hs, h] at this
    cases this
  | some x =>
    obtain ⟨S', es'⟩ := x
    refine ⟨S', es', rfl, ?_⟩
    obtain ⟨g1, h1⟩ := follow_append p _ _ _ _ _ _ hf
    have h2 := h1 (ms.drop k)
    rw [← hs, h, follow_run0] at h2
    cases hr : run0 p S' (ms.drop k) with
    | none => rw [hr] at h2; cases h2
    | some y =>
      rw [hr] at h2
      simp only [Option.map_some, Option.some.injEq, Prod.mk.injEq] at h2
      rw [h2.2]
      exact List.sublist_append_left _ _

theorem ints_take {w : World} {a : Option Addr} {ms : List Int} (h : IntsIn w a ms) (k : Nat) (hk : k ≤ ms.length) : IntsIn w a (ms.take k) := fun h0 => by
  have hk0 : 0 < k := by simp at h0; omega
  obtain ⟨g, e, hg, hc⟩ := h (by omega)
  refine ⟨g, e, hg, fun i m hm => hc i m ?_⟩
  rw [List.getElem?_take] at hm
  split at hm
  · exact hm
  · cases hm

set_option maxRecDepth 100000 in
set_option maxHeartbeats 4000000 in
theorem arranged_walk (os : List Raw) (rs : List Int) (t : Int) (a ra : Option Addr) (cap rcap : Nat) (w : World) (h : RawArgs w a os ra rs) (ht : InI64 t) :
    Calls Try.prog 11 #[.slice a os.length cap, .slice ra rs.length rcap, .int .i64 t] w fun e w' => e = .returned (.bool true) ∧ Below w.heap.size w w' := by
  have HH : Hid _ := h
  have HT : Hid _ := ht
  clear h ht
  go_enter Try.func11, Try.ntmps11
  go_wp2_with fail
  refine (sure_any _).mono ?_
  rintro e w1 ⟨rfl, hb1⟩
  go_wp2_with fail
  refine (given3_any os a cap _ (HH.out.ops.below hb1) HH.out.lenO).mono ?_
  rintro e w2 ⟨⟨b, p, rfl, hp2, hs, hc10, hnm, hcp⟩, hb2⟩
  have HB2 : Hid (Below w.heap.size w w2) := hb1.trans (hb2.mono hb1.size)
  have HP2 : Hid (ProgIn w2 w1.heap.size w2.heap.size b p) := hp2
  have HS : Hid _ := hs
  have HC : Hid _ := hc10
  have HNM : Hid _ := hnm
  clear hb1 hb2 hp2 hs hc10 hnm hcp
  go_wp2_with fail
  refine (line_any p w1.heap.size w2.heap.size b rs ra rcap _ HP2.out HS.out HC.out (Nat.le_refl _) (NumsIn.below HH.out.nums HB2.out) HH.out.lenR).mono ?_
  rintro e w3 ⟨ms, ma, mcap, S, es, rfl, hl3⟩
  have HL3 : Hid _ := hl3
  have HP3 : Hid (ProgIn w3 w1.heap.size w2.heap.size b p) := HP2.out.below hl3.bl
  have HLEN : Hid _ := follow_len hl3.fol
  have HSH : Hid (ms.length ≤ maxLen) := by have := HLEN.out.2.2; have := HC.out; show _ ≤ _; unfold maxLen; omega
  have hm10 : ms.length ≤ 10 := by have := HLEN.out.2.2; have := HC.out; omega
  have HEL : Hid (es.length = ms.length) := HLEN.out.2.1
  have HZ3 : Hid (w2.heap.size ≤ w3.heap.size) := hl3.bl.size
  clear hl3
  go_wp2_with fail
  refine (events_any p w1.heap.size w2.heap.size b ms ma mcap _ HP3.out HS.out HZ3.out (ints_of_owns HL3.out.own) HSH.out).mono ?_
  rintro e w4 hev
  unfold EventsSays at hev
  rw [HL3.out.fol] at hev
  obtain ⟨hb4, ea, ecap, rfl, ho4⟩ := hev
  rw [HEL.out] at ho4 ⊢
  have HO4 : Hid (EvsIn w4 ea es) := evs_of_owns (cap := ecap) (by rw [HEL.out]; exact ho4)
  have HB4 : Hid (Below w2.heap.size w2 w4) := HL3.out.bl.trans (hb4.mono HZ3.out)
  have HM4 : Hid (IntsIn w4 ma ms) := IntsIn.below (ints_of_owns HL3.out.own) hb4
  have HF : Hid (follow p (beginTo p 4) [] 0 ms = some (S, es)) := HL3.out.fol
  have HCAP : Hid _ := owns_cap HL3.out.own
  clear hb4 ho4 HP3 HZ3
  go_wp2_with fail
  refine (progCycle_any p w1.heap.size w2.heap.size b ms ma mcap _ (HP2.out.below HB4.out) HS.out HB4.out.size HM4.out HSH.out).mono ?_
  rintro e w5 hcs
  unfold CycleSays at hcs
  rw [HF.out] at hcs
  obtain ⟨hb5, v, rfl, ca, ccap, rfl, ho5, -⟩ := hcs
  have HB5 : Hid (Below w2.heap.size w2 w5) := HB4.out.trans (hb5.mono HB4.out.size)
  have HM5 : Hid (IntsIn w5 ma ms) := IntsIn.below HM4.out hb5
  have HE5 : Hid (EvsIn w5 ea es) := EvsIn.below HO4.out hb5
  have HC5 : Hid (IntsIn w5 ca (cycleOf es)) := ints_of_owns ho5
  clear hb5 ho5 HM4 HO4
  go_wp2_with fail
  refine (progArrange_any p w1.heap.size w2.heap.size b ms ma mcap _ (HP2.out.below HB5.out) HS.out HB5.out.size HM5.out HSH.out).mono ?_
  rintro e w6 has
  unfold ArrangeSays at has
  rw [HF.out] at has
  obtain ⟨hb6, has⟩ := has
  have HB6 : Hid (Below w2.heap.size w2 w6) := HB5.out.trans (hb6.mono HB5.out.size)
  have HM6 : Hid (IntsIn w6 ma ms) := IntsIn.below HM5.out hb6
  have HE6 : Hid (EvsIn w6 ea es) := EvsIn.below HE5.out hb6
  have HC6 : Hid (IntsIn w6 ca (cycleOf es)) := IntsIn.below HC5.out hb6
  have HW6 : Hid (Below w.heap.size w w6) := HB2.out.trans (HB6.out.mono HB2.out.size)
  clear hb6 HM5 HE5 HC5
  rcases has with ⟨hk, rfl⟩ | ⟨hk, ta, tcap, rfl, ho6⟩
  · have hcn : cycleOf es ≠ [] := fun e => hk (cycleOf_nil.1 e)
    have HKN : Hid (KnotOk es (cycleOf es)) := cycleOf_knot hcn
    have hpos : (0 : Int) < ((cycleOf es).length : Int) := by have := List.length_pos_iff.2 hcn; omega
    have HCL : Hid ((cycleOf es).length ≤ 4000) := by
      show _ ≤ _
      have h1 := nodup_le (cycleOf es) (es.map Ev.group) HKN.out.nd (fun x hx => by
        obtain ⟨i, hi⟩ := List.getElem?_of_mem hx
        have hl := (List.getElem?_eq_some_iff.1 hi).1
        obtain ⟨x', y', hs', h2, -⟩ := HKN.out.ahead i x _ hi (List.getElem?_eq_getElem (Nat.mod_lt _ (by omega)))
        exact List.mem_map.2 ⟨x', hs'.subset (by simp), h2⟩)
      simp at h1
      have := HEL.out
      omega
    clear hk hcn
    generalize cycleOf es = cy at *
    go_wp2_with fail
    have hcall := knot_true es ea ecap cy ca ccap w6 HE6.out (by have := HEL.out; omega) HC6.out HCL.out HKN.out
    rw [HEL.out] at hcall
    refine Calls.mono hcall ?_
    clear hcall
    rintro e w7 ⟨rfl, hb7⟩
    have HW7 : Hid (Below w.heap.size w w7) := HW6.out.trans (hb7.mono HW6.out.size)
    clear hb7
    go_wp2
    go_ret
    exact ⟨rfl, HW7.out⟩
  · have HCY : Hid (cycleOf es = []) := cycleOf_nil.2 hk
    obtain ⟨es', hf', hT', hl'⟩ := arranged_run HNM.out (begin_ok p) HF.out hk
    have HO6 : Hid (w6.ownsRow w5.heap.size 3 1 (.slice ta (takeGroups es).1.length tcap) (takeGroups es).1.length (intCells (takeGroups es).1)) := ho6
    have HF' : Hid _ := hf'
    have HT' : Hid _ := hT'
    have HL' : Hid _ := hl'
    have HCY' : Hid (cycleOf es' = []) := together_cycle hT'
    have HEL' : Hid (es'.length = ms.length) := (follow_len hf').2.1.trans hl'
    rw [HCY.out]
    clear hk hf' hT' hl' ho6 HC6
    rw [HL'.out]
    have HI6 : Hid (IntsIn w6 ta (takeGroups es).1) := ints_of_owns HO6.out
    clear HO6
    generalize (takeGroups es).1 = tt at *
    have HNL : Hid (tt.length ≤ maxLen) := by show _ ≤ _; rw [HL'.out]; exact HSH.out
    go_wp2_with fail
    have hcall := alike_same p w1.heap.size w2.heap.size b ms tt ma ta mcap tcap S es es' w6 (HP2.out.below HB6.out) HS.out HB6.out.size HM6.out HI6.out HSH.out HNL.out HF.out HF'.out
    rw [HL'.out] at hcall
    refine Calls.mono hcall ?_
    clear hcall
    rintro e w7 ⟨rfl, hb7⟩
    have HB7 : Hid (Below w2.heap.size w2 w7) := HB6.out.trans (hb7.mono HB6.out.size)
    have HM7 : Hid (IntsIn w7 ma ms) := IntsIn.below HM6.out hb7
    have HI7 : Hid (IntsIn w7 ta tt) := IntsIn.below HI6.out hb7
    clear hb7 HM6 HI6 HE6
    go_wp2_with fail
    have hcall := events_any p w1.heap.size w2.heap.size b tt ta tcap w7 (HP2.out.below HB7.out) HS.out HB7.out.size HI7.out HNL.out
    rw [HL'.out] at hcall
    refine Calls.mono hcall ?_
    clear hcall
    rintro e w8 hev
    unfold EventsSays at hev
    rw [HF'.out] at hev
    obtain ⟨hb8, fa, fcap, rfl, ho8⟩ := hev
    have HE8 : Hid (EvsIn w8 fa es') := evs_of_owns ho8
    have HB8 : Hid (Below w2.heap.size w2 w8) := HB7.out.trans (hb8.mono HB7.out.size)
    have HM8 : Hid (IntsIn w8 ma ms) := IntsIn.below HM7.out hb8
    have HI8 : Hid (IntsIn w8 ta tt) := IntsIn.below HI7.out hb8
    clear hb8 ho8 HM7 HI7
    go_wp2_with fail
    refine (together_any es' fa fcap _ HE8.out HT'.out (by have := HEL'.out; omega)).mono ?_
    rintro e w9 ⟨rfl, hb9⟩
    have HB9 : Hid (Below w2.heap.size w2 w9) := HB8.out.trans (hb9.mono HB8.out.size)
    have HM9 : Hid (IntsIn w9 ma ms) := IntsIn.below HM8.out hb9
    have HI9 : Hid (IntsIn w9 ta tt) := IntsIn.below HI8.out hb9
    clear hb9 HM8 HI8 HE8
    go_wp2_with fail
    have hcall := progCycle_any p w1.heap.size w2.heap.size b tt ta tcap w9 (HP2.out.below HB9.out) HS.out HB9.out.size HI9.out HNL.out
    rw [HL'.out] at hcall
    refine Calls.mono hcall ?_
    clear hcall
    rintro e wa hcs
    unfold CycleSays at hcs
    rw [HF'.out] at hcs
    obtain ⟨hba, v, rfl, da, dcap, rfl, -, -⟩ := hcs
    rw [HCY'.out]
    have HBA : Hid (Below w2.heap.size w2 wa) := HB9.out.trans (hba.mono HB9.out.size)
    have HMA : Hid (IntsIn wa ma ms) := IntsIn.below HM9.out hba
    clear hba HM9 HI9
    have hpk := pickOf_lt t ((ms.length : Int) + 1) (by omega)
    obtain ⟨k, hk⟩ : ∃ k : Nat, pickOf t ((ms.length : Int) + 1) = (k : Int) := ⟨(pickOf t ((ms.length : Int) + 1)).toNat, by omega⟩
    have hkl : k ≤ ms.length := by omega
    have HK : Hid _ := hk
    clear hpk hk
    obtain ⟨S', et, hft, hsub⟩ := follow_take HF.out k
    have HFT : Hid _ := hft
    have HCT : Hid (cycleOf et = []) := cycle_ranked.2 ((cycle_ranked.1 HCY.out).sub hsub)
    clear hft hsub
    have hcapk : (k : Int) ≤ (mcap : Int) := by have := HCAP.out.1; omega
    have hk0 : (0 : Int) ≤ (k : Int) := by omega
    have HTL : Hid ((ms.take k).length = k) := by show _ = _; simp; omega
    have HIT : Hid (IntsIn wa ma (ms.take k)) := ints_take HMA.out k hkl
    have HWA : Hid (Below w.heap.size w wa) := HB2.out.trans (HBA.out.mono HB2.out.size)
    have HMN : Hid (ma = none → k = 0) := fun e => by
      rcases Nat.eq_zero_or_pos k with h | h
      · exact h
      · obtain ⟨g, e2, -⟩ := HMA.out (by omega)
        rw [e] at e2; cases e2
    go_wp2_with fail
    refine (pick_any t ((ms.length : Int) + 1) _ HT.out (by omega) (by omega)).mono ?_
    rintro e wb ⟨rfl, rfl⟩
    rw [HK.out]
    have hcall := progCycle_any p w1.heap.size w2.heap.size b (ms.take k) ma mcap wb (HP2.out.below HBA.out) HS.out HBA.out.size HIT.out (by rw [HTL.out]; unfold maxLen; omega)
    rw [HTL.out] at hcall
    have HCALL : Hid _ := hcall
    clear hcall
    cases ma with
    | none =>
      have hk00 : k = 0 := HMN.out rfl
      subst hk00
      go_wp2_with fail
      refine Calls.mono HCALL.out ?_
      rintro e wc hcs
      unfold CycleSays at hcs
      rw [HFT.out] at hcs
      obtain ⟨hbc, v, rfl, qa, qcap, rfl, -, -⟩ := hcs
      rw [HCT.out]
      clear HCALL
      go_wp2
      go_ret
      exact ⟨rfl, HWA.out.trans (hbc.mono HWA.out.size)⟩
    | some ad =>
      go_wp2_with fail
      refine Calls.mono HCALL.out ?_
      rintro e wc hcs
      unfold CycleSays at hcs
      rw [HFT.out] at hcs
      obtain ⟨hbc, v, rfl, qa, qcap, rfl, -, -⟩ := hcs
      rw [HCT.out]
      clear HCALL
      go_wp2
      go_ret
      exact ⟨rfl, HWA.out.trans (hbc.mono HWA.out.size)⟩

end Go.Proofs.Ytfdafcnfefbcbaa
