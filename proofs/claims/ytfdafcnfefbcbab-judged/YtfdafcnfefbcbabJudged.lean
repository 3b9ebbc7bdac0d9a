/-
  The law Judged: its walk.
-/
import Derived.Test.YtfdafcnfefbcbabWhole
import Derived.Test.YtfdafcnfefbcbabKeep2
import Derived.Test.YtfdafcnfefbcbabRawArgs
import Derived.Test.YtfdafcnfefbcbabSea
import Derived.Deep.CutRange
namespace Go.Proofs.Ytfdafcnfefbcbab
open Go.RowKit
set_option linter.unusedVariables false

theorem CheckSays.form {p : List (List Pl.POp)} {w : World} {e : Ending} {w' : World} (h : CheckSays (checkOf p) w e w') : ∃ at_ sa sn scap ca cn ccap, e = .returned (.agg #[.bool at_, .slice sa sn scap, .slice ca cn ccap]) ∧ (at_ = true → checkOf p = none ∧ sn = 0 ∧ cn = 0) ∧ (at_ = false → ∃ sch c, checkOf p = some (sch, c) ∧ sn = sch.length ∧ cn = c.length ∧ IntsIn w' sa sch ∧ IntsIn w' ca c) := by
  have h2 := h.2
  cases hq : checkOf p with
  | none => rw [hq] at h2; exact ⟨true, none, 0, 0, none, 0, 0, h2, fun _ => ⟨rfl, rfl, rfl⟩, (fun h => by cases h)⟩
  | some x =>
    obtain ⟨sch, c⟩ := x
    rw [hq] at h2
    obtain ⟨-, sa, scap, ca, ccap, he, h3, h4, -⟩ := h2
    exact ⟨false, sa, _, scap, some ca, _, ccap, he, (fun h => by cases h), fun _ => ⟨sch, c, rfl, rfl, rfl, ints_of_owns h3, ints_of_owns h4⟩⟩

/-- Neighbours in a list of results that rises. -/
theorem rising_two {rs : List Res} (h : Rising rs) {i : Nat} {x y : Res} (hx : rs[i + 1]? = some x) (hy : rs[i]? = some y) : x ≠ y ∧ y.1 ≤ x.1 := by
  unfold Rising at h
  rw [List.pairwise_iff_getElem] at h
  obtain ⟨h1, e1⟩ := List.getElem?_eq_some_iff.1 hx
  obtain ⟨h2, e2⟩ := List.getElem?_eq_some_iff.1 hy
  have hb := h i (i + 1) h2 h1 (by omega)
  rw [e1, e2] at hb
  refine ⟨fun e => ?_, ?_⟩
  · subst e; rw [before_irr] at hb; cases hb
  · unfold before at hb
    split at hb
    · simp at hb; omega
    · rename_i h3; simp at h3; omega

set_option maxRecDepth 100000 in
set_option maxHeartbeats 4000000 in
theorem judged_walk (os : List Raw) (rs : List Int) (a ra : Option Addr) (cap rcap : Nat) (w : World) (h : RawArgs w a os ra rs) (h8 : rs.length * 8 ≤ 140737488351232) :
    Calls Try.prog 3 #[.slice a os.length cap, .slice ra rs.length rcap] w fun e w' => e = .returned (.bool true) ∧ Below w.heap.size w w' := by
  have HH : Hid _ := h
  clear h
  go_enter Try.func3, Try.ntmps3
  go_wp2_with fail
  refine (sure_any _).mono ?_
  rintro e w1 ⟨rfl, hb1⟩
  go_wp2_with fail
  refine (given3_any os a cap _ (HH.out.ops.below hb1) HH.out.lenO).mono ?_
  rintro e w2 ⟨⟨b, p, rfl, hp2, hs, hc10, hnm, hcp⟩, hb2⟩
  have HB2 : Hid (Below w.heap.size w w2) := hb1.trans (hb2.mono hb1.size)
  have HP2 : Hid (ProgIn w2 w1.heap.size w2.heap.size b p) := hp2
  have HS : Hid _ := hs
  have HC : Hid _ := hc10
  clear hb1 hb2 hp2 hs hc10 hnm hcp
  go_wp2_with fail
  refine (whole_any p w1.heap.size w2.heap.size b rs ra rcap _ HP2.out HS.out HC.out (Nat.le_refl _) (NumsIn.below HH.out.nums HB2.out) h8).mono ?_
  rintro e w3 ⟨ms, ma, mcap, S, es, rfl, hl3, hrd⟩
  have HF : Hid (follow p (beginTo p 4) [] 0 ms = some (S, es)) := hl3.fol
  have HRD : Hid (readyTo S p 4 = []) := hrd
  have HLEN : Hid _ := follow_len hl3.fol
  have HSH : Hid (ms.length ≤ maxLen) := by have := HLEN.out.2.2; have := HC.out; show _ ≤ _; unfold maxLen; omega
  have HB3 : Hid (Below w2.heap.size w2 w3) := hl3.bl
  have HM3 : Hid (IntsIn w3 ma ms) := ints_of_owns hl3.own
  clear hl3 hrd
  go_wp2_with fail
  refine (progCycle_any p w1.heap.size w2.heap.size b ms ma mcap _ (HP2.out.below HB3.out) HS.out HB3.out.size HM3.out HSH.out).mono ?_
  rintro e w4 hcs
  unfold CycleSays at hcs
  rw [HF.out] at hcs
  obtain ⟨hb4, v, rfl, cya, cycap, rfl, -, -⟩ := hcs
  have HB4 : Hid (Below w2.heap.size w2 w4) := HB3.out.trans (hb4.mono HB3.out.size)
  have HM4 : Hid (IntsIn w4 ma ms) := IntsIn.below HM3.out hb4
  clear hb4 HB3 HM3
  go_wp2_with fail
  refine (play_any p w1.heap.size w2.heap.size b ms ma mcap _ (HP2.out.below HB4.out) HS.out HB4.out.size HM4.out HSH.out).mono ?_
  rintro e w5 ⟨rfl, hb5⟩
  have HB5 : Hid (Below w2.heap.size w2 w5) := HB4.out.trans (hb5.mono HB4.out.size)
  have HV : Hid (playV p ms = .tuple #[.agg #[.int .u8 ((resOf S p).1 : Int), .int .i16 (resOf S p).2.1, .int .i16 (resOf S p).2.2.1, .int .i16 (resOf S p).2.2.2.1, .int .i16 (resOf S p).2.2.2.2], .int .i64 0]) := by show _ = _; unfold playV; rw [HF.out]; rfl
  rw [HV.out]
  have HR0 : Hid ((resOf S p).1 ≠ 0) := by
    show _ ≠ _
    intro e
    have := (end_zero S p).1 e
    rw [HRD.out] at this
    simp at this
  have HRM : Hid (resOf S p ∈ outcomesOf p) := outcomes_has HF.out HRD.out
  clear hb5 HB4 HM4 HV
  generalize hre : resOf S p = r at *
  have HRE : Hid _ := hre
  clear hre
  go_upto_region 10 with fail
  have HX : Hid (Below w2.heap.size w2 (w5.alloc (.cells #[.int .u8 (r.1 : Int), .int .i16 r.2.1, .int .i16 r.2.2.1, .int .i16 r.2.2.2.1, .int .i16 r.2.2.2.2] 38))) := HB5.out.alloc HB5.out.size _
  have c0 : (w5.alloc (.cells #[.int .u8 (r.1 : Int), .int .i16 r.2.1, .int .i16 r.2.2.1, .int .i16 r.2.2.2.1, .int .i16 r.2.2.2.2] 38)).cell? ⟨w5.heap.size, 0, none⟩ = some (.int .u8 (r.1 : Int)) := by simp
  have c1 : (w5.alloc (.cells #[.int .u8 (r.1 : Int), .int .i16 r.2.1, .int .i16 r.2.2.1, .int .i16 r.2.2.2.1, .int .i16 r.2.2.2.2] 38)).cell? ⟨w5.heap.size, 1, none⟩ = some (.int .i16 r.2.1) := by simp
  have c2 : (w5.alloc (.cells #[.int .u8 (r.1 : Int), .int .i16 r.2.1, .int .i16 r.2.2.1, .int .i16 r.2.2.2.1, .int .i16 r.2.2.2.2] 38)).cell? ⟨w5.heap.size, 2, none⟩ = some (.int .i16 r.2.2.1) := by simp
  have c3 : (w5.alloc (.cells #[.int .u8 (r.1 : Int), .int .i16 r.2.1, .int .i16 r.2.2.1, .int .i16 r.2.2.2.1, .int .i16 r.2.2.2.2] 38)).cell? ⟨w5.heap.size, 3, none⟩ = some (.int .i16 r.2.2.2.1) := by simp
  have c4 : (w5.alloc (.cells #[.int .u8 (r.1 : Int), .int .i16 r.2.1, .int .i16 r.2.2.1, .int .i16 r.2.2.2.1, .int .i16 r.2.2.2.2] 38)).cell? ⟨w5.heap.size, 4, none⟩ = some (.int .i16 r.2.2.2.2) := by simp
  have HZ : Hid ((w5.alloc (.cells #[.int .u8 (r.1 : Int), .int .i16 r.2.1, .int .i16 r.2.2.1, .int .i16 r.2.2.2.1, .int .i16 r.2.2.2.2] 38)).heap.size = w5.heap.size + 1) := by show _ = _; simp
  generalize (w5.alloc (.cells #[.int .u8 (r.1 : Int), .int .i16 r.2.1, .int .i16 r.2.2.1, .int .i16 r.2.2.2.1, .int .i16 r.2.2.2.2] 38)) = X at *
  have ltA : w5.heap.size < X.heap.size := by have := HZ.out; omega
  generalize w5.heap.size = A at *
  clear HB5
  go_wp2_with fail
  refine (progCheck_any p w1.heap.size w2.heap.size b _ (HP2.out.below HX.out) HS.out HX.out.size).mono ?_
  rintro e w6 hck
  obtain ⟨at_, sa, sn, scap, ca, cn, ccap, rfl, hT, hN⟩ := hck.form
  have hb6 := hck.1
  have HT : Hid (at_ = true → _) := hT
  have HN : Hid (at_ = false → _) := hN
  have HB6 : Hid (Below w2.heap.size w2 w6) := HX.out.trans (hb6.mono HX.out.size)
  have d0 := (hb6.cell (p := ⟨A, 0, none⟩) ltA).trans c0
  have d1 := (hb6.cell (p := ⟨A, 1, none⟩) ltA).trans c1
  have d2 := (hb6.cell (p := ⟨A, 2, none⟩) ltA).trans c2
  have d3 := (hb6.cell (p := ⟨A, 3, none⟩) ltA).trans c3
  have d4 := (hb6.cell (p := ⟨A, 4, none⟩) ltA).trans c4
  have ltA6 : A < w6.heap.size := Nat.lt_of_lt_of_le ltA hb6.size
  clear hck hT hN hb6 c0 c1 c2 c3 c4 HX HZ ltA
  go_upto_region 11 with fail
  have HY : Hid (Below w2.heap.size w2 (w6.alloc (.cells #[.bool at_, .slice sa sn scap, .slice ca cn ccap] 42))) := HB6.out.alloc HB6.out.size _
  have HYB : Hid (Below w6.heap.size w6 (w6.alloc (.cells #[.bool at_, .slice sa sn scap, .slice ca cn ccap] 42))) := (Below.refl _ _).alloc (Nat.le_refl _) _
  have k0 := alloc_cell d0 (.cells #[.bool at_, .slice sa sn scap, .slice ca cn ccap] 42)
  have k1 := alloc_cell d1 (.cells #[.bool at_, .slice sa sn scap, .slice ca cn ccap] 42)
  have k2 := alloc_cell d2 (.cells #[.bool at_, .slice sa sn scap, .slice ca cn ccap] 42)
  have k3 := alloc_cell d3 (.cells #[.bool at_, .slice sa sn scap, .slice ca cn ccap] 42)
  have k4 := alloc_cell d4 (.cells #[.bool at_, .slice sa sn scap, .slice ca cn ccap] 42)
  have v0 : (w6.alloc (.cells #[.bool at_, .slice sa sn scap, .slice ca cn ccap] 42)).cell? ⟨w6.heap.size, 0, none⟩ = some (.bool at_) := by simp
  have v1 : (w6.alloc (.cells #[.bool at_, .slice sa sn scap, .slice ca cn ccap] 42)).cell? ⟨w6.heap.size, 1, none⟩ = some (.slice sa sn scap) := by simp
  have v2 : (w6.alloc (.cells #[.bool at_, .slice sa sn scap, .slice ca cn ccap] 42)).cell? ⟨w6.heap.size, 2, none⟩ = some (.slice ca cn ccap) := by simp
  have HZ : Hid ((w6.alloc (.cells #[.bool at_, .slice sa sn scap, .slice ca cn ccap] 42)).heap.size = w6.heap.size + 1) := by show _ = _; simp
  have HNY : Hid (at_ = false → ∃ sch c, checkOf p = some (sch, c) ∧ sn = sch.length ∧ cn = c.length ∧ IntsIn (w6.alloc (.cells #[.bool at_, .slice sa sn scap, .slice ca cn ccap] 42)) sa sch ∧ IntsIn (w6.alloc (.cells #[.bool at_, .slice sa sn scap, .slice ca cn ccap] 42)) ca c) := fun h => by
    obtain ⟨sch, c, h1, h2, h3, h4, h5⟩ := HN.out h
    exact ⟨sch, c, h1, h2, h3, IntsIn.below h4 HYB.out, IntsIn.below h5 HYB.out⟩
  generalize (w6.alloc (.cells #[.bool at_, .slice sa sn scap, .slice ca cn ccap] 42)) = Y at *
  have ltC : w6.heap.size < Y.heap.size := by have := HZ.out; omega
  have ltA : A < Y.heap.size := by have := HZ.out; omega
  generalize w6.heap.size = C at *
  clear HB6 d0 d1 d2 d3 d4 HN HYB ltA6 HZ
  go_wp2_with fail
  refine (progOutcomes_any p w1.heap.size w2.heap.size b _ (HP2.out.below HY.out) HS.out HC.out HY.out.size).mono ?_
  rintro e w7 ⟨hb7, oa, ocap, rfl, ho7⟩
  have HB7 : Hid (Below w2.heap.size w2 w7) := HY.out.trans (hb7.mono HY.out.size)
  have HO7 : Hid (ResIn w7 oa (outcomesOf p)) := res_of_owns ho7
  have c0 := (hb7.cell (p := ⟨A, 0, none⟩) ltA).trans k0
  have c1 := (hb7.cell (p := ⟨A, 1, none⟩) ltA).trans k1
  have c2 := (hb7.cell (p := ⟨A, 2, none⟩) ltA).trans k2
  have c3 := (hb7.cell (p := ⟨A, 3, none⟩) ltA).trans k3
  have c4 := (hb7.cell (p := ⟨A, 4, none⟩) ltA).trans k4
  have vd0 := (hb7.cell (p := ⟨C, 0, none⟩) ltC).trans v0
  have vd1 := (hb7.cell (p := ⟨C, 1, none⟩) ltC).trans v1
  have vd2 := (hb7.cell (p := ⟨C, 2, none⟩) ltC).trans v2
  have HN7 : Hid (at_ = false → ∃ sch c, checkOf p = some (sch, c) ∧ sn = sch.length ∧ cn = c.length ∧ IntsIn w7 sa sch ∧ IntsIn w7 ca c) := fun h => by
    obtain ⟨sch, c, h1, h2, h3, h4, h5⟩ := HNY.out h
    exact ⟨sch, c, h1, h2, h3, IntsIn.below h4 hb7, IntsIn.below h5 hb7⟩
  have HRI : Hid _ := outcomes_rising p
  have HEN : Hid _ := outcomes_ends p
  have HOL : Hid ((outcomesOf p).length ≤ maxLen) := (fun h => Nat.le_trans h.1 h.2) (owns_cap ho7)
  have hr0 : ((r.1 : Int) == 0) = false := by have := HR0.out; simp; omega
  clear ho7 hb7 k0 k1 k2 k3 k4 v0 v1 v2 HNY HY ltA ltC
  generalize outcomesOf p = L at *
  have hol : L.length ≤ 9223372036854775807 := by have := HOL.out; unfold maxLen at this; omega
  go_upto_region 12 with fail
  go_cut [78] from 23 (fun v78 wr => v78 = .bool false ∧ wr = w7)
  case first =>
    cases at_
    · go_wp2_with fail
      go_meet
      exact ⟨rfl, rfl⟩
    · have hcy : cycleOf es = [] := check_none (HT.out rfl).1 HF.out HRD.out
      have HCY : Hid _ := hcy
      clear hcy
      go_wp2_with fail
      go_meet
      exact ⟨by rw [HCY.out]; rfl, rfl⟩
  case rest =>
    obtain ⟨rfl, rfl⟩ := hcut
    generalize wc = V at *
    go_wp2_with fail
    go_loopw [16, 17] (fun v16 v17 wr => ∃ i : Nat, i ≤ L.length ∧ v17 = .int .i64 (i : Int) ∧ v16 = .bool (decide (r ∈ L.take i)) ∧ Hid (Below V.heap.size V wr)) (fun _ v17 _ => L.length - (intOf v17).toNat)
    case atStart => exact ⟨0, Nat.zero_le _, rfl, by simp, (show Hid _ from Below.refl _ _)⟩
    case round =>
      obtain ⟨i, hil, rfl, rfl, H1⟩ := hrel
      by_cases hlt : i < L.length
      · obtain ⟨g, rfl, hg, hgc⟩ := HO7.out (by omega)
        have hlt' : (i : Int) < (L.length : Int) := by omega
        have hi0' : (0 : Int) ≤ (i : Int) := by omega
        have HXI : Hid (L[i]? = some L[i]) := List.getElem?_eq_getElem hlt
        have HTK : Hid (L.take (i + 1) = L.take i ++ [L[i]]) := by show _ = _; rw [List.take_add_one, List.getElem?_eq_getElem hlt]; rfl
        have HEX : Hid _ := HEN.out L[i] (List.getElem_mem hlt)
        have HXR : Hid (V.rangeAt g (i * 5) (resL L[i])) := hgc i _ (List.getElem?_eq_getElem hlt)
        have HYR : Hid (∀ j, i = j + 1 → ∃ y, L[j]? = some y ∧ V.rangeAt g (j * 5) (resL y)) := fun j hj => ⟨_, List.getElem?_eq_getElem (by omega), hgc j _ (List.getElem?_eq_getElem (by omega))⟩
        have HGL : Hid (g < V.heap.size) := hg
        have HRR : Hid (V.rangeAt A 0 (resL r)) := fun j v hv => by
          have hj : j < 5 := by simpa [resL] using (List.getElem?_eq_some_iff.1 hv).1
          have : j = 0 ∨ j = 1 ∨ j = 2 ∨ j = 3 ∨ j = 4 := by omega
          rw [Nat.zero_add]
          rcases this with rfl | rfl | rfl | rfl | rfl <;> (simp [resL] at hv; subst hv; assumption)
        have HAL : Hid (A < V.heap.size) := World.block_lt_of_cell? V ⟨A, 0, none⟩ c0
        clear hgc hg
        generalize L[i] = x at *
        go_upto_region 18 with fail
        go_cut [16] from 79 to 141 (fun v16 wq => v16 = .bool (decide (r ∈ L.take (i + 1))) ∧ Hid (Below V.heap.size V wq))
        case first =>
          by_cases hfd : r ∈ L.take i
          · have hd : decide (r ∈ L.take i) = true := by simpa using hfd
            have HD2 : Hid (decide (r ∈ L.take (i + 1)) = true) := by show _ = _; rw [HTK.out]; simp [hfd]
            rw [hd]
            clear hfd hd
            go_quiet (fail)
            go_wp2_with fail
            go_meet
            exact ⟨by rw [HD2.out], (show Hid _ from below_drewN H1.out _)⟩
          · have hd : decide (r ∈ L.take i) = false := by simpa using hfd
            have HD2 : Hid (decide (r ∈ L.take (i + 1)) = decide (x = r)) := by
              show _ = _
              rw [HTK.out, Bool.eq_iff_iff]
              simp only [decide_eq_true_eq, List.mem_append, List.mem_singleton]
              exact ⟨fun h => (h.resolve_left hfd).symm, fun h => Or.inr h.symm⟩
            have heq := eq_res x r
            have HTW : Hid (ResTwo g (i * 5) A x r wr) := ⟨range_below HXR.out H1.out HGL.out, range_below HRR.out H1.out HAL.out⟩
            rw [hd]
            clear hfd hd
            refine wp_region_held_drew (S := ResTwo g (i * 5) A x r) (by kernel_rfl) ⟨HTW.out.a, HTW.out.b⟩ (fun hHeld => ?_)
            refine wpAnyH_take (i := 0) (v := (.bool false)) rfl (by kernel_rfl) (by kernel_rfl) (by kernel_rfl) (fun _ _ _ h => h) (Or.inl ⟨by rfl, fun _ _ => rfl⟩) hHeld ?_
            simp only [List.getElem_toArray, List.getElem_cons_zero, Act.put, List.setIfInBounds_toArray, List.set_cons_zero, List.set_cons_succ]
            refine wpAnyH_take (i := 1) (v := (.bool false)) rfl (by kernel_rfl) (by kernel_rfl) (by kernel_rfl) (fun _ _ _ h => h) (Or.inl ⟨by rfl, fun _ _ => rfl⟩) hHeld ?_
            simp only [List.getElem_toArray, List.getElem_cons_zero, List.getElem_cons_succ, Act.put, List.setIfInBounds_toArray, List.set_cons_zero, List.set_cons_succ]
            refine wpAnyH_take (i := 2) (v := (.slice (some ⟨g, 0, none⟩) L.length ocap)) rfl (by kernel_rfl) (by kernel_rfl) (by kernel_rfl) (fun _ _ _ h => h) (Or.inl ⟨by rfl, fun _ _ => rfl⟩) hHeld ?_
            simp only [List.getElem_toArray, List.getElem_cons_zero, List.getElem_cons_succ, Act.put, List.setIfInBounds_toArray, List.set_cons_zero, List.set_cons_succ]
            refine wpAnyH_take (i := 3) (v := (.int .i64 (i : Int))) rfl (by kernel_rfl) (by kernel_rfl) (by kernel_rfl) (fun _ _ _ h => h) (Or.inl ⟨by rfl, fun _ _ => rfl⟩) hHeld ?_
            simp only [List.getElem_toArray, List.getElem_cons_zero, List.getElem_cons_succ, Act.put, List.setIfInBounds_toArray, List.set_cons_zero, List.set_cons_succ]
            refine wpAnyH_take (i := 4) (v := (.pointer (some ⟨g, i * 5, none⟩))) rfl (by kernel_rfl) (by kernel_rfl) (by kernel_rfl) (fun _ _ _ h => h) (Or.inl ⟨by rfl, fun w hw => by go_simp <;> (intro h; omega)⟩) hHeld ?_
            simp only [List.getElem_toArray, List.getElem_cons_zero, List.getElem_cons_succ, Act.put, List.setIfInBounds_toArray, List.set_cons_zero, List.set_cons_succ]
            refine wpAnyH_take (i := 5) (v := (.agg (resL x).toArray)) rfl (by kernel_rfl) (by kernel_rfl) (by kernel_rfl) (fun _ _ _ h => h) (yieldsIf_load_mid (by rfl) _ _ rfl g (i * 5) rfl (resL x) _ (fun w hw => hw.a) Try.underlying38 rfl Try.size38) hHeld ?_
            simp only [List.getElem_toArray, List.getElem_cons_zero, List.getElem_cons_succ, Act.put, List.setIfInBounds_toArray, List.set_cons_zero, List.set_cons_succ]
            refine wpAnyH_take (i := 6) (v := (.agg (resL r).toArray)) rfl (by kernel_rfl) (by kernel_rfl) (by kernel_rfl) (fun _ _ _ h => h) (yieldsIf_load_mid (by rfl) _ _ rfl A 0 rfl (resL r) _ (fun w hw => hw.b) Try.underlying38 rfl Try.size38) hHeld ?_
            simp only [List.getElem_toArray, List.getElem_cons_zero, List.getElem_cons_succ, Act.put, List.setIfInBounds_toArray, List.set_cons_zero, List.set_cons_succ]
            refine wpAnyH_take (i := 7) (v := (.bool (decide (x = r)))) rfl (by kernel_rfl) (by kernel_rfl) (by kernel_rfl) (fun _ _ _ h => h) (Or.inl ⟨by rfl, fun w hw => by go_simp⟩) hHeld ?_
            simp only [List.getElem_toArray, List.getElem_cons_zero, List.getElem_cons_succ, Act.put, List.setIfInBounds_toArray, List.set_cons_zero, List.set_cons_succ]
            refine wpAnyH_take (i := 8) (v := (.bool (decide (x = r)))) rfl (by kernel_rfl) (by kernel_rfl) (by kernel_rfl) (fun _ _ _ h => h) (Or.inl ⟨by rfl, fun _ _ => rfl⟩) hHeld ?_
            simp only [List.getElem_toArray, List.getElem_cons_zero, List.getElem_cons_succ, Act.put, List.setIfInBounds_toArray, List.set_cons_zero, List.set_cons_succ]
            refine wpAnyH_take (i := 9) (v := (.bool (decide (x = r)))) rfl (by kernel_rfl) (by kernel_rfl) (by kernel_rfl) (fun _ _ _ h => h) (Or.inl ⟨by rfl, fun _ _ => rfl⟩) hHeld ?_
            simp only [List.getElem_toArray, List.getElem_cons_zero, List.getElem_cons_succ, Act.put, List.setIfInBounds_toArray, List.set_cons_zero, List.set_cons_succ]
            refine wpAnyH_done (by kernel_rfl) ?_ _
            clear hHeld
            go_wp2_with fail
            go_meet
            exact ⟨by rw [HD2.out], (show Hid _ from H1.out.drew)⟩
        case rest =>
          obtain ⟨rfl, HQ⟩ := hcut
          clear H1
          have hx1 : decide ((x.1 : Int) < 1) = false := by have := HEX.out.1; simp; omega
          have hx3 : decide ((3 : Int) < (x.1 : Int)) = false := by have := HEX.out.2; simp; omega
          go_upto_region 19 with fail
          go_cut [141] from 79 to 141 (fun v141 wq => v141 = .bool false ∧ Hid (Below V.heap.size V wq))
          case first =>
            have HXC : Hid (wc.rangeAt g (i * 5) (resL x)) := range_below HXR.out HQ.out HGL.out
            cases i with
            | zero =>
              have x0 : wc.cell? ⟨g, 0, none⟩ = some (.int .u8 (x.1 : Int)) := HXC.out 0 _ rfl
              go_quiet (fail)
              go_wp2_with fail
              go_meet
              exact ⟨rfl, (show Hid _ from below_drewN HQ.out _)⟩
            | succ j =>
              obtain ⟨y, hy, hyr⟩ := HYR.out j rfl
              obtain ⟨hne, hle⟩ := rising_two HRI.out HXI.out hy
              have HYC : Hid (wc.rangeAt g (j * 5) (resL y)) := range_below hyr HQ.out HGL.out
              have x0 : wc.cell? ⟨g, (j + 1) * 5, none⟩ = some (.int .u8 (x.1 : Int)) := HXC.out 0 _ rfl
              have x1 : wc.cell? ⟨g, (j + 1) * 5 + 1, none⟩ = some (.int .i16 x.2.1) := HXC.out 1 _ rfl
              have x2 : wc.cell? ⟨g, (j + 1) * 5 + 2, none⟩ = some (.int .i16 x.2.2.1) := HXC.out 2 _ rfl
              have x3 : wc.cell? ⟨g, (j + 1) * 5 + 3, none⟩ = some (.int .i16 x.2.2.2.1) := HXC.out 3 _ rfl
              have x4 : wc.cell? ⟨g, (j + 1) * 5 + 4, none⟩ = some (.int .i16 x.2.2.2.2) := HXC.out 4 _ rfl
              have y0 : wc.cell? ⟨g, j * 5, none⟩ = some (.int .u8 (y.1 : Int)) := HYC.out 0 _ rfl
              have y1 : wc.cell? ⟨g, j * 5 + 1, none⟩ = some (.int .i16 y.2.1) := HYC.out 1 _ rfl
              have y2 : wc.cell? ⟨g, j * 5 + 2, none⟩ = some (.int .i16 y.2.2.1) := HYC.out 2 _ rfl
              have y3 : wc.cell? ⟨g, j * 5 + 3, none⟩ = some (.int .i16 y.2.2.2.1) := HYC.out 3 _ rfl
              have y4 : wc.cell? ⟨g, j * 5 + 4, none⟩ = some (.int .i16 y.2.2.2.2) := HYC.out 4 _ rfl
              have heq : ∀ w, (binOp .eql 38 (.agg #[.int .u8 (x.1 : Int), .int .i16 x.2.1, .int .i16 x.2.2.1, .int .i16 x.2.2.2.1, .int .i16 x.2.2.2.2]) (.agg #[.int .u8 (y.1 : Int), .int .i16 y.2.1, .int .i16 y.2.2.1, .int .i16 y.2.2.2.1, .int .i16 y.2.2.2.2])).run Try.prog w = .ok (.bool false) w := fun w => by
                have := eq_res x y w
                rw [decide_eq_false hne] at this
                exact this
              have hj0 : (0 : Int) < ((j + 1 : Nat) : Int) := by omega
              have hj1 : ((j + 1 : Nat) : Int) - 1 = (j : Int) := by omega
              have hjl : (j : Int) < (L.length : Int) := by omega
              have hj00 : (0 : Int) ≤ (j : Int) := by omega
              have HXY : Hid (decide (x.1 < y.1) = false) := by show _ = _; simp; omega
              clear hy hyr hne hle
              go_quiet (fail)
              go_wp2_with fail
              go_meet
              exact ⟨by rw [HXY.out], (show Hid _ from below_drewN HQ.out _)⟩
          case rest =>
            obtain ⟨rfl, HQ2⟩ := hcut
            go_wp2
            go_roundw
            case rel => exact ⟨i + 1, by omega, by go_num, rfl, (show Hid _ from HQ2.out)⟩
            case measure => simp [intOf]; omega
      · have hlt' : ¬ (i : Int) < (L.length : Int) := by omega
        have hfd : decide (r ∈ L.take i) = true := by rw [List.take_of_length_le (by omega)]; simpa using HRM.out
        have ltC : C < V.heap.size := World.block_lt_of_cell? V ⟨C, 0, none⟩ vd0
        have e0 := (H1.out.cell (p := ⟨C, 0, none⟩) ltC).trans vd0
        have e1 := (H1.out.cell (p := ⟨C, 1, none⟩) ltC).trans vd1
        have e2 := (H1.out.cell (p := ⟨C, 2, none⟩) ltC).trans vd2
        have HW : Hid (Below w2.heap.size w2 wr) := HB7.out.trans (H1.out.mono HB7.out.size)
        rw [hfd]
        clear hfd vd0 vd1 vd2 c0 c1 c2 c3 c4
        cases at_ with
        | true =>
          obtain ⟨hq, rfl, rfl⟩ := HT.out rfl
          clear hq HN7
          go_wp2
          go_ret
          exact ⟨rfl, HB2.out.trans (HW.out.mono HB2.out.size)⟩
        | false =>
          obtain ⟨sch, c, hq, rfl, rfl, hsi, hci⟩ := HN7.out rfl
          obtain ⟨S2, es2, hf2, hr2, hc2, hcn⟩ := check_some hq
          have HF2 : Hid (follow p (beginTo p 4) [] 0 sch = some (S2, es2)) := hf2
          have HR2 : Hid (readyTo S2 p 4 = []) := hr2
          have HSI : Hid (IntsIn wr sa sch) := IntsIn.below hsi H1.out
          have HCI : Hid (IntsIn wr ca c) := IntsIn.below hci H1.out
          have HLE : Hid _ := follow_len hf2
          have HKN : Hid (KnotOk es2 c) := by show KnotOk _ _; rw [hc2]; exact cycleOf_knot (by rw [← hc2]; exact hcn)
          have HSL : Hid (sch.length ≤ maxLen) := by have := HLE.out.2.2; have := HC.out; show _ ≤ _; unfold maxLen; omega
          have HCL : Hid (c.length ≤ 4000) := by
            show _ ≤ _
            have h1 := nodup_le c (es2.map Ev.group) HKN.out.nd (fun x hx => by
              obtain ⟨i, hi⟩ := List.getElem?_of_mem hx
              have hl := (List.getElem?_eq_some_iff.1 hi).1
              obtain ⟨x', y', hs', h2, -⟩ := HKN.out.ahead i x _ hi (List.getElem?_eq_getElem (Nat.mod_lt _ (by omega)))
              exact List.mem_map.2 ⟨x', hs'.subset (by simp), h2⟩)
            simp at h1
            have := HLE.out.2
            have := HC.out
            omega
          clear hq hf2 hr2 hc2 hcn hsi hci HT HN7
          go_wp2_with fail
          refine (events_any p w1.heap.size w2.heap.size b sch sa scap _ (HP2.out.below HW.out) HS.out HW.out.size HSI.out HSL.out).mono ?_
          rintro e wa hev
          unfold EventsSays at hev
          rw [HF2.out] at hev
          obtain ⟨hba, ea, ecap, rfl, hoa⟩ := hev
          have HEA : Hid (EvsIn wa ea es2) := evs_of_owns hoa
          have HWA : Hid (Below w2.heap.size w2 wa) := HW.out.trans (hba.mono HW.out.size)
          have HSA : Hid (IntsIn wa sa sch) := IntsIn.below HSI.out hba
          have HCA : Hid (IntsIn wa ca c) := IntsIn.below HCI.out hba
          have ltC2 : C < wr.heap.size := Nat.lt_of_lt_of_le ltC H1.out.size
          have f1 := (hba.cell (p := ⟨C, 1, none⟩) ltC2).trans e1
          have f2 := (hba.cell (p := ⟨C, 2, none⟩) ltC2).trans e2
          have ltC3 : C < wa.heap.size := Nat.lt_of_lt_of_le ltC2 hba.size
          clear hba hoa e0 e1 e2 HSI HCI
          go_wp2_with fail
          refine (progReady_any p w1.heap.size w2.heap.size b sch sa scap _ (HP2.out.below HWA.out) HS.out HWA.out.size HSA.out HSL.out).mono ?_
          rintro e wb hrs
          unfold ReadySays at hrs
          rw [HF2.out] at hrs
          obtain ⟨hbb, la, lcap, rfl, -⟩ := hrs
          rw [HR2.out]
          simp only [List.length_nil]
          have HEB : Hid (EvsIn wb ea es2) := EvsIn.below HEA.out hbb
          have HWB : Hid (Below w2.heap.size w2 wb) := HWA.out.trans (hbb.mono HWA.out.size)
          have HCB : Hid (IntsIn wb ca c) := IntsIn.below HCA.out hbb
          have g2 := (hbb.cell (p := ⟨C, 2, none⟩) ltC3).trans f2
          clear hbb f1 f2 HEA HCA HSA
          have HEL2 : Hid (es2.length ≤ 4000) := by have := HLE.out.2; have := HC.out; show _ ≤ _; omega
          go_wp2_with fail
          refine (knot_true es2 ea ecap c ca ccap _ HEB.out HEL2.out HCB.out HCL.out HKN.out).mono ?_
          rintro e wd ⟨rfl, hbd⟩
          have HWD : Hid (Below w2.heap.size w2 wd) := HWB.out.trans (hbd.mono HWB.out.size)
          clear hbd g2
          go_wp2
          go_ret
          exact ⟨rfl, HB2.out.trans (HWD.out.mono HB2.out.size)⟩

end Go.Proofs.Ytfdafcnfefbcbab
