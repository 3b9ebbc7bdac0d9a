/-
  Package interleavekeep: the contracts of ahead and knot, where they answer true.
-/
import Derived.Test.YtfdafcnfefbcbabKeep1
namespace Go.Proofs.Ytfdafcnfefbcbab
open Go.RowKit
set_option linter.unusedVariables false

/-- Where two steps lie of which one's group is ahead of the other's. -/
structure PairAt (es : List Ev) (g h : Int) (i0 j0 : Nat) (x y : Ev) : Prop where
  lt : i0 < j0
  len : j0 < es.length
  a : es[i0]? = some x
  b : es[j0]? = some y
  ag : x.group = g
  bg : y.group = h
  hang : hangEv x y = true

theorem pairAt_of {es : List Ev} {g h : Int} (hA : AheadEv es g h) : g ≠ h ∧ ∃ i0 j0 x y, PairAt es g h i0 j0 x y := by
  obtain ⟨x, y, hs, h1, h2, h3, h4⟩ := hA
  obtain ⟨j, hj, hx⟩ := pair_at hs
  obtain ⟨i, hi⟩ := List.getElem?_of_mem hx
  have hl := (List.getElem?_eq_some_iff.1 hi).1
  rw [List.length_take] at hl
  have hl1 : i < j := by omega
  rw [List.getElem?_take, if_pos hl1] at hi
  exact ⟨h3, i, j, x, y, hl1, (List.getElem?_eq_some_iff.1 hj).1, hi, hj, h1, h2, h4⟩

set_option maxRecDepth 100000 in
set_option maxHeartbeats 4000000 in
theorem ahead_true (es : List Ev) (a : Option Addr) (cap : Nat) (g h : Int) (w : World) (hE : EvsIn w a es) (hl : es.length ≤ 4000) (hA : AheadEv es g h) :
    Calls Try.prog 23 #[.slice a es.length cap, .int .i64 g, .int .i64 h] w fun e w' => e = .returned (.bool true) ∧ Below w.heap.size w w' := by
  have HE : Hid (EvsIn w a es) := hE
  obtain ⟨hgh, i0, j0, x0, y0, hP⟩ := pairAt_of hA
  have HP : Hid (PairAt es g h i0 j0 x0 y0) := hP
  have hne : (g != h) = true := by simpa using hgh
  have hij := hP.lt
  have hjl := hP.len
  clear hE hA hP hgh
  go_enter Try.func23, Try.ntmps23
  go_wp2_with fail
  go_loopw [7] (fun v7 wr => ∃ i : Nat, i ≤ i0 ∧ v7 = .int .i64 (i : Int) ∧ Hid (Below w.heap.size w wr)) (fun v7 _ => es.length - (intOf v7).toNat)
  case atStart => exact ⟨0, Nat.zero_le _, rfl, (show Hid _ from Below.refl _ _)⟩
  case round =>
    obtain ⟨i, hi, rfl, H1⟩ := hrel
    have hlt' : (i : Int) < (es.length : Int) := by omega
    have hi0' : (0 : Int) ≤ (i : Int) := by omega
    go_wp2_with fail
    go_loopw [8] (fun v8 wr => ∃ j : Nat, i + 1 ≤ j ∧ j ≤ es.length ∧ (i = i0 → j ≤ j0) ∧ v8 = .int .i64 (j : Int) ∧ Hid (Below w.heap.size w wr)) (fun v8 _ => es.length - (intOf v8).toNat)
    case atStart => exact ⟨i + 1, Nat.le_refl _, by omega, fun e => by omega, by go_num, (show Hid _ from H1.out)⟩
    case round =>
      clear H1
      obtain ⟨j, hj1, hj2, hj3, rfl, H1⟩ := hrel
      by_cases hlt : j < es.length
      · obtain ⟨gb, rfl, hg, hc⟩ := HE.out (by omega)
        have hcw : ∀ (i : Nat) (e : Ev), es[i]? = some e → wr.cell? ⟨gb, i * 6, none⟩ = some (.int .i64 e.thread) ∧ wr.cell? ⟨gb, i * 6 + 1, none⟩ = some (.int .u8 (e.kind : Int)) ∧ wr.cell? ⟨gb, i * 6 + 2, none⟩ = some (.int .u8 (e.name : Int)) ∧ wr.cell? ⟨gb, i * 6 + 3, none⟩ = some (.int .i16 e.value) ∧ wr.cell? ⟨gb, i * 6 + 4, none⟩ = some (.int .i64 e.block) ∧ wr.cell? ⟨gb, i * 6 + 5, none⟩ = some (.int .i64 e.group) := fun i e he => by
          obtain ⟨c0, c1, c2, c3, c4, c5⟩ := hc i e he
          have hb := H1.out
          exact ⟨(hb.cell (p := ⟨gb, i * 6, none⟩) hg).trans c0, (hb.cell (p := ⟨gb, i * 6 + 1, none⟩) hg).trans c1, (hb.cell (p := ⟨gb, i * 6 + 2, none⟩) hg).trans c2, (hb.cell (p := ⟨gb, i * 6 + 3, none⟩) hg).trans c3, (hb.cell (p := ⟨gb, i * 6 + 4, none⟩) hg).trans c4, (hb.cell (p := ⟨gb, i * 6 + 5, none⟩) hg).trans c5⟩
        have hx : es[i]? = some es[i] := List.getElem?_eq_getElem (by omega)
        have hy : es[j]? = some es[j] := List.getElem?_eq_getElem hlt
        have HEV : Hid (EvTwo gb i j es[i] es[j] wr) := ⟨evTwo_of hcw hx, evTwo_of hcw hy⟩
        have k0 := (hcw i _ hx).2.2.2.2.2
        have k1 := (hcw j _ hy).2.2.2.2.2
        have HNX : Hid ((hangEv es[i] es[j] && (es[i].group == g && es[j].group == h)) = false → (i = i0 → j + 1 ≤ j0)) := fun hf e => by
          have h5 := hj3 e
          rcases Nat.lt_or_ge j j0 with h6 | h6
          · exact h6
          · exfalso
            have ej : j = j0 := by omega
            subst e
            subst ej
            have e1 : es[i] = x0 := by have := HP.out.a; rw [hx] at this; simpa using this
            have e2 : es[j] = y0 := by have := HP.out.b; rw [hy] at this; simpa using this
            rw [e1, e2, HP.out.hang, HP.out.ag, HP.out.bg] at hf
            simp at hf
        clear hc hcw hx hy
        generalize es[i] = ex at *
        generalize es[j] = ey at *
        have hjl' : (j : Int) < (es.length : Int) := by omega
        have hj0' : (0 : Int) ≤ (j : Int) := by omega
        have ltg : gb < wr.heap.size := Nat.lt_of_lt_of_le hg H1.out.size
        go_wp2_with fail
        refine wp_region_held_drew (S := EvTwo gb i j ex ey) (by kernel_rfl) ⟨HEV.out.a, HEV.out.b⟩ (fun hHeld => ?_)
        refine wpAnyH_take (i := 0) (v := (.slice (some ⟨gb, 0, none⟩) es.length cap)) rfl (by kernel_rfl) (by kernel_rfl) (by kernel_rfl) (fun _ _ _ h => h) (Or.inl ⟨by rfl, fun _ _ => rfl⟩) hHeld ?_
        simp only [List.getElem_toArray, List.getElem_cons_zero, Act.put, List.setIfInBounds_toArray, List.set_cons_zero, List.set_cons_succ]
        refine wpAnyH_take (i := 1) (v := (.int .i64 (i : Int))) rfl (by kernel_rfl) (by kernel_rfl) (by kernel_rfl) (fun _ _ _ h => h) (Or.inl ⟨by rfl, fun _ _ => rfl⟩) hHeld ?_
        simp only [List.getElem_toArray, List.getElem_cons_zero, List.getElem_cons_succ, Act.put, List.setIfInBounds_toArray, List.set_cons_zero, List.set_cons_succ]
        refine wpAnyH_take (i := 2) (v := (.pointer (some ⟨gb, i * 6, none⟩))) rfl (by kernel_rfl) (by kernel_rfl) (by kernel_rfl) (fun _ _ _ h => h) (Or.inl ⟨by rfl, fun _ _ => by go_simp <;> (intro h; omega)⟩) hHeld ?_
        simp only [List.getElem_toArray, List.getElem_cons_zero, List.getElem_cons_succ, Act.put, List.setIfInBounds_toArray, List.set_cons_zero, List.set_cons_succ]
        refine wpAnyH_take (i := 3) (v := ex.val) rfl (by kernel_rfl) (by kernel_rfl) (by kernel_rfl) (fun _ _ _ h => h) (yieldsIf_load_mid (by rfl) _ _ rfl gb (i * 6) rfl ex.cells _ (fun w hw => hw.a) Try.underlying86 rfl Try.size86) hHeld ?_
        simp only [List.getElem_toArray, List.getElem_cons_zero, List.getElem_cons_succ, Act.put, List.setIfInBounds_toArray, List.set_cons_zero, List.set_cons_succ]
        refine wpAnyH_take (i := 4) (v := (.slice (some ⟨gb, 0, none⟩) es.length cap)) rfl (by kernel_rfl) (by kernel_rfl) (by kernel_rfl) (fun _ _ _ h => h) (Or.inl ⟨by rfl, fun _ _ => rfl⟩) hHeld ?_
        simp only [List.getElem_toArray, List.getElem_cons_zero, List.getElem_cons_succ, Act.put, List.setIfInBounds_toArray, List.set_cons_zero, List.set_cons_succ]
        refine wpAnyH_take (i := 5) (v := (.int .i64 (j : Int))) rfl (by kernel_rfl) (by kernel_rfl) (by kernel_rfl) (fun _ _ _ h => h) (Or.inl ⟨by rfl, fun _ _ => rfl⟩) hHeld ?_
        simp only [List.getElem_toArray, List.getElem_cons_zero, List.getElem_cons_succ, Act.put, List.setIfInBounds_toArray, List.set_cons_zero, List.set_cons_succ]
        refine wpAnyH_take (i := 6) (v := (.pointer (some ⟨gb, j * 6, none⟩))) rfl (by kernel_rfl) (by kernel_rfl) (by kernel_rfl) (fun _ _ _ h => h) (Or.inl ⟨by rfl, fun _ _ => by go_simp <;> (intro h; omega)⟩) hHeld ?_
        simp only [List.getElem_toArray, List.getElem_cons_zero, List.getElem_cons_succ, Act.put, List.setIfInBounds_toArray, List.set_cons_zero, List.set_cons_succ]
        refine wpAnyH_take (i := 7) (v := ey.val) rfl (by kernel_rfl) (by kernel_rfl) (by kernel_rfl) (fun _ _ _ h => h) (yieldsIf_load_mid (by rfl) _ _ rfl gb (j * 6) rfl ey.cells _ (fun w hw => hw.b) Try.underlying86 rfl Try.size86) hHeld ?_
        simp only [List.getElem_toArray, List.getElem_cons_zero, List.getElem_cons_succ, Act.put, List.setIfInBounds_toArray, List.set_cons_zero, List.set_cons_succ]
        refine wpAnyH_call 8 _ (by kernel_rfl) rfl rfl 40 #[ex.val, ey.val] (by go_simp) _ (keepHang_any ex ey _) ?_
        rintro e w6 ⟨rfl, hb6'⟩
        have hb6 : Below wr.heap.size wr w6 := (Below.refl _ _).drew.trans (hb6'.mono (Nat.le_refl _))
        have hS6 := hHeld.below hb6' ltg
        refine ⟨_, rfl, hS6, ?_⟩
        simp only [List.getElem_toArray, List.getElem_cons_zero, List.getElem_cons_succ, Act.put, List.setIfInBounds_toArray, List.set_cons_zero, List.set_cons_succ]
        refine wpAnyH_take (i := 9) (v := (.bool (hangEv ex ey))) rfl (by kernel_rfl) (by kernel_rfl) (by kernel_rfl) (fun _ _ _ h => h) (Or.inl ⟨by rfl, fun _ _ => rfl⟩) hS6 ?_
        simp only [List.getElem_toArray, List.getElem_cons_zero, List.getElem_cons_succ, Act.put, List.setIfInBounds_toArray, List.set_cons_zero, List.set_cons_succ]
        refine wpAnyH_done (by kernel_rfl) ?_ _
        have HB6 : Hid (Below w.heap.size w w6) := H1.out.trans (hb6.mono H1.out.size)
        have m0 := (hb6.cell (p := ⟨gb, i * 6 + 5, none⟩) ltg).trans k0
        have m1 := (hb6.cell (p := ⟨gb, j * 6 + 5, none⟩) ltg).trans k1
        clear hb6 hb6' hS6 HEV hHeld k0 k1 H1
        generalize ex.val = vx
        generalize ey.val = vy
        generalize ex.group = xg at *
        generalize ey.group = yg at *
        cases hha : hangEv ex ey
        · have HN2 : Hid _ := HNX.out (by rw [hha]; rfl)
          clear HNX hha
          go_wp2
          go_roundw
          case rel => exact ⟨j + 1, by omega, by omega, HN2.out, by go_num, (show Hid _ from HB6.out)⟩
          case measure => simp [intOf]; omega
        · cases hxg : (xg == g)
          · have HN2 : Hid _ := HNX.out (by rw [hha, hxg]; rfl)
            clear HNX hha
            go_wp2
            go_roundw
            case rel => exact ⟨j + 1, by omega, by omega, HN2.out, by go_num, (show Hid _ from HB6.out)⟩
            case measure => simp [intOf]; omega
          · cases hyg : (yg == h)
            · have HN2 : Hid _ := HNX.out (by rw [hha, hxg, hyg]; rfl)
              clear HNX hha
              go_wp2
              go_roundw
              case rel => exact ⟨j + 1, by omega, by omega, HN2.out, by go_num, (show Hid _ from HB6.out)⟩
              case measure => simp [intOf]; omega
            · clear HNX hha
              go_wp2
              go_ret
              exact ⟨rfl, HB6.out⟩
      · have hlt2 : ¬ (j : Int) < (es.length : Int) := by omega
        have hii : i + 1 ≤ i0 := by
          rcases Nat.lt_or_ge i i0 with h6 | h6
          · exact h6
          · exfalso
            have := hj3 (by omega)
            omega
        go_wp2
        go_roundw
        case rel => exact ⟨i + 1, hii, by go_num, (show Hid _ from H1.out)⟩
        case measure => simp [intOf]; omega

/-- Two numbers of a list in memory. -/
structure CyTwo (g i j : Nat) (x y : Int) (w : World) : Prop where
  a : w.cell? ⟨g, i, none⟩ = some (.int .i64 x)
  b : w.cell? ⟨g, j, none⟩ = some (.int .i64 y)

theorem CyTwo.ra {g i j : Nat} {x y : Int} {w : World} (h : CyTwo g i j x y w) : w.rangeAt g i [.int .i64 x] := fun k v hv => by
  have hk : k = 0 := by have := (List.getElem?_eq_some_iff.1 hv).1; simp at this; omega
  subst hk
  simp at hv
  subst hv
  exact h.a
theorem CyTwo.rb {g i j : Nat} {x y : Int} {w : World} (h : CyTwo g i j x y w) : w.rangeAt g j [.int .i64 y] := fun k v hv => by
  have hk : k = 0 := by have := (List.getElem?_eq_some_iff.1 hv).1; simp at this; omega
  subst hk
  simp at hv
  subst hv
  exact h.b

set_option maxRecDepth 100000 in
set_option maxHeartbeats 4000000 in
theorem knot_true (es : List Ev) (a : Option Addr) (cap : Nat) (c : List Int) (ca : Option Addr) (ccap : Nat) (w : World) (hE : EvsIn w a es) (hl : es.length ≤ 4000) (hc : IntsIn w ca c) (hcl : c.length ≤ 4000) (hK : KnotOk es c) :
    Calls Try.prog 13 #[.slice a es.length cap, .slice ca c.length ccap] w fun e w' => e = .returned (.bool true) ∧ Below w.heap.size w w' := by
  have HE : Hid (EvsIn w a es) := hE
  have HC : Hid (IntsIn w ca c) := hc
  have HK : Hid (KnotOk es c) := hK
  have htwo : (1 : Int) < (c.length : Int) := by have := hK.two; omega
  clear hE hc hK
  go_enter Try.func13, Try.ntmps13
  go_wp2_with fail
  go_loopw [5] (fun v5 wr => ∃ i : Nat, i ≤ c.length ∧ v5 = .int .i64 (i : Int) ∧ Hid (Below w.heap.size w wr)) (fun v5 _ => c.length - (intOf v5).toNat)
  case atStart => exact ⟨0, Nat.zero_le _, rfl, (show Hid _ from Below.refl _ _)⟩
  case round =>
    obtain ⟨i, hi, rfl, H1⟩ := hrel
    by_cases hlt : i < c.length
    · have hlt' : (i : Int) < (c.length : Int) := by omega
      have hi0' : (0 : Int) ≤ (i : Int) := by omega
      go_wp2_with fail
      go_loopw [6] (fun v6 wr => ∃ j : Nat, j ≤ i ∧ v6 = .int .i64 (j : Int) ∧ Hid (Below w.heap.size w wr)) (fun v6 _ => i - (intOf v6).toNat)
      case atStart => exact ⟨0, Nat.zero_le _, rfl, (show Hid _ from H1.out)⟩
      case round =>
        clear H1
        obtain ⟨j, hj, rfl, H1⟩ := hrel
        obtain ⟨gb, rfl, hg, hcc⟩ := HC.out (by omega)
        by_cases hji : j < i
        · have c0 := (H1.out.cell (p := ⟨gb, i, none⟩) hg).trans (hcc i c[i] (List.getElem?_eq_getElem hlt))
          have c1 := (H1.out.cell (p := ⟨gb, j, none⟩) hg).trans (hcc j c[j] (List.getElem?_eq_getElem (by omega)))
          have hne : (c[i] == c[j]) = false := by
            rw [beq_eq_false_iff_ne]
            intro e
            have := nodup_idx HK.out.nd hlt (by omega) e
            omega
          clear hcc
          generalize c[i] = x at *
          generalize c[j] = y at *
          have hji' : (j : Int) < (i : Int) := by omega
          have hjl' : (j : Int) < (c.length : Int) := by omega
          have hj0' : (0 : Int) ≤ (j : Int) := by omega
          go_wp2_with fail
          go_quiet (fail)
          go_wp2
          go_roundw
          case rel => exact ⟨j + 1, by omega, by go_num, (show Hid _ from below_drewN H1.out _)⟩
          case measure => simp [intOf]; omega
        · have hji' : ¬ (j : Int) < (i : Int) := by omega
          have hcp : 0 < c.length := by omega
          have hk : (i + 1) % c.length < c.length := Nat.mod_lt _ hcp
          have HAH : Hid (AheadEv es c[i] c[(i + 1) % c.length]) := HK.out.ahead i _ _ (List.getElem?_eq_getElem hlt) (List.getElem?_eq_getElem hk)
          have HCT : Hid (CyTwo gb i ((i + 1) % c.length) c[i] c[(i + 1) % c.length] wr) := ⟨(H1.out.cell (p := ⟨gb, i, none⟩) hg).trans (hcc i _ (List.getElem?_eq_getElem hlt)), (H1.out.cell (p := ⟨gb, (i + 1) % c.length, none⟩) hg).trans (hcc _ _ (List.getElem?_eq_getElem hk))⟩
          have HMOD : Hid (((i : Int) + 1).tmod (c.length : Int) = (((i + 1) % c.length : Nat) : Int)) := by
            show _ = _
            rw [show ((i : Int) + 1) = ((i + 1 : Nat) : Int) by omega]; rfl
          have HCN : Hid (c ≠ []) := by show _ ≠ _; intro e; rw [e] at hcp; simp at hcp
          have hk' : (((i + 1) % c.length : Nat) : Int) < (c.length : Int) := by omega
          have hk0 : (0 : Int) ≤ (((i + 1) % c.length : Nat) : Int) := by omega
          have hcz : ((c.length : Int) == 0) = false := by simp; intro e; rw [e] at hcp; simp at hcp
          have ltg : gb < wr.heap.size := Nat.lt_of_lt_of_le hg H1.out.size
          clear hcc
          generalize c[(i + 1) % c.length] = y at *
          generalize c[i] = x at *
          generalize hkk : (i + 1) % c.length = k at *
          clear hkk
          go_wp2_with fail
          refine wp_region_held_drew (S := CyTwo gb i k x y) (by kernel_rfl) ⟨HCT.out.a, HCT.out.b⟩ (fun hHeld => ?_)
          refine wpAnyH_take (i := 0) (v := (.slice a es.length cap)) rfl (by kernel_rfl) (by kernel_rfl) (by kernel_rfl) (fun _ _ _ h => h) (Or.inl ⟨by rfl, fun _ _ => rfl⟩) hHeld ?_
          simp only [List.getElem_toArray, List.getElem_cons_zero, Act.put, List.setIfInBounds_toArray, List.set_cons_zero, List.set_cons_succ]
          refine wpAnyH_take (i := 1) (v := (.slice (some ⟨gb, 0, none⟩) c.length ccap)) rfl (by kernel_rfl) (by kernel_rfl) (by kernel_rfl) (fun _ _ _ h => h) (Or.inl ⟨by rfl, fun _ _ => rfl⟩) hHeld ?_
          simp only [List.getElem_toArray, List.getElem_cons_zero, List.getElem_cons_succ, Act.put, List.setIfInBounds_toArray, List.set_cons_zero, List.set_cons_succ]
          refine wpAnyH_take (i := 2) (v := (.int .i64 (i : Int))) rfl (by kernel_rfl) (by kernel_rfl) (by kernel_rfl) (fun _ _ _ h => h) (Or.inl ⟨by rfl, fun _ _ => rfl⟩) hHeld ?_
          simp only [List.getElem_toArray, List.getElem_cons_zero, List.getElem_cons_succ, Act.put, List.setIfInBounds_toArray, List.set_cons_zero, List.set_cons_succ]
          refine wpAnyH_take (i := 3) (v := (.pointer (some ⟨gb, i, none⟩))) rfl (by kernel_rfl) (by kernel_rfl) (by kernel_rfl) (fun _ _ _ h => h) (Or.inl ⟨by rfl, fun _ _ => by go_simp <;> (intro h; omega)⟩) hHeld ?_
          simp only [List.getElem_toArray, List.getElem_cons_zero, List.getElem_cons_succ, Act.put, List.setIfInBounds_toArray, List.set_cons_zero, List.set_cons_succ]
          refine wpAnyH_take (i := 4) (v := (.int .i64 x)) rfl (by kernel_rfl) (by kernel_rfl) (by kernel_rfl) (fun _ _ _ h => h) (Or.inl ⟨by rfl, fun w hw => by have hwa := hw.a; clear HCT hHeld; go_simp⟩) hHeld ?_
          simp only [List.getElem_toArray, List.getElem_cons_zero, List.getElem_cons_succ, Act.put, List.setIfInBounds_toArray, List.set_cons_zero, List.set_cons_succ]
          refine wpAnyH_take (i := 5) (v := (.slice (some ⟨gb, 0, none⟩) c.length ccap)) rfl (by kernel_rfl) (by kernel_rfl) (by kernel_rfl) (fun _ _ _ h => h) (Or.inl ⟨by rfl, fun _ _ => rfl⟩) hHeld ?_
          simp only [List.getElem_toArray, List.getElem_cons_zero, List.getElem_cons_succ, Act.put, List.setIfInBounds_toArray, List.set_cons_zero, List.set_cons_succ]
          refine wpAnyH_take (i := 6) (v := (.int .i64 (i : Int))) rfl (by kernel_rfl) (by kernel_rfl) (by kernel_rfl) (fun _ _ _ h => h) (Or.inl ⟨by rfl, fun _ _ => rfl⟩) hHeld ?_
          simp only [List.getElem_toArray, List.getElem_cons_zero, List.getElem_cons_succ, Act.put, List.setIfInBounds_toArray, List.set_cons_zero, List.set_cons_succ]
          refine wpAnyH_take (i := 7) (v := (.int .i64 ((i : Int) + 1))) rfl (by kernel_rfl) (by kernel_rfl) (by kernel_rfl) (fun _ _ _ h => h) (Or.inl ⟨by rfl, fun _ _ => by go_simp <;> (rw [IntKind.wrap_i64]; omega)⟩) hHeld ?_
          simp only [List.getElem_toArray, List.getElem_cons_zero, List.getElem_cons_succ, Act.put, List.setIfInBounds_toArray, List.set_cons_zero, List.set_cons_succ]
          refine wpAnyH_take (i := 8) (v := (.slice (some ⟨gb, 0, none⟩) c.length ccap)) rfl (by kernel_rfl) (by kernel_rfl) (by kernel_rfl) (fun _ _ _ h => h) (Or.inl ⟨by rfl, fun _ _ => rfl⟩) hHeld ?_
          simp only [List.getElem_toArray, List.getElem_cons_zero, List.getElem_cons_succ, Act.put, List.setIfInBounds_toArray, List.set_cons_zero, List.set_cons_succ]
          refine wpAnyH_take (i := 9) (v := (.int .i64 (c.length : Int))) rfl (by kernel_rfl) (by kernel_rfl) (by kernel_rfl) (fun _ _ _ h => h) (Or.inl ⟨by rfl, fun _ _ => by go_simp⟩) hHeld ?_
          simp only [List.getElem_toArray, List.getElem_cons_zero, List.getElem_cons_succ, Act.put, List.setIfInBounds_toArray, List.set_cons_zero, List.set_cons_succ]
          refine wpAnyH_take (i := 10) (v := (.int .i64 (k : Int))) rfl (by kernel_rfl) (by kernel_rfl) (by kernel_rfl) (fun _ _ _ h => h) (Or.inl ⟨by rfl, fun _ _ => by go_simp; rw [if_neg HCN.out, HMOD.out]⟩) hHeld ?_
          simp only [List.getElem_toArray, List.getElem_cons_zero, List.getElem_cons_succ, Act.put, List.setIfInBounds_toArray, List.set_cons_zero, List.set_cons_succ]
          refine wpAnyH_take (i := 11) (v := (.pointer (some ⟨gb, k, none⟩))) rfl (by kernel_rfl) (by kernel_rfl) (by kernel_rfl) (fun _ _ _ h => h) (Or.inl ⟨by rfl, fun _ _ => by go_simp <;> (intro h; omega)⟩) hHeld ?_
          simp only [List.getElem_toArray, List.getElem_cons_zero, List.getElem_cons_succ, Act.put, List.setIfInBounds_toArray, List.set_cons_zero, List.set_cons_succ]
          refine wpAnyH_take (i := 12) (v := (.int .i64 y)) rfl (by kernel_rfl) (by kernel_rfl) (by kernel_rfl) (fun _ _ _ h => h) (Or.inl ⟨by rfl, fun w hw => by have hwb := hw.b; clear HCT hHeld; go_simp⟩) hHeld ?_
          simp only [List.getElem_toArray, List.getElem_cons_zero, List.getElem_cons_succ, Act.put, List.setIfInBounds_toArray, List.set_cons_zero, List.set_cons_succ]
          refine wpAnyH_call 13 _ (by kernel_rfl) rfl rfl 23 #[.slice a es.length cap, .int .i64 x, .int .i64 y] (by go_simp) _ (ahead_true es a cap x y _ (EvsIn.below HE.out H1.out.drew) hl HAH.out) ?_
          rintro e w6 ⟨rfl, hb6'⟩
          have hb6 : Below wr.heap.size wr w6 := (Below.refl _ _).drew.trans (hb6'.mono (Nat.le_refl _))
          have hS6 : CyTwo gb i k x y w6 := ⟨(hb6.cell (p := ⟨gb, i, none⟩) ltg).trans HCT.out.a, (hb6.cell (p := ⟨gb, k, none⟩) ltg).trans HCT.out.b⟩
          refine ⟨_, rfl, hS6, ?_⟩
          simp only [List.getElem_toArray, List.getElem_cons_zero, List.getElem_cons_succ, Act.put, List.setIfInBounds_toArray, List.set_cons_zero, List.set_cons_succ]
          refine wpAnyH_take (i := 14) (v := (.bool true)) rfl (by kernel_rfl) (by kernel_rfl) (by kernel_rfl) (fun _ _ _ h => h) (Or.inl ⟨by rfl, fun _ _ => rfl⟩) hS6 ?_
          simp only [List.getElem_toArray, List.getElem_cons_zero, List.getElem_cons_succ, Act.put, List.setIfInBounds_toArray, List.set_cons_zero, List.set_cons_succ]
          refine wpAnyH_done (by kernel_rfl) ?_ _
          have HB6 : Hid (Below w.heap.size w w6) := H1.out.trans (hb6.mono H1.out.size)
          clear hb6 hb6' hS6 hHeld HCT H1 HMOD
          go_wp2
          go_roundw
          case rel => exact ⟨i + 1, by omega, by go_num, (show Hid _ from HB6.out)⟩
          case measure => simp [intOf]; omega
    · have hlt' : ¬ (i : Int) < (c.length : Int) := by omega
      go_wp2
      go_ret
      exact ⟨rfl, H1.out⟩

end Go.Proofs.Ytfdafcnfefbcbab
