/-
  The law Swapped: its walk.
-/
import Derived.Test.YtfdafcnfefbcbaaAlike
import Derived.Test.YtfdafcnfefbcbaaPla
import Derived.Test.YtfdafcnfefbcbaaRawArgs
namespace Go.Proofs.Ytfdafcnfefbcbaa
open Go.RowKit
set_option linter.unusedVariables false

/-- Two neighbours of a list change places. -/
def swapAt (ms : List Int) (i : Nat) (m n : Int) : List Int := ms.take i ++ n :: m :: ms.drop (i + 2)

theorem swap_split {ms : List Int} {i : Nat} {m n : Int} (hm : ms[i]? = some m) (hn : ms[i + 1]? = some n) : ms = ms.take i ++ m :: n :: ms.drop (i + 2) := by
  have e1 : ms.drop i = m :: ms.drop (i + 1) := by
    obtain ⟨hi, e⟩ := List.getElem?_eq_some_iff.1 hm
    rw [List.drop_eq_getElem_cons hi, e]
  have e2 : ms.drop (i + 1) = n :: ms.drop (i + 2) := by
    obtain ⟨hi, e⟩ := List.getElem?_eq_some_iff.1 hn
    rw [List.drop_eq_getElem_cons hi, e]
  rw [← e2, ← e1, List.take_append_drop]

theorem swap_at {ms : List Int} {i : Nat} {m n : Int} (hm : ms[i]? = some m) (hn : ms[i + 1]? = some n) (j : Nat) : (swapAt ms i m n)[j]? = if j = i then some n else if j = i + 1 then some m else ms[j]? := by
  have hl : i + 1 < ms.length := (List.getElem?_eq_some_iff.1 hn).1
  have ht : (ms.take i).length = i := by simp; omega
  unfold swapAt
  by_cases h1 : j < i
  · rw [List.getElem?_append_left (by omega), if_neg (by omega), if_neg (by omega), List.getElem?_take, if_pos h1]
  · rw [List.getElem?_append_right (by omega), ht]
    by_cases h2 : j = i
    · subst h2; simp
    · by_cases h3 : j = i + 1
      · subst h3; simp
      · rw [if_neg h2, if_neg h3, show j - i = (j - (i + 2)) + 2 by omega]
        simp only [List.getElem?_cons_succ]
        rw [List.getElem?_drop, show i + 2 + (j - (i + 2)) = j by omega]

theorem swap_len {ms : List Int} {i : Nat} {m n : Int} (hl : i + 1 < ms.length) : (swapAt ms i m n).length = ms.length := by
  unfold swapAt
  simp
  omega

theorem ints_swap {w : World} {g : Nat} {ms : List Int} {i : Nat} {m n : Int} (hg : g < w.heap.size) (hc : ∀ j x, ms[j]? = some x → w.cell? ⟨g, j, none⟩ = some (.int .i64 x)) (hm : ms[i]? = some m) (hn : ms[i + 1]? = some n) :
    IntsIn ((w.setCell ⟨g, i, none⟩ (.int .i64 n)).setCell ⟨g, i + 1, none⟩ (.int .i64 m)) (some ⟨g, 0, none⟩) (swapAt ms i m n) := fun h0 => by
  refine ⟨g, rfl, by simpa using hg, fun j x hx => ?_⟩
  have c0 := hc i m hm
  have c1 := hc (i + 1) n hn
  rw [swap_at hm hn] at hx
  by_cases h1 : j = i
  · subst h1
    rw [if_pos rfl] at hx
    simp only [Option.some.injEq] at hx
    subst hx
    rw [World.cell?_setCell_other _ _ _ _ (by simp)]
    simp [World.cell?_setCell_same', c0]
  · by_cases h2 : j = i + 1
    · subst h2
      rw [if_neg h1, if_pos rfl] at hx
      simp only [Option.some.injEq] at hx
      subst hx
      have : (w.setCell ⟨g, i, none⟩ (.int .i64 n)).cell? ⟨g, i + 1, none⟩ = some (.int .i64 n) := by rw [World.cell?_setCell_other _ _ _ _ (by simp)]; exact c1
      simp [World.cell?_setCell_same', this]
    · rw [if_neg h1, if_neg h2] at hx
      rw [World.cell?_setCell_other _ _ _ _ (by simp []), World.cell?_setCell_other _ _ _ _ (by simp [])]
      exact hc j x hx

set_option maxRecDepth 100000 in
set_option maxHeartbeats 4000000 in
theorem swapped_walk (os : List Raw) (rs : List Int) (t : Int) (a ra : Option Addr) (cap rcap : Nat) (w : World) (h : RawArgs w a os ra rs) (h8 : rs.length * 8 ≤ 140737488351232) (ht : InI64 t) :
    Calls Try.prog 10 #[.slice a os.length cap, .slice ra rs.length rcap, .int .i64 t] w fun e w' => e = .returned (.bool true) ∧ Below w.heap.size w w' := by
  have HH : Hid _ := h
  have HT : Hid _ := ht
  clear h ht
  obtain ⟨i0, hi0, hz0, hz1, hz2⟩ := info_parts Try.info3
  go_enter Try.func10, Try.ntmps10
  go_wp2_with fail
  refine (sure_any _).mono ?_
  rintro e w1 ⟨rfl, hb1⟩
  go_wp2_with fail
  refine (given3_any os a cap _ (HH.out.ops.below hb1) HH.out.lenO).mono ?_
  rintro e w2 ⟨⟨b, p, rfl, hp2, hs, hc10, hnm, hcp⟩, hb2⟩
  have HB2 : Hid (Below w.heap.size w w2) := hb1.trans (hb2.mono hb1.size)
  have HP2 : Hid (ProgIn w2 w1.heap.size w2.heap.size b p) := hp2
  have HS : Hid _ := hs
  have HC : Hid _ := hc10
  have HNM : Hid _ := hnm
  clear hb1 hb2 hp2 hs hc10 hnm hcp
  go_wp2_with fail
  refine (whole_any p w1.heap.size w2.heap.size b rs ra rcap _ HP2.out HS.out HC.out (Nat.le_refl _) (NumsIn.below HH.out.nums HB2.out) h8).mono ?_
  rintro e w3 ⟨ms, ma, mcap, S, es, rfl, hl3, hrd⟩
  have HL3 : Hid _ := hl3
  have HP3 : Hid (ProgIn w3 w1.heap.size w2.heap.size b p) := HP2.out.below hl3.bl
  have HLEN : Hid _ := follow_len hl3.fol
  have HSH : Hid (ms.length ≤ maxLen) := by have := HLEN.out.2.2; have := HC.out; show _ ≤ _; unfold maxLen; omega
  have hm10 : ms.length ≤ 10 := by have := HLEN.out.2.2; have := HC.out; omega
  have HEL : Hid (es.length = ms.length) := HLEN.out.2.1
  clear hl3 hrd
  go_wp2_with fail
  refine (events_any p w1.heap.size w2.heap.size b ms ma mcap _ HP3.out HS.out HL3.out.bl.size (ints_of_owns HL3.out.own) HSH.out).mono ?_
  rintro e w4 hev
  unfold EventsSays at hev
  rw [HL3.out.fol] at hev
  obtain ⟨hb4, ea, ecap, rfl, ho4⟩ := hev
  rw [HEL.out] at ho4 ⊢
  have HO4 : Hid (EvsIn w4 ea es) := evs_of_owns (cap := ecap) (by rw [HEL.out]; exact ho4)
  have HB4 : Hid (Below w2.heap.size w2 w4) := HL3.out.bl.trans (hb4.mono HL3.out.bl.size)
  have HOM : Hid (w4.ownsRow w2.heap.size 3 1 (.slice ma ms.length mcap) ms.length (intCells ms)) := ((ownsRow_in HL3.out.own).below hb4).1
  have HW4 : Hid (Below w.heap.size w w4) := HB2.out.trans (HB4.out.mono HB2.out.size)
  clear hb4 ho4
  by_cases h2 : ms.length < 2
  · have h2' : (ms.length : Int) < 2 := by omega
    go_wp2
    go_ret
    exact ⟨rfl, HW4.out⟩
  · have h2' : ¬ (ms.length : Int) < 2 := by omega
    have hpk := pickOf_lt t ((ms.length : Int) - 1) (by omega)
    obtain ⟨i, hi⟩ : ∃ i : Nat, pickOf t ((ms.length : Int) - 1) = (i : Int) := ⟨(pickOf t ((ms.length : Int) - 1)).toNat, by omega⟩
    have hil : i + 1 < ms.length := by omega
    have HI : Hid _ := hi
    clear hpk hi
    go_wp2_with fail
    refine (pick_any t ((ms.length : Int) - 1) _ HT.out (by omega) (by omega)).mono ?_
    rintro e w5 ⟨rfl, rfl⟩
    rw [HI.out]
    have hie : i + 1 < es.length := by have := HEL.out; omega
    obtain ⟨g, rfl, hg, hgc⟩ := HO4.out (by omega)
    have hx : es[i]? = some es[i] := List.getElem?_eq_getElem (by omega)
    have hy : es[i + 1]? = some es[i + 1] := List.getElem?_eq_getElem hie
    have HEV : Hid (EvTwo g i (i + 1) es[i] es[i + 1] w5) := ⟨evTwo_of hgc hx, evTwo_of hgc hy⟩
    have HSW : Hid (∀ m n, ms[i]? = some m → ms[i + 1]? = some n → hangEv es[i] es[i + 1] = false → ∃ es', follow p (beginTo p 4) [] 0 (swapAt ms i m n) = some (S, es') ∧ (cycleOf es = [] ↔ cycleOf es' = [])) := fun m n hm hn hh => by
      have hsp := swap_split hm hn
      have ht : (ms.take i).length = i := by simp; omega
      have hf := HL3.out.fol
      rw [hsp] at hf
      exact swapped_run HNM.out (begin_ok p) hf (x := es[i]) (y := es[i + 1]) (by rw [ht]; exact hx) (by rw [ht]; exact hy) hh
    clear hgc hx hy
    generalize es[i] = ex at *
    generalize es[i + 1] = ey at *
    have hil' : (i : Int) + 1 < (ms.length : Int) := by omega
    have hi0' : (0 : Int) ≤ (i : Int) := by omega
    go_wp2_with fail
    refine wp_region_held_drew (S := EvTwo g i (i + 1) ex ey) (by kernel_rfl) ⟨HEV.out.a, HEV.out.b⟩ (fun hHeld => ?_)
    refine wpAnyH_take (i := 0) (v := (.slice (some ⟨g, 0, none⟩) ms.length ecap)) rfl (by kernel_rfl) (by kernel_rfl) (by kernel_rfl) (fun _ _ _ h => h) (Or.inl ⟨by rfl, fun _ _ => rfl⟩) hHeld ?_
    simp only [List.getElem_toArray, List.getElem_cons_zero, Act.put, List.setIfInBounds_toArray, List.set_cons_zero, List.set_cons_succ]
    refine wpAnyH_take (i := 1) (v := (.int .i64 (i : Int))) rfl (by kernel_rfl) (by kernel_rfl) (by kernel_rfl) (fun _ _ _ h => h) (Or.inl ⟨by rfl, fun _ _ => rfl⟩) hHeld ?_
    simp only [List.getElem_toArray, List.getElem_cons_zero, List.getElem_cons_succ, Act.put, List.setIfInBounds_toArray, List.set_cons_zero, List.set_cons_succ]
    refine wpAnyH_take (i := 2) (v := (.pointer (some ⟨g, i * 6, none⟩))) rfl (by kernel_rfl) (by kernel_rfl) (by kernel_rfl) (fun _ _ _ h => h) (Or.inl ⟨by rfl, fun _ _ => by go_simp <;> (intro h; omega)⟩) hHeld ?_
    simp only [List.getElem_toArray, List.getElem_cons_zero, List.getElem_cons_succ, Act.put, List.setIfInBounds_toArray, List.set_cons_zero, List.set_cons_succ]
    refine wpAnyH_take (i := 3) (v := ex.val) rfl (by kernel_rfl) (by kernel_rfl) (by kernel_rfl) (fun _ _ _ h => h) (yieldsIf_load_mid (by rfl) _ _ rfl g (i * 6) rfl ex.cells _ (fun w hw => hw.a) Try.underlying70 rfl Try.size70) hHeld ?_
    simp only [List.getElem_toArray, List.getElem_cons_zero, List.getElem_cons_succ, Act.put, List.setIfInBounds_toArray, List.set_cons_zero, List.set_cons_succ]
    refine wpAnyH_take (i := 4) (v := (.slice (some ⟨g, 0, none⟩) ms.length ecap)) rfl (by kernel_rfl) (by kernel_rfl) (by kernel_rfl) (fun _ _ _ h => h) (Or.inl ⟨by rfl, fun _ _ => rfl⟩) hHeld ?_
    simp only [List.getElem_toArray, List.getElem_cons_zero, List.getElem_cons_succ, Act.put, List.setIfInBounds_toArray, List.set_cons_zero, List.set_cons_succ]
    refine wpAnyH_take (i := 5) (v := (.int .i64 (i : Int))) rfl (by kernel_rfl) (by kernel_rfl) (by kernel_rfl) (fun _ _ _ h => h) (Or.inl ⟨by rfl, fun _ _ => rfl⟩) hHeld ?_
    simp only [List.getElem_toArray, List.getElem_cons_zero, List.getElem_cons_succ, Act.put, List.setIfInBounds_toArray, List.set_cons_zero, List.set_cons_succ]
    refine wpAnyH_take (i := 6) (v := (.int .i64 ((i : Int) + 1))) rfl (by kernel_rfl) (by kernel_rfl) (by kernel_rfl) (fun _ _ _ h => h) (Or.inl ⟨by rfl, fun _ _ => by go_simp <;> (rw [IntKind.wrap_i64]; omega)⟩) hHeld ?_
    simp only [List.getElem_toArray, List.getElem_cons_zero, List.getElem_cons_succ, Act.put, List.setIfInBounds_toArray, List.set_cons_zero, List.set_cons_succ]
    refine wpAnyH_take (i := 7) (v := (.pointer (some ⟨g, (i + 1) * 6, none⟩))) rfl (by kernel_rfl) (by kernel_rfl) (by kernel_rfl) (fun _ _ _ h => h) (Or.inl ⟨by rfl, fun _ _ => by go_simp <;> (intro h; omega)⟩) hHeld ?_
    simp only [List.getElem_toArray, List.getElem_cons_zero, List.getElem_cons_succ, Act.put, List.setIfInBounds_toArray, List.set_cons_zero, List.set_cons_succ]
    refine wpAnyH_take (i := 8) (v := ey.val) rfl (by kernel_rfl) (by kernel_rfl) (by kernel_rfl) (fun _ _ _ h => h) (yieldsIf_load_mid (by rfl) _ _ rfl g ((i + 1) * 6) rfl ey.cells _ (fun w hw => hw.b) Try.underlying70 rfl Try.size70) hHeld ?_
    simp only [List.getElem_toArray, List.getElem_cons_zero, List.getElem_cons_succ, Act.put, List.setIfInBounds_toArray, List.set_cons_zero, List.set_cons_succ]
    refine wpAnyH_call 9 _ (by kernel_rfl) rfl rfl 35 #[ex.val, ey.val] (by go_simp) _ (keepHang_any ex ey _) ?_
    rintro e w6 ⟨rfl, hb6'⟩
    have hb6 : Below w5.heap.size w5 w6 := (Below.refl _ _).drew.trans (hb6'.mono (Nat.le_refl _))
    have hS6 := hHeld.below hb6' hg
    refine ⟨_, rfl, hS6, ?_⟩
    simp only [List.getElem_toArray, List.getElem_cons_zero, List.getElem_cons_succ, Act.put, List.setIfInBounds_toArray, List.set_cons_zero, List.set_cons_succ]
    refine wpAnyH_take (i := 10) (v := (.bool (hangEv ex ey))) rfl (by kernel_rfl) (by kernel_rfl) (by kernel_rfl) (fun _ _ _ h => h) (Or.inl ⟨by rfl, fun _ _ => rfl⟩) hS6 ?_
    simp only [List.getElem_toArray, List.getElem_cons_zero, List.getElem_cons_succ, Act.put, List.setIfInBounds_toArray, List.set_cons_zero, List.set_cons_succ]
    refine wpAnyH_done (by kernel_rfl) ?_ _
    have HW6 : Hid (Below w.heap.size w w6) := HW4.out.trans (hb6.mono HW4.out.size)
    have HOM6 : Hid (w6.ownsRow w2.heap.size 3 1 (.slice ma ms.length mcap) ms.length (intCells ms)) := ((ownsRow_in HOM.out).below hb6).1
    have HB6 : Hid (Below w2.heap.size w2 w6) := HB4.out.trans (hb6.mono HB4.out.size)
    clear hb6 hb6' hS6 HEV hHeld HOM HB4 HW4 HO4
    generalize ex.val = vx
    generalize ey.val = vy
    cases hha : hangEv ex ey
    · obtain ⟨mb, rfl, hmb, hmlt, -, -, hmc, -⟩ := owns_cells HOM6.out (by omega)
      have hm : ms[i]? = some ms[i] := List.getElem?_eq_getElem (by omega)
      have hn : ms[i + 1]? = some ms[i + 1] := List.getElem?_eq_getElem (by omega)
      obtain ⟨es', hf', hcy⟩ := HSW.out _ _ hm hn hha
      have HF' : Hid _ := hf'
      have HCY : Hid _ := hcy
      have HM : Hid (ms[i]? = some ms[i]) := hm
      have HN : Hid (ms[i + 1]? = some ms[i + 1]) := hn
      have c0 : w6.cell? ⟨mb, i, none⟩ = some (.int .i64 ms[i]) := hmc i _ (by simp [intCells, hm])
      have c1 : w6.cell? ⟨mb, i + 1, none⟩ = some (.int .i64 ms[i + 1]) := hmc (i + 1) _ (by simp [intCells, hn])
      have HCC : Hid (∀ j u, (intCells ms)[j]? = some u → w6.cell? ((⟨mb, 0, none⟩ : Addr).add j) = some u) := fun j u hu => by
        have hadd : (⟨mb, 0, none⟩ : Addr).add j = ⟨mb, j, none⟩ := by unfold Addr.add; split <;> simp_all
        rw [hadd]; exact hmc j u hu
      clear hf' hcy hm hn hmc HSW
      generalize ms[i] = m at *
      generalize ms[i + 1] = n at *
      have hz6 := HB6.out.size
      go_upto_region 17 with (first | (refine wpList_append_lies _ rfl _ _ _ rfl w6.heap.size 3 i0 _ 1 8 Try.underlying40 hi0 hz0 hz1 hz2 rfl (by omega) (.slice none 0 0) 0 [] rfl (World.ownsRow_nil _ _ _ _) ⟨mb, 0, none⟩ ms.length mcap (intCells ms) rfl (by simp [intCells]) (by exact HCC.out) (by simp [intCells, Value.oneCell']) (by omega) (by unfold maxLen; omega) (by omega) (Nat.le_refl _) w6.heap.size rfl ?_; intro gg cap1 w7 hown hgrow hat hlt7))
      simp only [Nat.zero_add, List.nil_append] at hown
      obtain ⟨gg', hgg, hgb, -, -, -, hgc, hgf⟩ := owns_cells hown (by omega)
      have hgg' : gg' = gg := by simp at hgg; exact hgg.symm
      subst hgg'
      have HB7 : Hid (Below w6.heap.size w6 w7) := (Below.refl _ _).grown hgrow (Nat.le_refl _) (fun y hy => by simp [Value.ownBlock] at hy)
      have d0 : w7.cell? ⟨gg', i, none⟩ = some (.int .i64 m) := hgc i _ (by simp [intCells, HM.out])
      have d1 : w7.cell? ⟨gg', i + 1, none⟩ = some (.int .i64 n) := hgc (i + 1) _ (by simp [intCells, HN.out])
      have f0 := hgf i
      have f1 := hgf (i + 1)
      have e0 := (HB7.out.cell (p := ⟨mb, i, none⟩) hmlt).trans c0
      have e1 := (HB7.out.cell (p := ⟨mb, i + 1, none⟩) hmlt).trans c1
      have hne : mb ≠ gg' := by omega
      have HIS : Hid (IntsIn ((w7.setCell ⟨gg', i, none⟩ (.int .i64 n)).setCell ⟨gg', i + 1, none⟩ (.int .i64 m)) (some ⟨gg', 0, none⟩) (swapAt ms i m n)) := ints_swap hlt7 (fun j x hx => hgc j _ (by simp [intCells, hx])) HM.out HN.out
      have HBF : Hid (Below w6.heap.size w6 ((w7.setCell ⟨gg', i, none⟩ (.int .i64 n)).setCell ⟨gg', i + 1, none⟩ (.int .i64 m))) := (HB7.out.setCell hgb _).setCell hgb _
      have HSL : Hid ((swapAt ms i m n).length = ms.length) := swap_len hil
      clear hown hgrow hat hgg hgc hgf c0 c1 HCC
      go_upto_region 19 with fail
      generalize ((w7.setCell ⟨gg', i, none⟩ (.int .i64 n)).setCell ⟨gg', i + 1, none⟩ (.int .i64 m)) = F at *
      clear d0 d1 f0 f1 e0 e1
      have HPF : Hid (ProgIn F w1.heap.size w2.heap.size b p) := HP2.out.below (HB6.out.trans (HBF.out.mono hz6))
      have HHF : Hid (w2.heap.size ≤ F.heap.size) := Nat.le_trans hz6 HBF.out.size
      have HMF : Hid (IntsIn F (some ⟨mb, 0, none⟩) ms) := IntsIn.below (ints_of_owns HOM6.out) HBF.out
      have HWF : Hid (Below w.heap.size w F) := HW6.out.trans (HBF.out.mono HW6.out.size)
      have HFM : Hid _ := HL3.out.fol
      have HNL : Hid ((swapAt ms i m n).length ≤ maxLen) := by show _ ≤ _; rw [HSL.out]; exact HSH.out
      clear HBF HB7 hlt7 hgb
      go_wp2_with fail
      have hcall := alike_same p w1.heap.size w2.heap.size b ms (swapAt ms i m n) (some ⟨mb, 0, none⟩) (some ⟨gg', 0, none⟩) mcap cap1 S es es' F HPF.out HS.out HHF.out HMF.out HIS.out HSH.out HNL.out HFM.out HF'.out
      rw [HSL.out] at hcall
      refine Calls.mono hcall ?_
      clear hcall
      rintro e w8 ⟨rfl, hb8⟩
      have HP8 : Hid (ProgIn w8 w1.heap.size w2.heap.size b p) := HPF.out.below (hb8.mono HHF.out)
      have HH8 : Hid (w2.heap.size ≤ w8.heap.size) := Nat.le_trans HHF.out hb8.size
      have HM8 : Hid (IntsIn w8 (some ⟨mb, 0, none⟩) ms) := IntsIn.below HMF.out hb8
      have HI8 : Hid (IntsIn w8 (some ⟨gg', 0, none⟩) (swapAt ms i m n)) := IntsIn.below HIS.out hb8
      have HW8 : Hid (Below w.heap.size w w8) := HWF.out.trans (hb8.mono HWF.out.size)
      clear hb8
      go_wp2_with fail
      refine (progCycle_any p w1.heap.size w2.heap.size b ms (some ⟨mb, 0, none⟩) mcap _ HP8.out HS.out HH8.out HM8.out HSH.out).mono ?_
      rintro e w9 hcs
      unfold CycleSays at hcs
      rw [HFM.out] at hcs
      obtain ⟨hb9, v, rfl, ca, ccap, rfl, -, -⟩ := hcs
      have HP9 : Hid (ProgIn w9 w1.heap.size w2.heap.size b p) := HP8.out.below (hb9.mono HH8.out)
      have HH9 : Hid (w2.heap.size ≤ w9.heap.size) := Nat.le_trans HH8.out hb9.size
      have HI9 : Hid (IntsIn w9 (some ⟨gg', 0, none⟩) (swapAt ms i m n)) := IntsIn.below HI8.out hb9
      have HW9 : Hid (Below w.heap.size w w9) := HW8.out.trans (hb9.mono HW8.out.size)
      clear hb9
      go_wp2_with fail
      have hcall := progCycle_any p w1.heap.size w2.heap.size b (swapAt ms i m n) (some ⟨gg', 0, none⟩) cap1 w9 HP9.out HS.out HH9.out HI9.out HNL.out
      rw [HSL.out] at hcall
      refine Calls.mono hcall ?_
      clear hcall
      rintro e wa hcs
      unfold CycleSays at hcs
      rw [HF'.out] at hcs
      obtain ⟨hba, v, rfl, da, dcap, rfl, -, -⟩ := hcs
      have HWA : Hid (Below w.heap.size w wa) := HW9.out.trans (hba.mono HW9.out.size)
      clear hba
      by_cases hcy : cycleOf es = []
      · rw [hcy, HCY.out.1 hcy]
        clear hcy
        go_wp2
        go_ret
        exact ⟨rfl, HWA.out⟩
      · have hn1 : (((cycleOf es).length : Int) == 0) = false := by simp; exact hcy
        have hn2 : (((cycleOf es').length : Int) == 0) = false := by simp; exact fun e => hcy (HCY.out.2 e)
        clear hcy
        go_wp2
        go_ret
        exact ⟨rfl, HWA.out⟩
    · clear HSW
      go_wp2
      go_ret
      exact ⟨rfl, HW6.out⟩

end Go.Proofs.Ytfdafcnfefbcbaa
