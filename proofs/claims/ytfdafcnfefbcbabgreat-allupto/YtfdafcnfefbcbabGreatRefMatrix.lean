/-
 The contract of the reference's Matrix.
-/
import Derived.Test.YtfdafcnfefbcbabGreatRfo
import Derived.Test.YtfdafcnfefbcbabGreatBas
import Derived.Deep.QuietTactic
import Derived.BigQuiet
namespace Go.Proofs.YtfdafcnfefbcbabGreat
open Go.RowKit
set_option linter.unusedVariables false
set_option maxRecDepth 100000
set_option maxHeartbeats 4000000

structure MxAt (es : List Ev) (w wr : World) (mb n : Nat) (R : Nat → Nat) (M : Nat → Nat → Bool) (i j : Nat) : Prop where
 mat : MatAt wr w.heap.size mb n R M n
 is : ∀ a b, a < n → b < n → (M a b = true ↔ AhTo es i j a b)
 bl : Below w.heap.size w wr

/-- Two steps of a row in memory. -/
structure EvPair (g i j : Nat) (x y : Ev) (w : World) : Prop where
 a : w.rangeAt g (i * 6) x.cells
 b : w.rangeAt g (j * 6) y.cells

theorem EvPair.below {g i j : Nat} {x y : Ev} {w w' : World} {B : Nat} (h : EvPair g i j x y w) (hb : Below B w w') (hg : g < B) : EvPair g i j x y w' := ⟨range_below h.a hb hg, range_below h.b hb hg⟩

theorem range_ev {w : World} {g i : Nat} {l : List Ev} (hc : ∀ j u, (evCells l)[j]? = some u → w.cell? ⟨g, j, none⟩ = some u) {e : Ev} (h : l[i]? = some e) : w.rangeAt g (i * 6) e.cells := fun j v hv => by
 obtain ⟨c0, c1, c2, c3, c4, c5⟩ := evCells_at l i e h
 have hj : j < 6 := by simpa [Ev.cells] using (List.getElem?_eq_some_iff.1 hv).1
 have : j = 0 ∨ j = 1 ∨ j = 2 ∨ j = 3 ∨ j = 4 ∨ j = 5 := by omega
 rcases this with rfl | rfl | rfl | rfl | rfl | rfl <;> (simp [Ev.cells] at hv; subst hv; exact hc _ _ (by assumption))

theorem refMatrix_any (es : List Ev) (a : Option Addr) (cap lo n : Nat) (w : World) (h : w.ownsRow lo 59 6 (.slice a es.length cap) es.length (evCells es)) (hl : es.length ≤ 4000) (hk : ∀ e ∈ es, EvKind e) (hg : Grp es n) :
  Calls Tryz.prog 62 #[.slice a es.length cap] w fun e w' => Below w.heap.size w w' ∧ ∃ mb R M, e = .returned (.slice (some ⟨mb, 0, none⟩) n n) ∧ MatAt w' w.heap.size mb n R M n ∧ ∀ a b, a < n → b < n → (M a b = true ↔ AhTo es es.length 0 a b) := by
 have HO : Hid (w.ownsRow lo 59 6 (.slice a es.length cap) es.length (evCells es)) := h
 have HK : Hid (∀ e ∈ es, EvKind e) := hk
 have HG : Hid (Grp es n) := hg
 have hn : n ≤ 4000 := Nat.le_trans hg.le hl
 clear h hk hg
 obtain ⟨i0, hi0, hz0, hz1, hz2⟩ := info_parts Tryz.info4
 obtain ⟨i1, hi1, hy0, hy1, hy2⟩ := info_parts Tryz.info151
 go_enter Tryz.func62, Tryz.ntmps62
 go_wp2_with fail
 refine (refCount_any es a cap lo _ HO.out hl (fun e he => by have := HG.out.in_ e he; omega)).mono ?_
 rintro e w1 ⟨rfl, hb1⟩
 rw [HG.out.cnt]
 have hs1 := hb1.size
 go_upto_region 3 with (first | (refine wpList_make_full w1 rfl _ _ _ rfl w.heap.size 151 i1 _ 1 Tryz.underlying149 hi1 hy0 hy1 .i64 .i64 _ _ n rfl rfl rfl rfl (by rw [hy2]; omega) (by unfold maxLen; omega) hs1 ?_; intro w2 hown hgrow))
 have HM0 : Hid (MatAt w2 w.heap.size w1.heap.size n (fun _ => 0) (fun _ _ => false) 0) := MatAt.made hs1 hown _ _
 have HB2 : Hid (Below w.heap.size w w2) := hb1.trans ((Below.grown (Below.refl _ _) hgrow (Nat.le_refl _) (fun _ h => by cases h)).mono hs1)
 clear hown hgrow hb1
 generalize w1.heap.size = mb at *
 go_wp2_with fail
 go_loopw [5] (fun t' wr => ∃ (k : Nat) (R : Nat → Nat) (M : Nat → Nat → Bool), k ≤ n ∧ t' = .int .i64 (k : Int) ∧ Hid (MatAt wr w.heap.size mb n R M k ∧ (∀ a b, M a b = false) ∧ Below w.heap.size w wr)) (fun t' _ => n - (intOf t').toNat)
 case atStart => exact ⟨0, _, _, Nat.zero_le _, rfl, (show Hid _ from ⟨HM0.out, fun _ _ => rfl, HB2.out⟩)⟩
 case round =>
  obtain ⟨k, R, M, hk, rfl, HH⟩ := hrel
  by_cases hlt : k < n
  ·have hlt' : (k : Int) < (n : Int) := by omega
   have hsz := HH.out.2.2.size
   go_wp2_with (first | (refine wpList_make_full wr rfl _ _ _ rfl w.heap.size 4 i0 _ 1 Tryz.underlying151 hi0 hz0 hz1 .i64 .i64 _ _ n rfl rfl rfl rfl (by rw [hz2]; omega) (by unfold maxLen; omega) hsz ?_; intro w3 hown hgrow; have HN : Hid (MatAt (w3.setCell ⟨mb, k, none⟩ (.slice (some ⟨wr.heap.size, 0, none⟩) n n)) w.heap.size mb n (fun g => if g = k then wr.heap.size else R g) (fun a b => if a = k then false else M a b) (k + 1)) := HH.out.1.more hsz hlt hown hgrow; have HB3 : Hid (Below w.heap.size w w3) := HH.out.2.2.trans ((Below.grown (Below.refl _ _) hgrow (Nat.le_refl _) (fun _ h => by cases h)).mono hsz); have hm3 := HH.out.1.below (Below.grown (Below.refl _ _) hgrow (Nat.le_refl _) (fun _ h => by cases h)); have m0 := hm3.rest k (Nat.le_refl _) hlt; have mf := hm3.mf; clear hm3 hown hgrow))
   go_roundw
   case rel => exact ⟨k + 1, _, _, by omega, by go_num, (show Hid _ from ⟨HN.out, fun a b => by show (if a = k then false else M a b) = false; split; rfl; exact HH.out.2.1 a b, HB3.out.setCell HH.out.1.lo.1 _⟩)⟩
   case measure => simp [intOf]; omega
  ·have e : k = n := by omega
   subst e
   have hlt' : ¬ (k : Int) < (k : Int) := by omega
   have HX : Hid (MxAt es w wr mb k R M 0 0) := ⟨HH.out.1, fun a b ha hb => ⟨(fun h => by rw [HH.out.2.1 a b] at h; cases h), fun ⟨i', j', x, y, h1, h2, h3, h4, _⟩ => by omega⟩, HH.out.2.2⟩
   clear HH HM0 HB2
   go_wp2_with fail
   go_loopw [6] (fun t' wr => ∃ (i : Nat) (M : Nat → Nat → Bool), i ≤ es.length ∧ t' = .int .i64 (i : Int) ∧ Hid (MxAt es w wr mb k R M i 0)) (fun t' _ => es.length - (intOf t').toNat)
   case atStart => exact ⟨0, M, Nat.zero_le _, rfl, HX⟩
   case round =>
    obtain ⟨i, M, hi, rfl, H1⟩ := hrel
    by_cases hil : i < es.length
    ·have hil' : (i : Int) < (es.length : Int) := by omega
     go_wp2_with fail
     go_loopw [7] (fun t' wr => ∃ (j : Nat) (M : Nat → Nat → Bool), i + 1 ≤ j ∧ j ≤ es.length ∧ t' = .int .i64 (j : Int) ∧ Hid (MxAt es w wr mb k R M i j)) (fun t' _ => es.length - (intOf t').toNat)
     case atStart => exact ⟨i + 1, M, Nat.le_refl _, by omega, by go_num, (show Hid _ from ⟨H1.out.mat, fun a b ha hb => (H1.out.is a b ha hb).trans (ahTo_start es i a b).symm, H1.out.bl⟩)⟩
     case round =>
      obtain ⟨j, M, hj0, hj, rfl, H2⟩ := hrel
      by_cases hjl : j < es.length
      ·have hjl' : (j : Int) < (es.length : Int) := by omega
       obtain ⟨gb, rfl, -, hg1, -, -, hcell, -⟩ := owns_cells HO.out (by omega)
       have hx : es[i]? = some es[i] := by simp [hil]
       have hy : es[j]? = some es[j] := by simp [hjl]
       have HKX : Hid (EvKind es[i]) := HK.out _ (List.getElem_mem hil)
       have HKY : Hid (EvKind es[j]) := HK.out _ (List.getElem_mem hjl)
       have HEP : Hid (EvPair gb i j es[i] es[j] wr) := ⟨range_below (range_ev hcell hx) H2.out.bl hg1, range_below (range_ev hcell hy) H2.out.bl hg1⟩
       have HGX : Hid (0 ≤ es[i].group ∧ es[i].group < (k : Int)) := HG.out.in_ _ (List.getElem_mem hil)
       have HGY : Hid (0 ≤ es[j].group ∧ es[j].group < (k : Int)) := HG.out.in_ _ (List.getElem_mem hjl)
       have HNX : Hid (∀ a b : Nat, AhTo es i (j + 1) a b ↔ AhTo es i j a b ∨ (es[i].group = (a : Int) ∧ es[j].group = (b : Int) ∧ a ≠ b ∧ hangEv es[i] es[j] = true)) := fun a b => ahTo_next hx hy (by omega) a b
       have ltg : gb < wr.heap.size := Nat.lt_of_lt_of_le hg1 H2.out.bl.size
       clear hcell hx hy
       generalize es[i] = ex at *
       generalize es[j] = ey at *
       have k0 : wr.cell? ⟨gb, i * 6 + 5, none⟩ = some (.int .i64 ex.group) := HEP.out.a 5 _ rfl
       have k1 : wr.cell? ⟨gb, j * 6 + 5, none⟩ = some (.int .i64 ey.group) := HEP.out.b 5 _ rfl
       cases hne : (ex.group != ey.group)
       ·have HSM : Hid (MxAt es w wr mb k R M i (j + 1)) := ⟨H2.out.mat, fun a b ha hb => by
           rw [H2.out.is a b ha hb, HNX.out a b]
           constructor
           · exact .inl
           · rintro (h | ⟨h1, h2, h3, -⟩)
             · exact h
             · exfalso
               simp at hne
               omega, H2.out.bl⟩
        go_upto_region 13 with fail
        go_quiet (fail)
        go_wp2
        go_roundw
        case rel => exact ⟨j + 1, M, by omega, by omega, by go_num, (show Hid _ from ⟨HSM.out.mat.below (below_drewN (Below.refl _ _) _), HSM.out.is, below_drewN HSM.out.bl _⟩)⟩
        case measure => simp [intOf]; omega
       ·clear k0 k1
        go_upto_region 13 with fail
        refine wp_region_held_drew (S := EvPair gb i j ex ey) (by kernel_rfl) ⟨HEP.out.a, HEP.out.b⟩ (fun hHeld => ?_)
        refine takeR 0 (.slice (some ⟨gb, 0, none⟩) es.length cap) rfl hHeld ?_
        refine takeR 1 (.int .i64 (i : Int)) rfl hHeld ?_
        refine takeAt 2 (.pointer (some ⟨gb, i * 6, none⟩)) rfl (.inl ⟨by rfl, fun w hw => by go_simp <;> (intro h; omega)⟩) hHeld ?_
        refine takeS 3 (.pointer (some ⟨gb, i * 6 + 5, none⟩)) rfl hHeld ?_
        refine takeAt 4 (.int .i64 ex.group) rfl (.inl ⟨by rfl, fun w hw => by have hwa := hw.a 5 _ rfl; go_simp⟩) hHeld ?_
        refine takeR 5 (.slice (some ⟨gb, 0, none⟩) es.length cap) rfl hHeld ?_
        refine takeR 6 (.int .i64 (j : Int)) rfl hHeld ?_
        refine takeAt 7 (.pointer (some ⟨gb, j * 6, none⟩)) rfl (.inl ⟨by rfl, fun w hw => by go_simp <;> (intro h; omega)⟩) hHeld ?_
        refine takeS 8 (.pointer (some ⟨gb, j * 6 + 5, none⟩)) rfl hHeld ?_
        refine takeAt 9 (.int .i64 ey.group) rfl (.inl ⟨by rfl, fun w hw => by have hwb := hw.b 5 _ rfl; go_simp⟩) hHeld ?_
        refine takeS 10 (.bool true) rfl hHeld ?_
        refine takeR 11 (.bool true) rfl hHeld ?_
        refine takeR 12 (.slice (some ⟨gb, 0, none⟩) es.length cap) rfl hHeld ?_
        refine takeR 13 (.int .i64 (i : Int)) rfl hHeld ?_
        refine takeAt 14 (.pointer (some ⟨gb, i * 6, none⟩)) rfl (.inl ⟨by rfl, fun w hw => by go_simp <;> (intro h; omega)⟩) hHeld ?_
        refine takeAt 15 (ex.val) rfl (yieldsIf_load_mid (by rfl) _ _ rfl gb (i * 6) rfl ex.cells _ (fun w hw => hw.a) Tryz.underlying59 rfl Tryz.size59) hHeld ?_
        refine takeR 16 (.slice (some ⟨gb, 0, none⟩) es.length cap) rfl hHeld ?_
        refine takeR 17 (.int .i64 (j : Int)) rfl hHeld ?_
        refine takeAt 18 (.pointer (some ⟨gb, j * 6, none⟩)) rfl (.inl ⟨by rfl, fun w hw => by go_simp <;> (intro h; omega)⟩) hHeld ?_
        refine takeAt 19 (ey.val) rfl (yieldsIf_load_mid (by rfl) _ _ rfl gb (j * 6) rfl ey.cells _ (fun w hw => hw.b) Tryz.underlying59 rfl Tryz.size59) hHeld ?_
        refine wpAnyH_callw 20 _ (by kernel_rfl) rfl (by rfl) 88 #[ex.val, ey.val] (by go_simp) _ (refHang_any ex ey HKX.out HKY.out _) ?_
        rintro e w6 ⟨rfl, hb6'⟩
        have hb6 : Below wr.heap.size wr w6 := (Below.refl _ _).drew.trans (hb6'.mono (Nat.le_refl _))
        have hS6 := hHeld.below hb6' ltg
        refine ⟨_, rfl, hS6, ?_⟩
        simp only [List.getElem_toArray, List.getElem_cons_zero, List.getElem_cons_succ, Act.put, List.setIfInBounds_toArray, List.set_cons_zero, List.set_cons_succ]
        refine takeR 21 (.bool (hangEv ex ey)) rfl hS6 ?_
        refine wpAnyH_done (by kernel_rfl) ?_ _
        have HX6 : Hid (MxAt es w w6 mb k R M i j) := ⟨H2.out.mat.below hb6, H2.out.is, H2.out.bl.trans (hb6.mono H2.out.bl.size)⟩
        have m0 := (hb6.cell (p := ⟨gb, i * 6 + 5, none⟩) ltg).trans (HEP.out.a 5 _ rfl)
        have m1 := (hb6.cell (p := ⟨gb, j * 6 + 5, none⟩) ltg).trans (HEP.out.b 5 _ rfl)
        clear hb6 hb6' hS6 HEP hHeld H2 HKX HKY
        generalize ex.val = vx
        generalize ey.val = vy
        cases hha : hangEv ex ey
        ·have HSM : Hid (MxAt es w w6 mb k R M i (j + 1)) := ⟨HX6.out.mat, fun a b ha hb => by
            rw [HX6.out.is a b ha hb, HNX.out a b]
            constructor
            · exact .inl
            · rintro (h | ⟨-, -, -, h4⟩)
              · exact h
              · exact absurd h4 (by rw [hha]; simp), HX6.out.bl⟩
         clear HNX hha m0 m1
         go_wp2
         go_roundw
         case rel => exact ⟨j + 1, M, by omega, by omega, by go_num, (show Hid _ from HSM.out)⟩
         case measure => simp [intOf]; omega
        ·have hxg := HGX.out
         have hyg := HGY.out
         generalize ex.group = xg at *
         generalize ey.group = yg at *
         obtain ⟨a, rfl⟩ : ∃ a : Nat, xg = (a : Int) := ⟨xg.toNat, by omega⟩
         obtain ⟨b, rfl⟩ : ∃ b : Nat, yg = (b : Int) := ⟨yg.toNat, by omega⟩
         have ha' : a < k := by omega
         have hb' : b < k := by omega
         have hab : a ≠ b := by rintro rfl; simp at hne
         have HSM : Hid (MxAt es w (w6.setCell ⟨R a, b, none⟩ (.bool true)).drew mb k R (fun x y => if x = a ∧ y = b then true else M x y) i (j + 1)) := ⟨(HX6.out.mat.put ha' hb' true).below (Below.refl _ _).drew, fun x y hx hy => by
           rw [HNX.out x y, ← HX6.out.is x y hx hy, hha]
           by_cases e : x = a ∧ y = b
           · obtain ⟨rfl, rfl⟩ := e
             simp [hab]
           · simp only [if_neg e]
             constructor
             · exact .inl
             · rintro (h | ⟨h1, h2, -⟩)
               · exact h
               · exact absurd ⟨by omega, by omega⟩ e, (HX6.out.bl.setCell (HX6.out.mat.lo.2 a ha') _).drew⟩
         have r0 := HX6.out.mat.row a ha'
         have r1 := HX6.out.mat.cell a b ha' hb'
         have rf := HX6.out.mat.rf a ha'
         have ha0 : (a : Int) < (k : Int) := by omega
         have hb0 : (b : Int) < (k : Int) := by omega
         clear HNX hha HGX HGY hxg hyg HX6
         go_wp2_with fail
         go_region_law (fail)
         all_goals go_wp2
         all_goals go_roundw
         all_goals try (case rel => exact ⟨j + 1, _, by omega, by omega, by go_num, HSM⟩)
         all_goals (simp [intOf]; omega)
      ·have hjl' : ¬ (j : Int) < (es.length : Int) := by omega
       have e : j = es.length := by omega
       subst e
       go_wp2
       go_roundw
       case rel => exact ⟨i + 1, M, by omega, by go_num, (show Hid _ from ⟨H2.out.mat, fun a b ha hb => (H2.out.is a b ha hb).trans (ahTo_row es i a b), H2.out.bl⟩)⟩
       case measure => simp [intOf]; omega
    ·have hil' : ¬ (i : Int) < (es.length : Int) := by omega
     have e : i = es.length := by omega
     subst e
     go_wp2
     go_ret
     exact ⟨H1.out.bl, mb, rfl, R, M, H1.out.mat, H1.out.is⟩

end Go.Proofs.YtfdafcnfefbcbabGreat
