/-
  The contracts of the reader's draft: admits, endThread, add.
-/
import Derived.Test.YtfdafcnfefbcbaaHeap
import Derived.Deep.RegionHeld3
import Derived.Deep.RegionLaw
import Derived.Deep.Light
import Derived.Deep.DrawnRows
namespace Go.Proofs.Ytfdafcnfefbcbaa
open Go.RowKit
set_option linter.unusedVariables false
attribute [local go_sem ↓] Go.wp_at_zero Go.wp_at_succ

theorem admits_any (D : Pl.Draft) (k sb lo hi : Nat) (w : World) (hd : DraftAt w sb lo hi D) (hl : D.threads.length ≤ 100) :
    Calls Try.prog 73 #[.pointer (some ⟨sb, 0, none⟩), .int .u8 (k : Int)] w fun e w' => e = .returned (.bool (Pl.admits D k)) ∧ w' = w := by
  obtain ⟨_, ⟨v, h0, hr⟩, _, _, h3, _⟩ := hd
  obtain ⟨vs, ⟨ho, _⟩, _⟩ := hr
  obtain ⟨a, cap, hv⟩ := owns_form ho
  subst hv
  clear ho
  go_enter Try.func73, Try.ntmps73
  go_wp2_with (go_at_call 74; refine (takesName_any _ _).mono ?_; rintro e w' ⟨rfl, rfl⟩)
  all_goals go_ret
  all_goals refine ⟨ret_bool ?_, rfl⟩
  all_goals (simp only [beq_iff_eq, beq_eq_false_iff_ne] at *)
  all_goals unfold Pl.admits
  all_goals rw [Bool.eq_iff_iff]
  all_goals (simp [show ∀ m : Nat, (k == m) = decide ((k : Int) = m) by intro m; rw [Bool.eq_iff_iff]; simp; omega, *])
  all_goals omega

set_option maxRecDepth 100000 in
set_option maxHeartbeats 1600000 in
theorem endThread_any (D : Pl.Draft) (sb lo hi : Nat) (w : World) (hd : DraftAt w sb lo hi D) (hl : D.threads.length ≤ 100) :
    Calls Try.prog 77 #[.pointer (some ⟨sb, 0, none⟩)] w fun e w' => e = .returned (.tuple #[]) ∧ DraftAt w' sb lo w'.heap.size (Pl.endThread D) ∧ Below sb w w' := by
  obtain ⟨⟨o1, o2, o3⟩, ⟨v, h0, hr⟩, ⟨u, h1, hu⟩, h2, h3, hf⟩ := hd
  obtain ⟨vs, ho, hrows⟩ := hr
  obtain ⟨i0, hi0, hz0, hz1, hz2⟩ := info_parts Try.info134
  obtain ⟨a, cap, hv⟩ := owns_form ho.1
  obtain ⟨b, cap', hu'⟩ := owns_form hu
  have hne : v.ownBlock ≠ some sb := fun e => by have := (ho.1.lt sb e).1; omega
  have HR : Hid (∀ (i : Nat) r, D.threads[i]? = some r → ∃ u, vs[i]? = some u ∧ OwnsIn w lo hi 141 3 u r.length (rowCells r)) := hrows
  clear hrows
  have f0 := hf 0
  have f1 := hf 1
  have f2 := hf 2
  have ha0 := fun o => alloc_cell h0 o
  subst hv
  subst hu'
  go_enter Try.func77, Try.ntmps77
  go_wp2_with fail
  go_region_law
    ((refine step_append_lies _ (by rfl) _ _ _ (by rfl) lo 134 i0 _ 1 24 Try.underlying99 hi0 hz0 hz1 hz2 rfl (by omega) (.slice a D.threads.length cap) D.threads.length vs (by rfl) ((ho.1.alloc _).drew)
        ⟨w.heap.size, 0, none⟩ 1 1 [.slice b D.ops.length cap'] (by rfl) (by rfl) (World.news_of_block (cs := #[.slice b D.ops.length cap']) (t := 134) (fr := (0, 0)) (heap_alloc_new w _)) (by simp [Value.oneCell'])
        (by omega) (by unfold maxLen; omega) (by omega) (by simp; omega) (w.heap.size + 1) (by simp) ?_; intro gg cap1 w1 hown1 hgrow hat hlt
      have k0 := grow_cell hgrow h0 hne
      have k1 := grow_cell hgrow h1 hne
      have k2 := grow_cell hgrow h2 hne
      have k3 := grow_cell hgrow h3 hne
      have e0 := grow_frozen hgrow (Nat.lt_of_lt_of_le (Nat.lt_of_lt_of_le o1 o2) o3) f0 hne
      have e1 := grow_frozen hgrow (Nat.lt_of_lt_of_le (Nat.lt_of_lt_of_le o1 o2) o3) f1 hne
      have e2 := grow_frozen hgrow (Nat.lt_of_lt_of_le (Nat.lt_of_lt_of_le o1 o2) o3) f2 hne))
  all_goals go_wp2
  all_goals go_end0
  all_goals
    have hbl : Below lo w w1 := grow_below hgrow (Nat.le_trans o2 o3) (fun k e => (ho.1.lt k e).1)
    have off : Off sb w1 (((w1.setCell ⟨sb, 0, none⟩ (.slice (some ⟨gg, 0, none⟩) (D.threads.length + 1) cap1)).setCell ⟨sb, 1, none⟩ (.slice none 0 0)).setCell ⟨sb, 2, none⟩ (.int .i64 0)) := (((Off.refl _ _).setCell _ _).setCell _ _).setCell _ _
    refine ⟨rfl, draft_end o1 o2 (Nat.le_trans o3 hbl.size) (rows_append ho HR.out hu o2 o3 hbl.size hown1 fun k hk hn => ?_) hbl off ?_ ?_ ?_ ?_ hf, off.below (hbl.mono (Nat.le_of_lt o1)) (Nat.le_refl _)⟩
    · rw [hgrow.block k (by simp; omega) (Ne.symm hn)]; exact Below.heap_alloc w _ k hk
    · go_light; simp [World.cell?_setCell_other, k0, World.cell?_setCell_same']
    · go_light; simp [World.cell?_setCell_other, k1, World.cell?_setCell_same']
    · go_light; simp [World.cell?_setCell_other, k2, World.cell?_setCell_same']
    · go_light; simp [World.cell?_setCell_other, k3]

end Go.Proofs.Ytfdafcnfefbcbaa
