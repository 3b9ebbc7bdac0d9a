/-
  The contract of the reader's 'add'.
-/
import Derived.Test.YtfdafcnfefbcbaaDraft
namespace Go.Proofs.Ytfdafcnfefbcbaa
open Go.RowKit
set_option linter.unusedVariables false
attribute [local go_sem ↓] Go.wp_at_zero Go.wp_at_succ

theorem add_nl (D : Pl.Draft) (n sb lo hi : Nat) (w : World) (hd : DraftAt w sb lo hi D) (hl : D.threads.length ≤ 100) :
    Calls Try.prog 76 #[.pointer (some ⟨sb, 0, none⟩), .int .u8 ((10 : Nat) : Int), .int .u8 (n : Int)] w fun e w' => e = .returned (.tuple #[]) ∧ DraftAt w' sb lo w'.heap.size (Pl.endThread D) ∧ Below sb w w' := by
  go_enter Try.func76, Try.ntmps76
  go_wp2_with (go_at_call 77; refine (endThread_any D sb lo hi _ hd hl).mono ?_; rintro e w' ⟨rfl, h1, h2⟩)
  go_end0
  exact ⟨rfl, h1, h2⟩

set_option maxRecDepth 100000 in
set_option maxHeartbeats 1600000 in
theorem add_other (D : Pl.Draft) (k n sb lo hi : Nat) (w : World) (hd : DraftAt w sb lo hi D) (hl : D.ops.length ≤ 100)
    (n10 : ((k : Int) == 10) = false) (n91 : ((k : Int) == 91) = false) (n93 : ((k : Int) == 93) = false) :
    Calls Try.prog 76 #[.pointer (some ⟨sb, 0, none⟩), .int .u8 (k : Int), .int .u8 (n : Int)] w fun e w' => e = .returned (.tuple #[]) ∧
      DraftAt w' sb lo hi { threads := D.threads, ops := D.ops ++ [⟨k, n, D.block⟩], blocks := D.blocks, block := D.block } ∧ Below sb w w' := by
  obtain ⟨⟨o1, o2, o3⟩, ⟨v, h0, hr⟩, ⟨u, h1, hu⟩, h2, h3, hf⟩ := hd
  obtain ⟨i0, hi0, hz0, hz1, hz2⟩ := info_parts Try.info141
  obtain ⟨b, cap', hu'⟩ := owns_form hu
  have hne : u.ownBlock ≠ some sb := fun e => by have := (hu.lt sb e).1; omega
  have HR : Hid (RowsIn w lo hi v D.threads) := hr
  clear hr
  have f0 := hf 0
  have f1 := hf 1
  have f3 := hf 3
  have hsb : sb < w.heap.size := by omega
  subst hu'
  have ha1 := fun o => alloc_cell h1 o
  have ha3 := fun o => alloc_cell h3 o
  go_enter Try.func76, Try.ntmps76
  go_wp2_with fail
  go_region_law
    ((refine step_append_lies _ (by rfl) _ _ _ (by rfl) hi 141 i0 _ 3 16 Try.underlying134 hi0 hz0 hz1 hz2 rfl (by omega) (.slice b D.ops.length cap') D.ops.length (rowCells D.ops) (by rfl) ((hu.alloc _).drew)
        ⟨w.heap.size, 0, none⟩ 1 1 [.int .u8 (k : Int), .int .u8 (n : Int), .int .i64 D.block] (by rfl) (by rfl) (World.news_of_block (cs := #[.int .u8 (k : Int), .int .u8 (n : Int), .int .i64 D.block]) (t := 141) (fr := (0, 0)) (heap_alloc_new w _)) (by simp [Value.oneCell'])
        (by omega) (by unfold maxLen; omega) (by omega) (by simp; omega) (w.heap.size + 1) (by simp) ?_; intro gg cap1 w1 hown1 hgrow hat hlt
      have k0 := grow_cell hgrow h0 hne
      have k1 := grow_cell hgrow h1 hne
      have k2 := grow_cell hgrow h2 hne
      have k3 := grow_cell hgrow h3 hne
      have e1 := grow_frozen hgrow hsb f1 hne))
  all_goals go_wp2
  all_goals go_end0
  all_goals
    have hbl : Below hi w w1 := grow_below hgrow o3 (fun k e => (hu.lt k e).1)
    have off : Off sb w1 (w1.setCell ⟨sb, 1, none⟩ (.slice (some ⟨gg, 0, none⟩) (D.ops.length + 1) cap1)) := (Off.refl _ _).setCell _ _
    refine ⟨rfl, draft_row (u := .slice (some ⟨gg, 0, none⟩) (D.ops.length + 1) cap1) o1 o2 o3 HR.out hbl off ?_ ?_ ?_ ?_ ?_ hf, off.below (hbl.mono (by omega)) (Nat.le_refl _)⟩
    · go_light; simp [World.cell?_setCell_other, k0]
    · go_light; exact World.cell?_setCell_same _ _ _ k1
    · go_light; rw [rowCells_append]; simpa [rowCells, opCells] using hown1
    · go_light; simp [World.cell?_setCell_other, k2]
    · go_light; simp [World.cell?_setCell_other, k3]

set_option maxRecDepth 100000 in
set_option maxHeartbeats 1600000 in
theorem add_close (D : Pl.Draft) (n sb lo hi : Nat) (w : World) (hd : DraftAt w sb lo hi D) (hl : D.ops.length ≤ 100) :
    Calls Try.prog 76 #[.pointer (some ⟨sb, 0, none⟩), .int .u8 ((93 : Nat) : Int), .int .u8 (n : Int)] w fun e w' => e = .returned (.tuple #[]) ∧
      DraftAt w' sb lo hi { threads := D.threads, ops := D.ops ++ [⟨93, 0, D.block⟩], blocks := D.blocks, block := -1 } ∧ Below sb w w' := by
  obtain ⟨⟨o1, o2, o3⟩, ⟨v, h0, hr⟩, ⟨u, h1, hu⟩, h2, h3, hf⟩ := hd
  obtain ⟨i0, hi0, hz0, hz1, hz2⟩ := info_parts Try.info141
  obtain ⟨b, cap', hu'⟩ := owns_form hu
  have hne : u.ownBlock ≠ some sb := fun e => by have := (hu.lt sb e).1; omega
  have HR : Hid (RowsIn w lo hi v D.threads) := hr
  clear hr
  have f0 := hf 0
  have f1 := hf 1
  have f3 := hf 3
  have hsb : sb < w.heap.size := by omega
  subst hu'
  have ha1 := fun o => alloc_cell h1 o
  have ha3 := fun o => alloc_cell h3 o
  go_enter Try.func76, Try.ntmps76
  go_wp2_with fail
  go_region_law
    ((refine step_append_lies _ (by rfl) _ _ _ (by rfl) hi 141 i0 _ 3 16 Try.underlying134 hi0 hz0 hz1 hz2 rfl (by omega) (.slice b D.ops.length cap') D.ops.length (rowCells D.ops) (by rfl) ((hu.alloc _).drew)
        ⟨w.heap.size, 0, none⟩ 1 1 [.int .u8 93, .int .u8 0, .int .i64 D.block] (by rfl) (by rfl) (World.news_of_block (cs := #[.int .u8 93, .int .u8 0, .int .i64 D.block]) (t := 141) (fr := (0, 0)) (heap_alloc_new w _)) (by simp [Value.oneCell'])
        (by omega) (by unfold maxLen; omega) (by omega) (by simp; omega) (w.heap.size + 1) (by simp) ?_; intro gg cap1 w1 hown1 hgrow hat hlt
      have k0 := grow_cell hgrow h0 hne
      have k1 := grow_cell hgrow h1 hne
      have k2 := grow_cell hgrow h2 hne
      have k3 := grow_cell hgrow h3 hne
      have e1 := grow_frozen hgrow hsb f1 hne
      have e3 := grow_frozen hgrow hsb f3 hne))
  all_goals go_wp2
  all_goals go_end0
  all_goals
    have hbl : Below hi w w1 := grow_below hgrow o3 (fun k e => (hu.lt k e).1)
    have off : Off sb w1 ((w1.setCell ⟨sb, 1, none⟩ (.slice (some ⟨gg, 0, none⟩) (D.ops.length + 1) cap1)).setCell ⟨sb, 3, none⟩ (.int .i64 (-1))) := ((Off.refl _ _).setCell _ _).setCell _ _
    refine ⟨rfl, draft_row (u := .slice (some ⟨gg, 0, none⟩) (D.ops.length + 1) cap1) o1 o2 o3 HR.out hbl off ?_ ?_ ?_ ?_ ?_ hf, off.below (hbl.mono (by omega)) (Nat.le_refl _)⟩
    · go_light; simp [World.cell?_setCell_other, k0]
    · go_light; simp [World.cell?_setCell_other, k1, World.cell?_setCell_same']
    · go_light; rw [rowCells_append]; simpa [rowCells, opCells] using hown1
    · go_light; simp [World.cell?_setCell_other, k2]
    · go_light; simp [World.cell?_setCell_other, k3, World.cell?_setCell_same']

set_option maxRecDepth 100000 in
set_option maxHeartbeats 1600000 in
theorem add_open (D : Pl.Draft) (n sb lo hi : Nat) (w : World) (hd : DraftAt w sb lo hi D) (hl : D.ops.length ≤ 100) (hbk : D.blocks ≤ 1000) :
    Calls Try.prog 76 #[.pointer (some ⟨sb, 0, none⟩), .int .u8 ((91 : Nat) : Int), .int .u8 (n : Int)] w fun e w' => e = .returned (.tuple #[]) ∧
      DraftAt w' sb lo hi { threads := D.threads, ops := D.ops ++ [⟨91, 0, D.blocks⟩], blocks := D.blocks + 1, block := D.blocks } ∧ Below sb w w' := by
  obtain ⟨⟨o1, o2, o3⟩, ⟨v, h0, hr⟩, ⟨u, h1, hu⟩, h2, h3, hf⟩ := hd
  obtain ⟨i0, hi0, hz0, hz1, hz2⟩ := info_parts Try.info141
  obtain ⟨b, cap', hu'⟩ := owns_form hu
  have hne : u.ownBlock ≠ some sb := fun e => by have := (hu.lt sb e).1; omega
  have f0 := hf 0
  have f1 := hf 1
  have f2 := hf 2
  have f3 := hf 3
  have hsb : sb < w.heap.size := by omega
  subst hu'
  have offa : Off sb w ((w.setCell ⟨sb, 3, none⟩ (.int .i64 (D.blocks : Int))).setCell ⟨sb, 2, none⟩ (.int .i64 ((D.blocks : Int) + 1))) := ((Off.refl _ _).setCell _ _).setCell _ _
  have HR : Hid (RowsIn ((w.setCell ⟨sb, 3, none⟩ (.int .i64 (D.blocks : Int))).setCell ⟨sb, 2, none⟩ (.int .i64 ((D.blocks : Int) + 1))) lo hi v D.threads) := (hr.setCell (a := ⟨sb, 3, none⟩) o1 _).setCell (a := ⟨sb, 2, none⟩) o1 _
  clear hr
  have hux := ownsRow_setCell_below (ownsRow_setCell_below hu (a := ⟨sb, 3, none⟩) (Nat.lt_of_lt_of_le o1 o2) (.int .i64 (D.blocks : Int))) (a := ⟨sb, 2, none⟩) (Nat.lt_of_lt_of_le o1 o2) (.int .i64 ((D.blocks : Int) + 1))
  have OFA : Hid _ := offa
  clear offa
  go_enter Try.func76, Try.ntmps76
  go_wp2_with fail
  generalize hWe : (w.setCell ⟨sb, 3, none⟩ (.int .i64 (D.blocks : Int))).setCell ⟨sb, 2, none⟩ (.int .i64 ((D.blocks : Int) + 1)) = W at *
  have g0 : W.cell? ⟨sb, 0, none⟩ = some v := by rw [← hWe]; simp [World.cell?_setCell_other, h0]
  have g1 : W.cell? ⟨sb, 1, none⟩ = some (.slice b D.ops.length cap') := by rw [← hWe]; simp [World.cell?_setCell_other, h1]
  have g2 : W.cell? ⟨sb, 2, none⟩ = some (.int .i64 ((D.blocks : Int) + 1)) := by rw [← hWe]; simp [World.cell?_setCell_other, World.cell?_setCell_same', h2]
  have g3 : W.cell? ⟨sb, 3, none⟩ = some (.int .i64 (D.blocks : Int)) := by rw [← hWe]; simp [World.cell?_setCell_other, World.cell?_setCell_same', h3]
  have off := OFA.out
  have oz := off.size
  have OFA2 : Hid (Off sb w W) := off
  have HZ : Hid (W.heap.size = w.heap.size) := oz
  have hfw : ∀ o, W.frozen? ⟨sb, o, none⟩ = false := fun o => by rw [off.frozen o]; exact hf o
  have o3' : hi ≤ W.heap.size := by omega
  have hsb' : sb < W.heap.size := by omega
  clear off oz OFA hWe h0 h1 h2 h3 f0 f1 f2 f3 hf hu
  have f1 := hfw 1
  have ha1 := fun o => alloc_cell g1 o
  have ha3 := fun o => alloc_cell g3 o
  go_region_law
    ((refine step_append_lies _ (by rfl) _ _ _ (by rfl) hi 141 i0 _ 3 16 Try.underlying134 hi0 hz0 hz1 hz2 rfl (by omega) (.slice b D.ops.length cap') D.ops.length (rowCells D.ops) (by rfl) ((hux.alloc _).drew)
        ⟨W.heap.size, 0, none⟩ 1 1 [.int .u8 91, .int .u8 0, .int .i64 (D.blocks : Int)] (by rfl) (by rfl) (World.news_of_block (cs := #[.int .u8 91, .int .u8 0, .int .i64 (D.blocks : Int)]) (t := 141) (fr := (0, 0)) (heap_alloc_new W _)) (by simp [Value.oneCell'])
        (by omega) (by unfold maxLen; omega) (by omega) (by simp; omega) (W.heap.size + 1) (by simp) ?_; intro gg cap1 w1 hown1 hgrow hat hlt
      have k0 := grow_cell hgrow g0 hne
      have k1 := grow_cell hgrow g1 hne
      have k2 := grow_cell hgrow g2 hne
      have k3 := grow_cell hgrow g3 hne
      have e1 := grow_frozen hgrow hsb' f1 hne))
  all_goals go_wp2
  all_goals go_end0
  all_goals
    have hbl : Below hi W w1 := grow_below hgrow o3' (fun k e => (hux.lt k e).1)
    have off : Off sb w1 (w1.setCell ⟨sb, 1, none⟩ (.slice (some ⟨gg, 0, none⟩) (D.ops.length + 1) cap1)) := (Off.refl _ _).setCell _ _
    refine ⟨rfl, draft_row (u := .slice (some ⟨gg, 0, none⟩) (D.ops.length + 1) cap1) o1 o2 o3' HR.out hbl off ?_ ?_ ?_ ?_ ?_ hfw, off.below (((OFA2.out).below (Below.refl _ _) (Nat.le_refl _)).trans (hbl.mono (by omega))) (Nat.le_refl _)⟩
    · go_light; simp [World.cell?_setCell_other, k0]
    · go_light; exact World.cell?_setCell_same _ _ _ k1
    · go_light; rw [rowCells_append]; simpa [rowCells, opCells] using hown1
    · go_light; simp [World.cell?_setCell_other, k2]
    · go_light; simp [World.cell?_setCell_other, k3]

theorem add_any (D : Pl.Draft) (k n sb lo hi : Nat) (w : World) (hd : DraftAt w sb lo hi D) (ht : D.threads.length ≤ 100) (hl : D.ops.length ≤ 100) (hbk : D.blocks ≤ 1000) :
    Calls Try.prog 76 #[.pointer (some ⟨sb, 0, none⟩), .int .u8 (k : Int), .int .u8 (n : Int)] w fun e w' => e = .returned (.tuple #[]) ∧
      (∃ hi', DraftAt w' sb lo hi' (Pl.add D k n)) ∧ Below sb w w' := by
  by_cases h10 : k = 10
  · subst h10
    exact (add_nl D n sb lo hi w hd ht).mono fun e w' ⟨h1, h2, h3⟩ => ⟨h1, ⟨_, h2⟩, h3⟩
  · by_cases h91 : k = 91
    · subst h91
      exact (add_open D n sb lo hi w hd hl hbk).mono fun e w' ⟨h1, h2, h3⟩ => ⟨h1, ⟨_, h2⟩, h3⟩
    · by_cases h93 : k = 93
      · subst h93
        exact (add_close D n sb lo hi w hd hl).mono fun e w' ⟨h1, h2, h3⟩ => ⟨h1, ⟨_, h2⟩, h3⟩
      · refine (add_other D k n sb lo hi w hd hl (by simp; omega) (by simp; omega) (by simp; omega)).mono fun e w' ⟨h1, h2, h3⟩ => ⟨h1, ⟨hi, ?_⟩, h3⟩
        have e : Pl.add D k n = { threads := D.threads, ops := D.ops ++ [⟨k, n, D.block⟩], blocks := D.blocks, block := D.block } := by simp [Pl.add, h10, h91, h93]
        rw [e]; exact h2

end Go.Proofs.Ytfdafcnfefbcbaa
