/-
 Several texts of ours in one: Draft, Add, Read, Count.
-/
import Derived.Test.YtfdafcnfefbcbabGreatBas
import Derived.Deep.RegionHeld3
import Derived.Deep.RegionLaw
import Derived.Deep.Light
import Derived.Deep.DrawnRows
/-
 The contracts of the reader's draft: admits, endThread, add.
-/
namespace Go.Proofs.YtfdafcnfefbcbabGreat
open Go.RowKit
set_option linter.unusedVariables false
set_option maxRecDepth 100000
set_option maxHeartbeats 4000000
attribute [local go_sem ↓] Go.wp_at_zero Go.wp_at_succ

theorem admits_any (D : Pl.Draft) (k sb lo hi : Nat) (w : World) (hd : DraftAt w sb lo hi D) (hl : D.threads.length ≤ 100) :
  Calls Tryz.prog 69 #[.pointer (some ⟨sb, 0, none⟩), .int .u8 (k : Int)] w fun e w' => e = .returned (.bool (Pl.admits D k)) ∧ w' = w := by
 obtain ⟨_, ⟨v, h0, hr⟩, _, _, h3, _⟩ := hd
 obtain ⟨vs, ⟨ho, _⟩, _⟩ := hr
 obtain ⟨a, cap, hv⟩ := owns_form ho
 subst hv
 clear ho
 go_enter Tryz.func69, Tryz.ntmps69
 go_wp2_with (go_at_call 70; refine (takesName_any _ _).mono ?_; rintro e w' ⟨rfl, rfl⟩)
 all_goals go_ret
 all_goals refine ⟨ret_bool ?_, rfl⟩
 all_goals (simp only [beq_iff_eq, beq_eq_false_iff_ne] at *)
 all_goals unfold Pl.admits
 all_goals rw [Bool.eq_iff_iff]
 all_goals (simp [show ∀ m : Nat, (k == m) = decide ((k : Int) = m) by intro m; rw [Bool.eq_iff_iff]; simp; omega, *])
 all_goals omega

theorem endThread_any (D : Pl.Draft) (sb lo hi : Nat) (w : World) (hd : DraftAt w sb lo hi D) (hl : D.threads.length ≤ 100) :
  Calls Tryz.prog 73 #[.pointer (some ⟨sb, 0, none⟩)] w fun e w' => e = .returned (.tuple #[]) ∧ DraftAt w' sb lo w'.heap.size (Pl.endThread D) ∧ Below sb w w' := by
 obtain ⟨⟨o1, o2, o3⟩, ⟨v, h0, hr⟩, ⟨u, h1, hu⟩, h2, h3, hf⟩ := hd
 obtain ⟨vs, ho, hrows⟩ := hr
 obtain ⟨i0, hi0, hz0, hz1, hz2⟩ := info_parts Tryz.info158
 obtain ⟨a, cap, hv⟩ := owns_form ho.1
 obtain ⟨b, cap', hu'⟩ := owns_form hu
 have hne : v.ownBlock ≠ some sb := fun e => by have := (ho.1.lt sb e).1; omega
 have HR : Hid (∀ (i : Nat) r, D.threads[i]? = some r → ∃ u, vs[i]? = some u ∧ OwnsIn w lo hi 165 3 u r.length (rowCells r)) := hrows
 clear hrows
 have f0 := hf 0
 have f1 := hf 1
 have f2 := hf 2
 have ha0 := fun o => alloc_cell h0 o
 subst hv
 subst hu'
 go_enter Tryz.func73, Tryz.ntmps73
 go_wp2_with fail
 go_region_law
  ((refine step_append_lies _ (by rfl) _ _ _ (by rfl) lo 158 i0 _ 1 24 Tryz.underlying69 hi0 hz0 hz1 hz2 rfl (by omega) (.slice a D.threads.length cap) D.threads.length vs (by rfl) ((ho.1.alloc _).drew)
      ⟨w.heap.size, 0, none⟩ 1 1 [.slice b D.ops.length cap'] (by rfl) (by rfl) (World.news_of_block (cs := #[.slice b D.ops.length cap']) (t := 158) (fr := (0, 0)) (heap_alloc_new w _)) (by simp [Value.oneCell'])
      (by omega) (by unfold maxLen; omega) (by omega) (by simp; omega) (w.heap.size + 1) (by simp) ?_; intro gg cap1 w1 hown1 hgrow hat hlt
    have k0 := grow_cell hgrow h0 hne
    have k1 := grow_cell hgrow h1 hne
    have k2 := grow_cell hgrow h2 hne
    have k3 := grow_cell hgrow h3 hne
    have e0 := grow_frozen hgrow (Nat.lt_of_lt_of_le (Nat.lt_of_lt_of_le o1 o2) o3) f0 hne
    have e1 := grow_frozen hgrow (Nat.lt_of_lt_of_le (Nat.lt_of_lt_of_le o1 o2) o3) f1 hne
    have e2 := grow_frozen hgrow (Nat.lt_of_lt_of_le (Nat.lt_of_lt_of_le o1 o2) o3) f2 hne))
 all_goals go_wp2
 all_goals go_end0
 all_goals
  have hbl : Below lo w w1 := grow_below hgrow (Nat.le_trans o2 o3) (fun k e => (ho.1.lt k e).1)
  have off : Off sb w1 (((w1.setCell ⟨sb, 0, none⟩ (.slice (some ⟨gg, 0, none⟩) (D.threads.length + 1) cap1)).setCell ⟨sb, 1, none⟩ (.slice none 0 0)).setCell ⟨sb, 2, none⟩ (.int .i64 0)) := (((Off.refl _ _).setCell _ _).setCell _ _).setCell _ _
  refine ⟨rfl, draft_end o1 o2 (Nat.le_trans o3 hbl.size) (rows_append ho HR.out hu o2 o3 hbl.size hown1 fun k hk hn => ?_) hbl off ?_ ?_ ?_ ?_ hf, off.below (hbl.mono (Nat.le_of_lt o1)) (Nat.le_refl _)⟩
  ·rw [hgrow.block k (by simp; omega) (Ne.symm hn)]; exact Below.heap_alloc w _ k hk
  ·go_light; simp [World.cell?_setCell_other, k0, World.cell?_setCell_same']
  ·go_light; simp [World.cell?_setCell_other, k1, World.cell?_setCell_same']
  ·go_light; simp [World.cell?_setCell_other, k2, World.cell?_setCell_same']
  ·go_light; simp [World.cell?_setCell_other, k3]

attribute [local go_sem ↓] Go.wp_at_zero Go.wp_at_succ

theorem add_nl (D : Pl.Draft) (n sb lo hi : Nat) (w : World) (hd : DraftAt w sb lo hi D) (hl : D.threads.length ≤ 100) :
  Calls Tryz.prog 72 #[.pointer (some ⟨sb, 0, none⟩), .int .u8 ((10 : Nat) : Int), .int .u8 (n : Int)] w fun e w' => e = .returned (.tuple #[]) ∧ DraftAt w' sb lo w'.heap.size (Pl.endThread D) ∧ Below sb w w' := by
 go_enter Tryz.func72, Tryz.ntmps72
 go_wp2_with (go_at_call 73; refine (endThread_any D sb lo hi _ hd hl).mono ?_; rintro e w' ⟨rfl, h1, h2⟩)
 go_end0
 exact ⟨rfl, h1, h2⟩

theorem add_other (D : Pl.Draft) (k n sb lo hi : Nat) (w : World) (hd : DraftAt w sb lo hi D) (hl : D.ops.length ≤ 100)
  (n10 : ((k : Int) == 10) = false) (n91 : ((k : Int) == 91) = false) (n93 : ((k : Int) == 93) = false) :
  Calls Tryz.prog 72 #[.pointer (some ⟨sb, 0, none⟩), .int .u8 (k : Int), .int .u8 (n : Int)] w fun e w' => e = .returned (.tuple #[]) ∧
   DraftAt w' sb lo hi { threads := D.threads, ops := D.ops ++ [⟨k, n, D.block⟩], blocks := D.blocks, block := D.block } ∧ Below sb w w' := by
 obtain ⟨⟨o1, o2, o3⟩, ⟨v, h0, hr⟩, ⟨u, h1, hu⟩, h2, h3, hf⟩ := hd
 obtain ⟨i0, hi0, hz0, hz1, hz2⟩ := info_parts Tryz.info165
 obtain ⟨b, cap', hu'⟩ := owns_form hu
 have hne : u.ownBlock ≠ some sb := fun e => by have := (hu.lt sb e).1; omega
 have HR : Hid (RowsIn w lo hi v D.threads) := hr
 clear hr
 have f0 := hf 0
 have f1 := hf 1
 have f3 := hf 3
 have hsb : sb < w.heap.size := by omega
 subst hu'
 have ha1 := fun o => alloc_cell h1 o
 have ha3 := fun o => alloc_cell h3 o
 go_enter Tryz.func72, Tryz.ntmps72
 go_wp2_with fail
 go_region_law
  ((refine step_append_lies _ (by rfl) _ _ _ (by rfl) hi 165 i0 _ 3 16 Tryz.underlying158 hi0 hz0 hz1 hz2 rfl (by omega) (.slice b D.ops.length cap') D.ops.length (rowCells D.ops) (by rfl) ((hu.alloc _).drew)
      ⟨w.heap.size, 0, none⟩ 1 1 [.int .u8 (k : Int), .int .u8 (n : Int), .int .i64 D.block] (by rfl) (by rfl) (World.news_of_block (cs := #[.int .u8 (k : Int), .int .u8 (n : Int), .int .i64 D.block]) (t := 165) (fr := (0, 0)) (heap_alloc_new w _)) (by simp [Value.oneCell'])
      (by omega) (by unfold maxLen; omega) (by omega) (by simp; omega) (w.heap.size + 1) (by simp) ?_; intro gg cap1 w1 hown1 hgrow hat hlt
    have k0 := grow_cell hgrow h0 hne
    have k1 := grow_cell hgrow h1 hne
    have k2 := grow_cell hgrow h2 hne
    have k3 := grow_cell hgrow h3 hne
    have e1 := grow_frozen hgrow hsb f1 hne))
 all_goals go_wp2
 all_goals go_end0
 all_goals
  have hbl : Below hi w w1 := grow_below hgrow o3 (fun k e => (hu.lt k e).1)
  have off : Off sb w1 (w1.setCell ⟨sb, 1, none⟩ (.slice (some ⟨gg, 0, none⟩) (D.ops.length + 1) cap1)) := (Off.refl _ _).setCell _ _
  refine ⟨rfl, draft_row (u := .slice (some ⟨gg, 0, none⟩) (D.ops.length + 1) cap1) o1 o2 o3 HR.out hbl off ?_ ?_ ?_ ?_ ?_ hf, off.below (hbl.mono (by omega)) (Nat.le_refl _)⟩
  ·go_light; simp [World.cell?_setCell_other, k0]
  ·go_light; exact World.cell?_setCell_same _ _ _ k1
  ·go_light; rw [rowCells_append]; simpa [rowCells, opCells] using hown1
  ·go_light; simp [World.cell?_setCell_other, k2]
  ·go_light; simp [World.cell?_setCell_other, k3]

theorem add_close (D : Pl.Draft) (n sb lo hi : Nat) (w : World) (hd : DraftAt w sb lo hi D) (hl : D.ops.length ≤ 100) :
  Calls Tryz.prog 72 #[.pointer (some ⟨sb, 0, none⟩), .int .u8 ((93 : Nat) : Int), .int .u8 (n : Int)] w fun e w' => e = .returned (.tuple #[]) ∧
   DraftAt w' sb lo hi { threads := D.threads, ops := D.ops ++ [⟨93, 0, D.block⟩], blocks := D.blocks, block := -1 } ∧ Below sb w w' := by
 obtain ⟨⟨o1, o2, o3⟩, ⟨v, h0, hr⟩, ⟨u, h1, hu⟩, h2, h3, hf⟩ := hd
 obtain ⟨i0, hi0, hz0, hz1, hz2⟩ := info_parts Tryz.info165
 obtain ⟨b, cap', hu'⟩ := owns_form hu
 have hne : u.ownBlock ≠ some sb := fun e => by have := (hu.lt sb e).1; omega
 have HR : Hid (RowsIn w lo hi v D.threads) := hr
 clear hr
 have f0 := hf 0
 have f1 := hf 1
 have f3 := hf 3
 have hsb : sb < w.heap.size := by omega
 subst hu'
 have ha1 := fun o => alloc_cell h1 o
 have ha3 := fun o => alloc_cell h3 o
 go_enter Tryz.func72, Tryz.ntmps72
 go_wp2_with fail
 go_region_law
  ((refine step_append_lies _ (by rfl) _ _ _ (by rfl) hi 165 i0 _ 3 16 Tryz.underlying158 hi0 hz0 hz1 hz2 rfl (by omega) (.slice b D.ops.length cap') D.ops.length (rowCells D.ops) (by rfl) ((hu.alloc _).drew)
      ⟨w.heap.size, 0, none⟩ 1 1 [.int .u8 93, .int .u8 0, .int .i64 D.block] (by rfl) (by rfl) (World.news_of_block (cs := #[.int .u8 93, .int .u8 0, .int .i64 D.block]) (t := 165) (fr := (0, 0)) (heap_alloc_new w _)) (by simp [Value.oneCell'])
      (by omega) (by unfold maxLen; omega) (by omega) (by simp; omega) (w.heap.size + 1) (by simp) ?_; intro gg cap1 w1 hown1 hgrow hat hlt
    have k0 := grow_cell hgrow h0 hne
    have k1 := grow_cell hgrow h1 hne
    have k2 := grow_cell hgrow h2 hne
    have k3 := grow_cell hgrow h3 hne
    have e1 := grow_frozen hgrow hsb f1 hne
    have e3 := grow_frozen hgrow hsb f3 hne))
 all_goals go_wp2
 all_goals go_end0
 all_goals
  have hbl : Below hi w w1 := grow_below hgrow o3 (fun k e => (hu.lt k e).1)
  have off : Off sb w1 ((w1.setCell ⟨sb, 1, none⟩ (.slice (some ⟨gg, 0, none⟩) (D.ops.length + 1) cap1)).setCell ⟨sb, 3, none⟩ (.int .i64 (-1))) := ((Off.refl _ _).setCell _ _).setCell _ _
  refine ⟨rfl, draft_row (u := .slice (some ⟨gg, 0, none⟩) (D.ops.length + 1) cap1) o1 o2 o3 HR.out hbl off ?_ ?_ ?_ ?_ ?_ hf, off.below (hbl.mono (by omega)) (Nat.le_refl _)⟩
  ·go_light; simp [World.cell?_setCell_other, k0]
  ·go_light; simp [World.cell?_setCell_other, k1, World.cell?_setCell_same']
  ·go_light; rw [rowCells_append]; simpa [rowCells, opCells] using hown1
  ·go_light; simp [World.cell?_setCell_other, k2]
  ·go_light; simp [World.cell?_setCell_other, k3, World.cell?_setCell_same']

theorem add_open (D : Pl.Draft) (n sb lo hi : Nat) (w : World) (hd : DraftAt w sb lo hi D) (hl : D.ops.length ≤ 100) (hbk : D.blocks ≤ 1000) :
  Calls Tryz.prog 72 #[.pointer (some ⟨sb, 0, none⟩), .int .u8 ((91 : Nat) : Int), .int .u8 (n : Int)] w fun e w' => e = .returned (.tuple #[]) ∧
   DraftAt w' sb lo hi { threads := D.threads, ops := D.ops ++ [⟨91, 0, D.blocks⟩], blocks := D.blocks + 1, block := D.blocks } ∧ Below sb w w' := by
 obtain ⟨⟨o1, o2, o3⟩, ⟨v, h0, hr⟩, ⟨u, h1, hu⟩, h2, h3, hf⟩ := hd
 obtain ⟨i0, hi0, hz0, hz1, hz2⟩ := info_parts Tryz.info165
 obtain ⟨b, cap', hu'⟩ := owns_form hu
 have hne : u.ownBlock ≠ some sb := fun e => by have := (hu.lt sb e).1; omega
 have f0 := hf 0
 have f1 := hf 1
 have f2 := hf 2
 have f3 := hf 3
 have hsb : sb < w.heap.size := by omega
 subst hu'
 have offa : Off sb w ((w.setCell ⟨sb, 3, none⟩ (.int .i64 (D.blocks : Int))).setCell ⟨sb, 2, none⟩ (.int .i64 ((D.blocks : Int) + 1))) := ((Off.refl _ _).setCell _ _).setCell _ _
 have HR : Hid (RowsIn ((w.setCell ⟨sb, 3, none⟩ (.int .i64 (D.blocks : Int))).setCell ⟨sb, 2, none⟩ (.int .i64 ((D.blocks : Int) + 1))) lo hi v D.threads) := (hr.setCell (a := ⟨sb, 3, none⟩) o1 _).setCell (a := ⟨sb, 2, none⟩) o1 _
 clear hr
 have hux := ownsRow_setCell_below (ownsRow_setCell_below hu (a := ⟨sb, 3, none⟩) (Nat.lt_of_lt_of_le o1 o2) (.int .i64 (D.blocks : Int))) (a := ⟨sb, 2, none⟩) (Nat.lt_of_lt_of_le o1 o2) (.int .i64 ((D.blocks : Int) + 1))
 have OFA : Hid _ := offa
 clear offa
 go_enter Tryz.func72, Tryz.ntmps72
 go_wp2_with fail
 generalize hWe : (w.setCell ⟨sb, 3, none⟩ (.int .i64 (D.blocks : Int))).setCell ⟨sb, 2, none⟩ (.int .i64 ((D.blocks : Int) + 1)) = W at *
 have g0 : W.cell? ⟨sb, 0, none⟩ = some v := by rw [← hWe]; simp [World.cell?_setCell_other, h0]
 have g1 : W.cell? ⟨sb, 1, none⟩ = some (.slice b D.ops.length cap') := by rw [← hWe]; simp [World.cell?_setCell_other, h1]
 have g2 : W.cell? ⟨sb, 2, none⟩ = some (.int .i64 ((D.blocks : Int) + 1)) := by rw [← hWe]; simp [World.cell?_setCell_other, World.cell?_setCell_same', h2]
 have g3 : W.cell? ⟨sb, 3, none⟩ = some (.int .i64 (D.blocks : Int)) := by rw [← hWe]; simp [World.cell?_setCell_other, World.cell?_setCell_same', h3]
 have off := OFA.out
 have oz := off.size
 have OFA2 : Hid (Off sb w W) := off
 have HZ : Hid (W.heap.size = w.heap.size) := oz
 have hfw : ∀ o, W.frozen? ⟨sb, o, none⟩ = false := fun o => by rw [off.frozen o]; exact hf o
 have o3' : hi ≤ W.heap.size := by omega
 have hsb' : sb < W.heap.size := by omega
 clear off oz OFA hWe h0 h1 h2 h3 f0 f1 f2 f3 hf hu
 have f1 := hfw 1
 have ha1 := fun o => alloc_cell g1 o
 have ha3 := fun o => alloc_cell g3 o
 go_region_law
  ((refine step_append_lies _ (by rfl) _ _ _ (by rfl) hi 165 i0 _ 3 16 Tryz.underlying158 hi0 hz0 hz1 hz2 rfl (by omega) (.slice b D.ops.length cap') D.ops.length (rowCells D.ops) (by rfl) ((hux.alloc _).drew)
      ⟨W.heap.size, 0, none⟩ 1 1 [.int .u8 91, .int .u8 0, .int .i64 (D.blocks : Int)] (by rfl) (by rfl) (World.news_of_block (cs := #[.int .u8 91, .int .u8 0, .int .i64 (D.blocks : Int)]) (t := 165) (fr := (0, 0)) (heap_alloc_new W _)) (by simp [Value.oneCell'])
      (by omega) (by unfold maxLen; omega) (by omega) (by simp; omega) (W.heap.size + 1) (by simp) ?_; intro gg cap1 w1 hown1 hgrow hat hlt
    have k0 := grow_cell hgrow g0 hne
    have k1 := grow_cell hgrow g1 hne
    have k2 := grow_cell hgrow g2 hne
    have k3 := grow_cell hgrow g3 hne
    have e1 := grow_frozen hgrow hsb' f1 hne))
 all_goals go_wp2
 all_goals go_end0
 all_goals
  have hbl : Below hi W w1 := grow_below hgrow o3' (fun k e => (hux.lt k e).1)
  have off : Off sb w1 (w1.setCell ⟨sb, 1, none⟩ (.slice (some ⟨gg, 0, none⟩) (D.ops.length + 1) cap1)) := (Off.refl _ _).setCell _ _
  refine ⟨rfl, draft_row (u := .slice (some ⟨gg, 0, none⟩) (D.ops.length + 1) cap1) o1 o2 o3' HR.out hbl off ?_ ?_ ?_ ?_ ?_ hfw, off.below (((OFA2.out).below (Below.refl _ _) (Nat.le_refl _)).trans (hbl.mono (by omega))) (Nat.le_refl _)⟩
  ·go_light; simp [World.cell?_setCell_other, k0]
  ·go_light; exact World.cell?_setCell_same _ _ _ k1
  ·go_light; rw [rowCells_append]; simpa [rowCells, opCells] using hown1
  ·go_light; simp [World.cell?_setCell_other, k2]
  ·go_light; simp [World.cell?_setCell_other, k3]

theorem add_any (D : Pl.Draft) (k n sb lo hi : Nat) (w : World) (hd : DraftAt w sb lo hi D) (ht : D.threads.length ≤ 100) (hl : D.ops.length ≤ 100) (hbk : D.blocks ≤ 1000) :
  Calls Tryz.prog 72 #[.pointer (some ⟨sb, 0, none⟩), .int .u8 (k : Int), .int .u8 (n : Int)] w fun e w' => e = .returned (.tuple #[]) ∧
   (∃ hi', DraftAt w' sb lo hi' (Pl.add D k n)) ∧ Below sb w w' := by
 by_cases h10 : k = 10
 ·subst h10
  exact (add_nl D n sb lo hi w hd ht).mono fun e w' ⟨h1, h2, h3⟩ => ⟨h1, ⟨_, h2⟩, h3⟩
 ·by_cases h91 : k = 91
  ·subst h91
   exact (add_open D n sb lo hi w hd hl hbk).mono fun e w' ⟨h1, h2, h3⟩ => ⟨h1, ⟨_, h2⟩, h3⟩
  ·by_cases h93 : k = 93
   ·subst h93
    exact (add_close D n sb lo hi w hd hl).mono fun e w' ⟨h1, h2, h3⟩ => ⟨h1, ⟨_, h2⟩, h3⟩
   ·refine (add_other D k n sb lo hi w hd hl (by simp; omega) (by simp; omega) (by simp; omega)).mono fun e w' ⟨h1, h2, h3⟩ => ⟨h1, ⟨hi, ?_⟩, h3⟩
    have e : Pl.add D k n = { threads := D.threads, ops := D.ops ++ [⟨k, n, D.block⟩], blocks := D.blocks, block := D.block } := by simp [Pl.add, h10, h91, h93]
    rw [e]; exact h2

/-- A text's bytes as numbers. -/
def bytesOf (s : ByteArray) : List Nat := s.data.toList.map (·.toNat)

theorem bytesOf_length (s : ByteArray) : (bytesOf s).length = s.size := by simp [bytesOf]
theorem bytesOf_drop (s : ByteArray) (i : Nat) (h : i < s.size) : (bytesOf s).drop i = s[i].toNat :: (bytesOf s).drop (i + 1) := by
 unfold bytesOf
 rw [List.drop_eq_getElem_cons (by simpa using h)]
 simp; rfl
theorem bytesOf_end (s : ByteArray) : (bytesOf s).drop s.size = [] := by
 rw [← bytesOf_length]; simp

/-- The bounds of a draft behind i bytes. -/
def Small (i : Nat) (D : Pl.Draft) : Prop := D.threads.length ≤ i ∧ D.ops.length ≤ i ∧ D.blocks ≤ i

theorem small_add {i : Nat} {D : Pl.Draft} (k n : Nat) (h : Small i D) : Small (i + 1) (Pl.add D k n) := by
 obtain ⟨h1, h2, h3⟩ := h
 unfold Small Pl.add Pl.endThread
 repeat' split
 all_goals (simp; omega)

theorem Small.mono {i j : Nat} {D : Pl.Draft} (h : Small i D) (hij : i ≤ j) : Small j D := ⟨Nat.le_trans h.1 hij, Nat.le_trans h.2.1 hij, Nat.le_trans h.2.2 hij⟩

theorem read_no {D : Pl.Draft} {i k : Nat} {r : List Nat} (h : Pl.admits D k = false) : Pl.read D i (k :: r) = (none, i) := by
 cases r <;> simp [Pl.read, h]
theorem read_one {D : Pl.Draft} {i k : Nat} {r : List Nat} (h : Pl.admits D k = true) (ht : Pl.takesName k = false) : Pl.read D i (k :: r) = Pl.read (Pl.add D k 0) (i + 1) r := by
 cases r <;> simp [Pl.read, h, ht]
theorem read_short {D : Pl.Draft} {i k : Nat} (h : Pl.admits D k = true) (ht : Pl.takesName k = true) : Pl.read D i [k] = (none, i + 1) := by
 simp [Pl.read, h, ht]
theorem read_bad {D : Pl.Draft} {i k n : Nat} {r : List Nat} (h : Pl.admits D k = true) (ht : Pl.takesName k = true) (hn : Pl.isName k n = false) : Pl.read D i (k :: n :: r) = (none, i + 1) := by
 simp [Pl.read, h, ht, hn]
theorem read_two {D : Pl.Draft} {i k n : Nat} {r : List Nat} (h : Pl.admits D k = true) (ht : Pl.takesName k = true) (hn : Pl.isName k n = true) : Pl.read D i (k :: n :: r) = Pl.read (Pl.add D k n) (i + 2) r := by
 simp [Pl.read, h, ht, hn]

/-- What Read answers. -/
def ReadSays (w : World) (r : Option (List (List Pl.POp)) × Nat) (e : Ending) (w' : World) : Prop :=
 Below w.heap.size w w' ∧
 match r.1 with
 | none => e = .returned (.tuple #[.agg #[.slice none 0 0], .bool false, .int .i64 (r.2 : Int)])
 | some p => ∃ a cap, e = .returned (.tuple #[.agg #[.slice a p.length cap], .bool true, .int .i64 0]) ∧ RowsIn w' w.heap.size w'.heap.size (.slice a p.length cap) p

/-- How it stands behind i bytes. -/
def Reading (s : ByteArray) (w wr : World) (i : Nat) : Prop :=
 ∃ D hi, DraftAt wr (w.heap.size + 1) (w.heap.size + 2) hi D ∧ Small i D ∧ Below w.heap.size w wr ∧ wr.cell? ⟨w.heap.size, 0, none⟩ = some (.slice none 0 0) ∧ wr.frozen? ⟨w.heap.size, 0, none⟩ = false ∧
  Pl.read Pl.draft0 0 (bytesOf s) = Pl.read D i ((bytesOf s).drop i)

theorem reading_start (s : ByteArray) (w : World) : Reading s w ((w.alloc (.cells #[.slice none 0 0] 71)).alloc (.cells #[.slice none 0 0, .slice none 0 0, .int .i64 0, .int .i64 (-1)] 160)) 0 := by
 have c : ∀ j, ((w.alloc (.cells #[.slice none 0 0] 71)).alloc (.cells #[.slice none 0 0, .slice none 0 0, .int .i64 0, .int .i64 (-1)] 160)).cell? ⟨w.heap.size + 1, j, none⟩ = (#[Value.slice none 0 0, .slice none 0 0, .int .i64 0, .int .i64 (-1)] : Array Value)[j]? := fun j =>
  cell_of_row _ (w.heap.size + 1) j _ 160 (0, 0) (by have := heap_alloc_new (w.alloc (.cells #[.slice none 0 0] 71)) (.cells #[.slice none 0 0, .slice none 0 0, .int .i64 0, .int .i64 (-1)] 160); simpa using this)
 refine ⟨Pl.draft0, w.heap.size + 2, ⟨⟨by omega, by omega, by simp⟩, ⟨_, c 0, ⟨[], ⟨World.ownsRow_nil _ _ _ _, by simp [Value.ownBlock]⟩, by simp [Pl.draft0]⟩⟩, ⟨_, c 1, World.ownsRow_nil _ _ _ _⟩, c 2, c 3, fun o => ?_⟩, ⟨by simp [Pl.draft0], by simp [Pl.draft0], by simp [Pl.draft0]⟩, ?_, ?_, ?_, by simp⟩
 ·rw [World.frozen?_alloc_at _ _ _ _ (by simp)]
 ·exact ((Below.refl _ _).alloc (Nat.le_refl _) _).alloc (by simp) _
 ·have := alloc_cell (w := w.alloc (.cells #[.slice none 0 0] 71)) (a := ⟨w.heap.size, 0, none⟩) (v := .slice none 0 0) (by rw [cell_of_row _ w.heap.size 0 _ 71 (0, 0) (heap_alloc_new w _)]; rfl)
  exact this _
 ·rw [World.frozen?_alloc_past _ _ _ (by simp), World.frozen?_alloc_at _ _ _ _ rfl]

/-- A result without a program, laid into the result's own cell. -/
theorem says_no {s : ByteArray} {w wr : World} {i : Nat} (hb : Below w.heap.size w wr) (heq : Pl.read Pl.draft0 0 (bytesOf s) = (none, i)) :
  ReadSays w (Pl.read Pl.draft0 0 (bytesOf s)) (.returned (.tuple #[.agg #[.slice none 0 0], .bool false, .int .i64 (i : Int)])) (wr.setCell ⟨w.heap.size, 0, none⟩ (.slice none 0 0)) := by
 rw [heq]
 exact ⟨hb.setCell (Nat.le_refl _) _, rfl⟩

theorem reading_next {s : ByteArray} {w wr w1 : World} {i j k n : Nat} {D : Pl.Draft} (hb : Below w.heap.size w wr) (hc : wr.cell? ⟨w.heap.size, 0, none⟩ = some (.slice none 0 0)) (hf : wr.frozen? ⟨w.heap.size, 0, none⟩ = false)
  (hsm : Small i D) (hij : i < j) (heq : Pl.read Pl.draft0 0 (bytesOf s) = Pl.read (Pl.add D k n) j ((bytesOf s).drop j))
  (hd : ∃ hi', DraftAt w1 (w.heap.size + 1) (w.heap.size + 2) hi' (Pl.add D k n)) (hw : Below (w.heap.size + 1) wr w1) : Reading s w w1 j := by
 obtain ⟨hi', hd⟩ := hd
 refine ⟨_, hi', hd, (small_add k n hsm).mono hij, hb.trans (hw.mono (by omega)), ?_, ?_, heq⟩
 ·rw [hw.cell (p := ⟨w.heap.size, 0, none⟩) (by simp)]; exact hc
 ·rw [hw.frozen (p := ⟨w.heap.size, 0, none⟩) (by simp)]; exact hf

theorem read_any (s : ByteArray) (w : World) (hs : s.size ≤ 100) :
  Calls Tryz.prog 50 #[.string s] w fun e w' => ReadSays w (Pl.read Pl.draft0 0 (bytesOf s)) e w' := by
 go_enter Tryz.func50, Tryz.ntmps50
 go_wp2
 go_loopw [6] (fun t wr => ∃ i : Nat, i ≤ s.size ∧ t = .int .i64 i ∧ Hid (Reading s w wr i)) (fun t _ => s.size - (intOf t).toNat)
 case atStart => exact ⟨0, Nat.zero_le _, rfl, reading_start s w⟩
 case round =>
  obtain ⟨i, hi, rfl, hh⟩ := hrel
  obtain ⟨D, hj, hd, hsm, hb, hc, hf, heq⟩ := hh.out
  by_cases hlt : i < s.size
  ·rw [bytesOf_drop s i hlt] at heq
   have ht3 : D.threads.length ≤ 100 := by have := hsm.1; omega
   have ho3 : D.ops.length ≤ 100 := by have := hsm.2.1; omega
   have hb3 : D.blocks ≤ 1000 := by have := hsm.2.2; omega
   by_cases ha : Pl.admits D s[i].toNat = true
   ·by_cases ht : Pl.takesName s[i].toNat = true
    ·by_cases hl2 : i + 1 < s.size
     ·have hle : ((i : Int) + 1 == (s.size : Int)) = false := by simp; omega
      rw [bytesOf_drop s (i + 1) hl2] at heq
      by_cases hn : Pl.isName s[i].toNat s[i + 1].toNat = true
      ·rw [read_two ha ht hn] at heq
       have HE : Hid _ := heq
       clear heq
       go_wp2_with (first | (go_at_call 69; refine (admits_any D _ _ _ _ _ hd ht3).mono ?_; rintro e w' ⟨rfl, rfl⟩) | (go_at_call 70; refine (takesName_any _ _).mono ?_; rintro e w' ⟨rfl, rfl⟩) | (go_at_call 71; refine (isName_any _ _ _).mono ?_; rintro e w' ⟨rfl, rfl⟩) | (go_at_call 72; refine (add_any D _ _ _ _ _ _ hd ht3 ho3 hb3).mono ?_; rintro e w1 ⟨rfl, hd1, hw1⟩))
       go_roundw
       case rel => exact ⟨i + 2, by omega, by go_num, reading_next hb hc hf hsm (by omega) HE.out hd1 hw1⟩
       case measure => simp [intOf]; omega
      ·have hn' : Pl.isName s[i].toNat s[i + 1].toNat = false := by simpa using hn
       rw [read_bad ha ht hn'] at heq
       have HE : Hid _ := heq
       clear heq hn
       go_wp2_with (first | (go_at_call 69; refine (admits_any D _ _ _ _ _ hd ht3).mono ?_; rintro e w' ⟨rfl, rfl⟩) | (go_at_call 70; refine (takesName_any _ _).mono ?_; rintro e w' ⟨rfl, rfl⟩) | (go_at_call 71; refine (isName_any _ _ _).mono ?_; rintro e w' ⟨rfl, rfl⟩) | (go_at_call 72; refine (add_any D _ _ _ _ _ _ hd ht3 ho3 hb3).mono ?_; rintro e w1 ⟨rfl, hd1, hw1⟩))
       exact bodyPost_ret (v := .tuple #[.agg #[.slice none 0 0], .bool false, .int .i64 ((i + 1 : Nat) : Int)]) (by simp [results, Tryz.results50, go_sem, hc]) rfl (says_no hb HE.out)
     ·have hle : ((i : Int) + 1 == (s.size : Int)) = true := by simp; omega
      rw [show (bytesOf s).drop (i + 1) = [] by rw [show i + 1 = s.size by omega]; exact bytesOf_end s, read_short ha ht] at heq
      have HE : Hid _ := heq
      clear heq
      go_wp2_with (first | (go_at_call 69; refine (admits_any D _ _ _ _ _ hd ht3).mono ?_; rintro e w' ⟨rfl, rfl⟩) | (go_at_call 70; refine (takesName_any _ _).mono ?_; rintro e w' ⟨rfl, rfl⟩) | (go_at_call 71; refine (isName_any _ _ _).mono ?_; rintro e w' ⟨rfl, rfl⟩) | (go_at_call 72; refine (add_any D _ _ _ _ _ _ hd ht3 ho3 hb3).mono ?_; rintro e w1 ⟨rfl, hd1, hw1⟩))
      exact bodyPost_ret (v := .tuple #[.agg #[.slice none 0 0], .bool false, .int .i64 ((i + 1 : Nat) : Int)]) (by simp [results, Tryz.results50, go_sem, hc]) rfl (says_no hb HE.out)
    ·have ht' : Pl.takesName s[i].toNat = false := by simpa using ht
     rw [read_one ha ht'] at heq
     have HE : Hid _ := heq
     clear heq ht
     go_wp2_with (first | (go_at_call 69; refine (admits_any D _ _ _ _ _ hd ht3).mono ?_; rintro e w' ⟨rfl, rfl⟩) | (go_at_call 70; refine (takesName_any _ _).mono ?_; rintro e w' ⟨rfl, rfl⟩) | (go_at_call 71; refine (isName_any _ _ _).mono ?_; rintro e w' ⟨rfl, rfl⟩) | (go_at_call 72; refine (add_any D _ _ _ _ _ _ hd ht3 ho3 hb3).mono ?_; rintro e w1 ⟨rfl, hd1, hw1⟩))
     go_roundw
     case rel => exact ⟨i + 1, by omega, by go_num, reading_next hb hc hf hsm (by omega) HE.out hd1 hw1⟩
     case measure => simp [intOf]; omega
   ·have ha' : Pl.admits D s[i].toNat = false := by simpa using ha
    rw [read_no ha'] at heq
    have HE : Hid _ := heq
    clear heq ha
    go_wp2_with (go_at_call 69; refine (admits_any D _ _ _ _ _ hd ht3).mono ?_; rintro e w' ⟨rfl, rfl⟩)
    exact bodyPost_ret (v := .tuple #[.agg #[.slice none 0 0], .bool false, .int .i64 (i : Int)]) (by simp [results, Tryz.results50, go_sem, hc]) rfl (says_no hb HE.out)
  ·have e : i = s.size := by omega
   subst e
   rw [bytesOf_end] at heq
   have ht3 : D.threads.length ≤ 100 := by have := hsm.1; omega
   have c3 := hd.at3
   by_cases hbk : D.block = -1
   ·have hbk' : (D.block == -1) = true := by simpa using hbk
    rw [hbk] at c3
    rw [Pl.read, if_pos hbk'] at heq
    have HE : Hid _ := heq
    clear heq hbk'
    have HB : Hid _ := hbk
    clear hbk
    go_wp2_with fail
    refine (endThread_any D _ _ _ _ hd ht3).mono ?_
    rintro e w1 ⟨rfl, hd1, hw1⟩
    obtain ⟨v, g0, hr⟩ := hd1.at0
    obtain ⟨a, cap, hv⟩ := owns_form (hr.choose_spec.1.1)
    subst hv
    have hc1 := (hw1.cell (p := ⟨w.heap.size, 0, none⟩) (by simp)).trans hc
    have hf1 := (hw1.frozen (p := ⟨w.heap.size, 0, none⟩) (by simp)).trans hf
    have HR : Hid (RowsIn w1 (w.heap.size + 2) w1.heap.size (.slice a (Pl.endThread D).threads.length cap) (Pl.endThread D).threads) := hr
    clear hr hd1
    go_wp2
    have hb1 := hb.trans (hw1.mono (Nat.le_succ _))
    refine bodyPost_ret (v := .tuple #[.agg #[.slice a (Pl.endThread D).threads.length cap], .bool true, .int .i64 0]) (by simp [results, Tryz.results50, go_sem, hc1]) rfl ?_
    rw [HE.out]
    refine ⟨hb1.setCell (Nat.le_refl _) _, a, cap, rfl, ?_⟩
    have := (HR.out.setCell (a := ⟨w.heap.size, 0, none⟩) (by simp) (.slice a (Pl.endThread D).threads.length cap)).mono (lo' := w.heap.size) (hi' := w1.heap.size) (by omega) (Nat.le_refl _)
    show RowsIn _ _ _ (.slice a (Pl.endThread D).threads.length cap) (Pl.endThread D).threads
    rw [World.size_setCell]
    exact this
   ·have hbk' : (D.block == -1) = false := by simpa using hbk
    rw [Pl.read, if_neg (by simp [hbk'])] at heq
    have HE : Hid _ := heq
    clear heq
    go_wp2
    exact bodyPost_ret (v := .tuple #[.agg #[.slice none 0 0], .bool false, .int .i64 (s.size : Int)]) (by simp [results, Tryz.results50, go_sem, hc]) rfl (says_no hb HE.out)

/-- A row that holds something: its block, and its cells. -/
theorem owns_cells {w : World} {lo : Nat} {e : TypeId} {size : Nat} {a : Option Addr} {n cap : Nat} {xs : List Value} (h : w.ownsRow lo e size (.slice a n cap) n xs) (hn : 0 < n) :
  ∃ g, a = some ⟨g, 0, none⟩ ∧ lo ≤ g ∧ g < w.heap.size ∧ n ≤ cap ∧ cap ≤ maxLen ∧ (∀ j u, xs[j]? = some u → w.cell? ⟨g, j, none⟩ = some u) ∧ (∀ j, w.frozen? ⟨g, j, none⟩ = false) := by
 rcases h.2 with ⟨_, h0⟩ | ⟨g, cap', cur, hv, hb, hg, hnc, hcm, hcs, htk⟩
 ·omega
 ·simp at hv
  obtain ⟨rfl, rfl⟩ := hv
  refine ⟨g, rfl, hb, (Array.getElem?_eq_some_iff.1 hg).1, hnc, hcm, fun j u hu => ?_, fun j => frozen_of_row w g j cur e hg⟩
  rw [cell_of_row w g j cur e (0, 0) hg]
  rw [← htk, List.getElem?_take] at hu
  split at hu
  ·simpa using hu
  ·cases hu

theorem sharedOf_succ (r : List Pl.POp) (j : Nat) (h : j < r.length) : Pl.sharedOf (r.take (j + 1)) = Pl.sharedOf (r.take j) + if Pl.isShared r[j].kind then 1 else 0 := by
 rw [List.take_succ_eq_append_getElem h, Pl.sharedOf_append]
 by_cases e : Pl.isShared r[j].kind = true <;> simp [Pl.sharedOf, e]
theorem shared_le (r : List Pl.POp) (i : Nat) : Pl.sharedOf (r.take i) ≤ r.length := by
 unfold Pl.sharedOf
 exact Nat.le_trans (List.length_filter_le _ _) (by simp; omega)
theorem count_le (p : List (List Pl.POp)) (hq : ∀ r ∈ p, r.length ≤ 1000) (i : Nat) : Pl.countShared (p.take i) ≤ p.length * 1000 := by
 induction p generalizing i with
 | nil => simp [Pl.countShared]
 | cons x xs ih =>
  cases i with
  | zero => simp [Pl.countShared]
  | succ i =>
   have h1 := ih (fun r hr => hq r (by simp [hr])) i
   have h2 := shared_le x x.length
   have h3 := hq x (by simp)
   simp [Pl.countShared] at h2 ⊢
   omega

theorem countShared_any (p : List (List Pl.POp)) (a : Option Addr) (cap lo hi : Nat) (w : World) (hr : RowsIn w lo hi (.slice a p.length cap) p) (hh : hi ≤ w.heap.size) (hp : p.length ≤ 1000) (hq : ∀ r ∈ p, r.length ≤ 1000) :
  Calls Tryz.prog 51 #[.agg #[.slice a p.length cap]] w fun e w' => e = .returned (.int .i64 (Pl.countShared p : Int)) ∧ Below w.heap.size w w' := by
 obtain ⟨vs, ho, hrows⟩ := hr
 have HR : Hid (∀ (i : Nat) r, p[i]? = some r → ∃ u, vs[i]? = some u ∧ OwnsIn w lo hi 165 3 u r.length (rowCells r)) := hrows
 have HQ : Hid (∀ r ∈ p, r.length ≤ 1000) := hq
 clear hrows hq
 go_enter Tryz.func51, Tryz.ntmps51
 go_wp2
 go_loopw [3, 11] (fun c t wr => ∃ i : Nat, i ≤ p.length ∧ t = .int .i64 i ∧ c = .int .i64 (Pl.countShared (p.take i) : Int) ∧ Below w.heap.size w wr) (fun _ t _ => p.length - (intOf t).toNat)
 case atStart => exact ⟨0, Nat.zero_le _, rfl, by simp [Pl.countShared], (Below.refl _ _).alloc (Nat.le_refl _) _⟩
 case round =>
  obtain ⟨i, hi', rfl, rfl, hb⟩ := hrel
  by_cases hlt : i < p.length
  ·obtain ⟨g, rfl, hg0, hg1, hnc, hcm, hcell, hfz⟩ := owns_cells ho.1 (by omega)
   obtain ⟨u, hu, hou⟩ := HR.out i p[i] (by simp [hlt])
   obtain ⟨b, capr, hv⟩ := owns_form hou.1
   subst hv
   have c0 := (hb.cell (p := ⟨g, i, none⟩) hg1).trans (hcell i _ hu)
   have hrl := HQ.out p[i] (List.getElem_mem _)
   have H1 : Hid _ := hcell
   clear hcell
   have HT : Hid (Pl.countShared (p.take (i + 1)) = Pl.countShared (p.take i) + Pl.sharedOf p[i]) := by
    show Pl.countShared (p.take (i + 1)) = Pl.countShared (p.take i) + Pl.sharedOf p[i]
    rw [List.take_succ_eq_append_getElem hlt, Pl.countShared_append]; simp [Pl.countShared]
   have hcs := count_le p (fun r hr => HQ.out r hr) i
   generalize p[i] = r at *
   go_wp2
   go_loopw [3, 17] (fun c t wq => ∃ j : Nat, j ≤ r.length ∧ t = .int .i64 j ∧ c = .int .i64 ((Pl.countShared (p.take i) + Pl.sharedOf (r.take j) : Nat) : Int) ∧ Below w.heap.size w wq) (fun _ t _ => r.length - (intOf t).toNat)
   case atStart => exact ⟨0, Nat.zero_le _, rfl, by simp [Pl.sharedOf], hb⟩
   case round =>
    obtain ⟨j, hj, rfl, rfl, hbq⟩ := hrel
    by_cases hltj : j < r.length
    ·obtain ⟨g', rfl, hg0', hg1', hnc', hcm', hcell', hfz'⟩ := owns_cells hou.1 (by omega)
     obtain ⟨x0, x1, x2⟩ := rowCells_at r j r[j] (by simp [hltj])
     have d0 := (hbq.cell (p := ⟨g', j * 3, none⟩) hg1').trans (hcell' _ _ x0)
     have d1 := (hbq.cell (p := ⟨g', j * 3 + 1, none⟩) hg1').trans (hcell' _ _ x1)
     have d2 := (hbq.cell (p := ⟨g', j * 3 + 2, none⟩) hg1').trans (hcell' _ _ x2)
     clear hcell' x0 x1 x2
     have HS : Hid (Pl.sharedOf (r.take (j + 1)) = Pl.sharedOf (r.take j) + if Pl.isShared r[j].kind then 1 else 0) := sharedOf_succ r j hltj
     have hsl := shared_le r j
     generalize r[j] = o at *
     by_cases hso : Pl.isShared o.kind = true
     ·go_wp2_with (go_at_call 74; refine (isShared_any _ _ _ _).mono ?_; rintro e w1 ⟨rfl, hw1⟩)
      go_roundw
      case rel => exact ⟨j + 1, by omega, by go_num, by rw [HS.out, if_pos hso]; go_num, hbq.trans (((Below.refl _ _).alloc (hbq.size) _).trans (hw1.mono (by simp; have := hbq.size; omega)))⟩
      case measure => simp [intOf]; omega
     ·have hso' : Pl.isShared o.kind = false := by simpa using hso
      go_wp2_with (go_at_call 74; refine (isShared_any _ _ _ _).mono ?_; rintro e w1 ⟨rfl, hw1⟩)
      go_roundw
      case rel => exact ⟨j + 1, by omega, by go_num, by rw [HS.out, if_neg hso]; go_num, hbq.trans (((Below.refl _ _).alloc (hbq.size) _).trans (hw1.mono (by simp; have := hbq.size; omega)))⟩
      case measure => simp [intOf]; omega
    ·go_wp2
     go_roundw
     case rel => exact ⟨i + 1, by omega, by go_num, by rw [HT.out]; rw [show j = r.length by omega, List.take_length], hbq⟩
     case measure => simp [intOf]; omega
  ·go_wp2
   go_ret
   have e : i = p.length := by omega
   exact ⟨ret_int (by rw [e, List.take_length]), hb⟩

end Go.Proofs.YtfdafcnfefbcbabGreat
