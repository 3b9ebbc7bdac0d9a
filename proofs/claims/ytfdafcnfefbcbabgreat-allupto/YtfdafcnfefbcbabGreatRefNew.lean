/-
 The contract of the reference's New.
-/
import Derived.Test.YtfdafcnfefbcbabGreatRef
namespace Go.Proofs.YtfdafcnfefbcbabGreat
open Go.RowKit
set_option linter.unusedVariables false
set_option maxRecDepth 100000
set_option maxHeartbeats 4000000
attribute [local go_sem ↓] Go.wp_at_zero Go.wp_at_succ

/-- The threads' texts that are cut off before place i, and where the next one begins. -/
def cutTo (s : ByteArray) : Nat → List ByteArray × Nat
 | 0 => ([], 0)
 | i + 1 => if i = s.size ∨ (bytesOf s)[i]? = some 10 then ((cutTo s i).1 ++ [s.extract (cutTo s i).2 i], i + 1) else cutTo s i

theorem cutTo_le (s : ByteArray) : ∀ i, (cutTo s i).2 ≤ i ∧ (cutTo s i).1.length ≤ i
 | 0 => by simp [cutTo]
 | i + 1 => by
  have := cutTo_le s i
  unfold cutTo
  split
  ·simp; omega
  ·omega

theorem cutTo_count (s : ByteArray) : ∀ i, i ≤ s.size → (cutTo s i).1.length = Pl.countBytes (fun c => c == 10) ((bytesOf s).take i)
 | 0, _ => by simp [cutTo, Pl.countBytes]
 | i + 1, h => by
  have ih := cutTo_count s i (by omega)
  have hl := bytesOf_length s
  rw [List.take_succ_eq_append_getElem (by omega)]
  unfold cutTo
  have e : (bytesOf s)[i]? = some (bytesOf s)[i] := List.getElem?_eq_getElem (by omega)
  by_cases h10 : (bytesOf s)[i] = 10
  ·rw [if_pos (Or.inr (by rw [e, h10]))]
   simp [Pl.countBytes, h10] at ih ⊢
   exact ih
  ·rw [if_neg (by rw [e]; simp [h10]; omega), ih]
   unfold Pl.countBytes
   rw [List.filter_append, List.filter_cons_of_neg (by simp [h10])]
   simp

theorem count_succ {s : ByteArray} {i c : Nat} (f : Nat → Bool) (h : (bytesOf s)[i]? = some c) : Pl.countBytes f ((bytesOf s).take (i + 1)) = Pl.countBytes f ((bytesOf s).take i) + if f c then 1 else 0 := by
 obtain ⟨hl, he⟩ := List.getElem?_eq_some_iff.1 h
 rw [List.take_succ_eq_append_getElem hl, he]
 unfold Pl.countBytes
 rw [List.filter_append]
 by_cases e : f c = true <;> simp [e]

def strCells (l : List ByteArray) : List Value := l.map Value.string

/-- The reference's program behind a pointer. -/
def RefIn (w : World) (lo hi b : Nat) (L : List ByteArray) : Prop :=
 lo ≤ b ∧ b < hi ∧ ∃ a cap, w.cell? ⟨b, 0, none⟩ = some (.slice a L.length cap) ∧ OwnsIn w lo hi 9 1 (.slice a L.length cap) L.length (strCells L)

theorem RefIn.below {w w' : World} {lo hi b : Nat} {L : List ByteArray} (h : RefIn w lo hi b L) (hb : Below hi w w') : RefIn w' lo hi b L := by
 obtain ⟨h1, h2, a, cap, h3, h4⟩ := h
 exact ⟨h1, h2, a, cap, by rw [hb.cell (p := ⟨b, 0, none⟩) h2]; exact h3, h4.below hb⟩

theorem RefIn.mono {w : World} {lo lo' hi hi' b : Nat} {L : List ByteArray} (h : RefIn w lo hi b L) (h1 : lo' ≤ lo) (h2 : hi ≤ hi') : RefIn w lo' hi' b L := by
 obtain ⟨g1, g2, a, cap, h3, h4⟩ := h
 exact ⟨by omega, by omega, a, cap, h3, h4.mono h1 h2⟩

def RefSays (w : World) (s : ByteArray) (e : Ending) (w' : World) : Prop :=
 Below w.heap.size w w' ∧
 if 100 < s.size then e = .returned (.tuple #[.pointer none, .int .i64 1, .int .i64 0])
 else if 0 ≤ Pl.place false 1 0 0 (bytesOf s) then e = .returned (.tuple #[.pointer none, .int .i64 2, .int .i64 (Pl.place false 1 0 0 (bytesOf s))])
 else if 10 < Pl.countBytes Pl.isShared (bytesOf s) then e = .returned (.tuple #[.pointer none, .int .i64 3, .int .i64 0])
 else ∃ b, e = .returned (.tuple #[.pointer (some ⟨b, 0, none⟩), .int .i64 0, .int .i64 0]) ∧ RefIn w' w.heap.size w'.heap.size b (cutTo s (s.size + 1)).1

theorem Tryz.info9 : (Tryz.prog.info? 9).map (fun i => (i.zero, i.size, i.bytes)) = some (some (.string ⟨#[]⟩), 1, 16) := by kernel_rfl

/-- How it stands ahead of place i. -/
def Cutting (s : ByteArray) (w wr : World) (i : Nat) : Prop :=
 (∃ a cap, wr.cell? ⟨w.heap.size, 0, none⟩ = some (.slice a (cutTo s i).1.length cap) ∧ wr.ownsRow (w.heap.size + 1) 9 1 (.slice a (cutTo s i).1.length cap) (cutTo s i).1.length (strCells (cutTo s i).1)) ∧
 wr.frozen? ⟨w.heap.size, 0, none⟩ = false ∧ Below w.heap.size w wr ∧ w.heap.size < wr.heap.size

theorem among_rwlu (c : Nat) : amongB c ⟨#[114, 119, 108, 117]⟩ = Pl.isShared c := by
 unfold amongB Pl.isShared
 rw [Bool.eq_iff_iff]; simp; omega

theorem cutting_next {s : ByteArray} {w wr w1 : World} {o : Obj} {i gg cap1 : Nat} {v : Value} (h : i = s.size ∨ (bytesOf s)[i]? = some 10) (hb : Below w.heap.size w wr) (hz : w.heap.size < wr.heap.size)
  (hv : ∀ k, v.ownBlock = some k → w.heap.size < k)
  (hg : (wr.alloc o).drew.grownBy w1 v.ownBlock) (hown : w1.ownsRow (w.heap.size + 1) 9 1 (.slice (some ⟨gg, 0, none⟩) ((cutTo s i).1.length + 1) cap1) ((cutTo s i).1.length + 1) (strCells (cutTo s i).1 ++ [.string (s.extract (cutTo s i).2 i)]))
  (hf : w1.frozen? ⟨w.heap.size, 0, none⟩ = false) {v0 : Value} (hc : w1.cell? ⟨w.heap.size, 0, none⟩ = some v0) :
  Cutting s w (w1.setCell ⟨w.heap.size, 0, none⟩ (.slice (some ⟨gg, 0, none⟩) ((cutTo s i).1.length + 1) cap1)) (i + 1) := by
 have hw : Below w.heap.size wr w1 := grow_below hg (by omega) (fun k e => by have := hv k e; omega)
 have e : cutTo s (i + 1) = ((cutTo s i).1 ++ [s.extract (cutTo s i).2 i], i + 1) := by rw [cutTo, if_pos h]
 refine ⟨⟨some ⟨gg, 0, none⟩, cap1, ?_, ?_⟩, by rw [World.frozen?_setCell]; exact hf, (hb.trans hw).setCell (Nat.le_refl _) _, by rw [World.size_setCell]; have := hw.size; omega⟩
 ·rw [e]; simp only [List.length_append, List.length_cons, List.length_nil]; exact World.cell?_setCell_same _ _ _ hc
 ·rw [e]
  have := ownsRow_setCell_below hown (a := ⟨w.heap.size, 0, none⟩) (by simp) (.slice (some ⟨gg, 0, none⟩) ((cutTo s i).1.length + 1) cap1)
  simpa [strCells] using this

theorem refNew_any (s : ByteArray) (w : World) (hs : s.size ≤ maxLen) : Calls Tryz.prog 29 #[.string s] w fun e w' => RefSays w s e w' := by
 unfold maxLen at hs
 by_cases hl : 100 < s.size
 ·have hl' : (100 : Int) < (s.size : Int) := by omega
  go_enter Tryz.func29, Tryz.ntmps29
  go_wp2
  go_ret3
  exact ⟨Below.refl _ _, by rw [if_pos hl]; rfl⟩
 ·have hl' : ¬ (100 : Int) < (s.size : Int) := by omega
  by_cases hpl : 0 ≤ Pl.place false 1 0 0 (bytesOf s)
  ·go_enter Tryz.func29, Tryz.ntmps29
   go_wp2_with (go_at_call 52; refine (place_any s _ (by omega)).mono ?_; rintro e w1 ⟨rfl, rfl⟩)
   go_ret3
   exact ⟨Below.refl _ _, by rw [if_neg hl, if_pos hpl]; rfl⟩
  ·have HF : Hid (∀ e w', RefSays w s e w' ↔ Below w.heap.size w w' ∧ if 10 < Pl.countBytes Pl.isShared (bytesOf s) then e = .returned (.tuple #[.pointer none, .int .i64 3, .int .i64 0]) else ∃ b, e = .returned (.tuple #[.pointer (some ⟨b, 0, none⟩), .int .i64 0, .int .i64 0]) ∧ RefIn w' w.heap.size w'.heap.size b (cutTo s (s.size + 1)).1) := by
    intro e w'; unfold RefSays; rw [if_neg hl, if_neg hpl]
   obtain ⟨i0, hi0, hz0, hz1, hz2⟩ := info_parts Tryz.info9
   go_enter Tryz.func29, Tryz.ntmps29
   go_wp2_with (go_at_call 52; refine (place_any s _ (by omega)).mono ?_; rintro e w1 ⟨rfl, rfl⟩)
   go_loopw [7, 8, 9] (fun f c t wr => ∃ i : Nat, i ≤ s.size + 1 ∧ t = .int .i64 i ∧ f = .int .i64 ((cutTo s i).2 : Int) ∧ c = .int .i64 (Pl.countBytes Pl.isShared ((bytesOf s).take i) : Int) ∧ Hid (Cutting s w1 wr i)) (fun _ _ t _ => s.size + 1 - (intOf t).toNat)
   case atStart =>
    refine ⟨0, by omega, rfl, rfl, by simp [Pl.countBytes], ⟨none, 0, by simp [cutTo], by simpa [cutTo, strCells] using World.ownsRow_nil _ _ _ _⟩, by simp, (Below.refl _ _).alloc (Nat.le_refl _) _, by simp⟩
   case round =>
    obtain ⟨i, hi, rfl, rfl, rfl, HH⟩ := hrel
    obtain ⟨⟨a, cap, hc, ho⟩, hf, hb, hz⟩ := HH.out
    have hcl := cutTo_le s i
    have hcb := countBytes_le Pl.isShared ((bytesOf s).take i)
    have htk : ((bytesOf s).take i).length ≤ i := List.length_take_le _ _
    by_cases hend : i = s.size
    ·have e1 : ((i : Int) == (s.size : Int)) = true := by simp; omega
     have ha1 := fun o => alloc_cell hc o
     have hne : (Value.slice a (cutTo s i).1.length cap).ownBlock ≠ some w1.heap.size := fun e => by have := (ho.lt _ e).1; omega
     have q1 : (0 : Int) ≤ ((cutTo s i).2 : Int) := by omega
     have q2 : ((cutTo s i).2 : Int) ≤ (i : Int) := by omega
     have q3 : (i : Int) ≤ (s.size : Int) := by omega
     have HORC : Hid (i = s.size ∨ (bytesOf s)[i]? = some 10) := Or.inl hend
     have HCOUNT : Hid (Value.int .i64 (Pl.countBytes Pl.isShared ((bytesOf s).take i) : Int) = Value.int .i64 (Pl.countBytes Pl.isShared ((bytesOf s).take (i + 1)) : Int)) := by
      show Value.int .i64 _ = Value.int .i64 _
      rw [List.take_of_length_le (by rw [bytesOf_length]; omega), List.take_of_length_le (by rw [bytesOf_length]; omega)]
     clear hend
     go_wp2_with fail
     go_region_law
      ((refine step_append_lies _ (by rfl) _ _ _ (by rfl) (w1.heap.size + 1) 9 i0 _ 1 16 Tryz.underlying45 hi0 hz0 hz1 hz2 rfl (by omega) (.slice a (cutTo s i).1.length cap) (cutTo s i).1.length (strCells (cutTo s i).1) (by rfl) ((ho.alloc _).drew)
          ⟨wr.heap.size, 0, none⟩ 1 1 [.string (s.extract (cutTo s i).2 i)] (by rfl) (by rfl) (World.news_of_block (cs := #[.string (s.extract (cutTo s i).2 i)]) (t := 9) (fr := (0, 0)) (heap_alloc_new wr _)) (by simp [Value.oneCell'])
          (by omega) (by unfold maxLen; omega) (by omega) (by simp; omega) (wr.heap.size + 1) (by simp) ?_; intro gg cap1 w2 hown1 hgrow hat hlt1
        have k0 := grow_cell hgrow hc hne
        have e0 := grow_frozen hgrow hz hf hne))
     all_goals go_wp2
     all_goals go_roundw
     all_goals try (case rel => exact ⟨i + 1, by omega, by go_num, by rw [cutTo, if_pos HORC.out]; go_num, HCOUNT.out, cutting_next HORC.out hb hz (fun k e => (ho.lt k e).1) hgrow hown1 e0 k0⟩)
     all_goals (simp [intOf]; omega)
    ·by_cases hlt : i < s.size
     ·have e1 : ((i : Int) == (s.size : Int)) = false := by simp; omega
      have hbi : (bytesOf s)[i]? = some s[i].toNat := by
       have := bytesOf_drop s i hlt
       rw [← List.head?_drop, this]; rfl
      by_cases h10 : s[i].toNat = 10
      ·have e2 : ((s[i].toNat : Int) == 10) = true := by simp; omega
       have ha1 := fun o => alloc_cell hc o
       have hne : (Value.slice a (cutTo s i).1.length cap).ownBlock ≠ some w1.heap.size := fun e => by have := (ho.lt _ e).1; omega
       have q1 : (0 : Int) ≤ ((cutTo s i).2 : Int) := by omega
       have q2 : ((cutTo s i).2 : Int) ≤ (i : Int) := by omega
       have q3 : (i : Int) ≤ (s.size : Int) := by omega
       have HORC : Hid (i = s.size ∨ (bytesOf s)[i]? = some 10) := Or.inr (by rw [hbi, h10])
       have HCOUNT : Hid (Value.int .i64 (Pl.countBytes Pl.isShared ((bytesOf s).take i) : Int) = Value.int .i64 (Pl.countBytes Pl.isShared ((bytesOf s).take (i + 1)) : Int)) := by
        show Value.int .i64 _ = Value.int .i64 _
        rw [count_succ _ hbi, h10]; rfl
       clear h10 hbi
       go_wp2_with fail
       go_region_law
        ((refine step_append_lies _ (by rfl) _ _ _ (by rfl) (w1.heap.size + 1) 9 i0 _ 1 16 Tryz.underlying45 hi0 hz0 hz1 hz2 rfl (by omega) (.slice a (cutTo s i).1.length cap) (cutTo s i).1.length (strCells (cutTo s i).1) (by rfl) ((ho.alloc _).drew)
            ⟨wr.heap.size, 0, none⟩ 1 1 [.string (s.extract (cutTo s i).2 i)] (by rfl) (by rfl) (World.news_of_block (cs := #[.string (s.extract (cutTo s i).2 i)]) (t := 9) (fr := (0, 0)) (heap_alloc_new wr _)) (by simp [Value.oneCell'])
            (by omega) (by unfold maxLen; omega) (by omega) (by simp; omega) (wr.heap.size + 1) (by simp) ?_; intro gg cap1 w2 hown1 hgrow hat hlt1
          have k0 := grow_cell hgrow hc hne
          have e0 := grow_frozen hgrow hz hf hne))
       all_goals go_wp2
       all_goals go_roundw
       all_goals try (case rel => exact ⟨i + 1, by omega, by go_num, by rw [cutTo, if_pos HORC.out]; go_num, HCOUNT.out, cutting_next HORC.out hb hz (fun k e => (ho.lt k e).1) hgrow hown1 e0 k0⟩)
       all_goals (simp [intOf]; omega)
      ·have e2 : ((s[i].toNat : Int) == 10) = false := by simp; omega
       have HNC : Hid (cutTo s (i + 1) = cutTo s i) := by show cutTo s (i + 1) = _; rw [cutTo, if_neg (by rw [hbi]; simp; omega)]
       have HCS : Hid _ := count_succ Pl.isShared hbi
       have HCUT : Hid (Cutting s w1 wr (i + 1)) := by
        show Cutting s w1 wr (i + 1)
        unfold Cutting; rw [HNC.out]; exact HH.out
       clear hbi
       have HAM := among_rwlu s[i].toNat
       cases hsh : Pl.isShared s[i].toNat
       ·rw [hsh] at HAM
        go_wp2_with (go_at_call 53; refine (among_any _ _ _ (by decide)).mono ?_; rintro e w' ⟨rfl, rfl⟩)
        go_roundw
        case rel => exact ⟨i + 1, by omega, by go_num, by rw [HNC.out], by rw [HCS.out, hsh]; rfl, HCUT⟩
        case measure => simp [intOf]; omega
       ·rw [hsh] at HAM
        go_wp2_with (go_at_call 53; refine (among_any _ _ _ (by decide)).mono ?_; rintro e w' ⟨rfl, rfl⟩)
        go_roundw
        case rel => exact ⟨i + 1, by omega, by go_num, by rw [HNC.out], by rw [HCS.out, hsh]; go_num, HCUT⟩
        case measure => simp [intOf]; omega
     ·have e : i = s.size + 1 := by omega
      subst e
      have HTK : Hid ((bytesOf s).take (s.size + 1) = bytesOf s) := List.take_of_length_le (by rw [bytesOf_length]; omega)
      rw [HTK.out]
      rw [HTK.out] at hcb htk
      by_cases h10 : 10 < Pl.countBytes Pl.isShared (bytesOf s)
      ·have h10' : (10 : Int) < (Pl.countBytes Pl.isShared (bytesOf s) : Int) := by omega
       go_wp2
       go_ret3
       exact (HF.out _ _).2 ⟨hb, by rw [if_pos h10]; rfl⟩
      ·have h10' : ¬ (10 : Int) < (Pl.countBytes Pl.isShared (bytesOf s) : Int) := by omega
       go_wp2
       go_ret3
       refine (HF.out _ _).2 ⟨hb, ?_⟩
       rw [if_neg h10]
       refine ⟨w1.heap.size, rfl, Nat.le_refl _, hz, a, cap, hc, OwnsIn.mono (ownsRow_in ho) (by omega) (Nat.le_refl _)⟩

end Go.Proofs.YtfdafcnfefbcbabGreat
