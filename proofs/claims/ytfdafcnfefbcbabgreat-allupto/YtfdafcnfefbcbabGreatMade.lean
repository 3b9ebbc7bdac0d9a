/-
 The contracts of the law's 'made' and 'known'.
-/
import Derived.Test.YtfdafcnfefbcbabGreatRefNew
namespace Go.Proofs.YtfdafcnfefbcbabGreat
open Go.RowKit
set_option linter.unusedVariables false
set_option maxRecDepth 100000
set_option maxHeartbeats 1000000

theorem cut_length (s : ByteArray) : (cutTo s (s.size + 1)).1.length = Pl.countBytes (fun c => c == 10) (bytesOf s) + 1 := by
 rw [cutTo, if_pos (Or.inl rfl)]
 have := cutTo_count s s.size (Nat.le_refl _)
 rw [List.take_of_length_le (by rw [bytesOf_length]; omega)] at this
 simp [this]

theorem refSays_err {w w' : World} {s : ByteArray} {e : Ending} {k : Nat} {n : Int} (h : RefSays w s e w') (hr : Pl.refNew (bytesOf s) = .inl (k, n)) : Below w.heap.size w w' ∧ e = .returned (.tuple #[.pointer none, .int .i64 (k : Int), .int .i64 n]) := by
 refine ⟨h.1, ?_⟩
 have h2 := h.2
 unfold Pl.refNew at hr
 rw [bytesOf_length] at hr
 split at hr
 ·rename_i c; rw [if_pos c] at h2; simp at hr; obtain ⟨rfl, rfl⟩ := hr; exact h2
 ·rename_i c; rw [if_neg c] at h2
  split at hr
  ·rename_i c; rw [if_pos c] at h2; simp at hr; obtain ⟨rfl, rfl⟩ := hr; exact h2
  ·rename_i c; rw [if_neg c] at h2
   split at hr
   ·rename_i c; rw [if_pos c] at h2; simp at hr; obtain ⟨rfl, rfl⟩ := hr; exact h2
   ·cases hr

theorem refSays_ok {w w' : World} {s : ByteArray} {e : Ending} {m : Nat} (h : RefSays w s e w') (hr : Pl.refNew (bytesOf s) = .inr m) :
  Below w.heap.size w w' ∧ (∃ b, e = .returned (.tuple #[.pointer (some ⟨b, 0, none⟩), .int .i64 0, .int .i64 0]) ∧ RefIn w' w.heap.size w'.heap.size b (cutTo s (s.size + 1)).1) ∧ (cutTo s (s.size + 1)).1.length = m := by
 refine ⟨h.1, ?_⟩
 have h2 := h.2
 unfold Pl.refNew at hr
 rw [bytesOf_length] at hr
 split at hr
 ·cases hr
 ·rename_i c; rw [if_neg c] at h2
  split at hr
  ·cases hr
  ·rename_i c; rw [if_neg c] at h2
   split at hr
   ·cases hr
   ·rename_i c; rw [if_neg c] at h2; simp at hr; exact ⟨h2, by rw [cut_length, hr]⟩

/-- A program of the program's and the document's, behind a pointer. -/
def PairIn (w : World) (lo hi b : Nat) (p : List (List Pl.POp)) (L : List ByteArray) : Prop :=
 ∃ bx bY, lo ≤ b ∧ b < hi ∧ w.cell? ⟨b, 0, none⟩ = some (.pointer (some ⟨bx, 0, none⟩)) ∧ w.cell? ⟨b, 1, none⟩ = some (.pointer (some ⟨bY, 0, none⟩)) ∧ ProgIn w lo hi bx p ∧ RefIn w lo hi bY L

def MadeSays (w : World) (s : ByteArray) (e : Ending) (w' : World) : Prop :=
 Below w.heap.size w w' ∧
 match Pl.new (bytesOf s) with
 | .inl _ => e = .returned (.tuple #[.pointer none, .bool true])
 | .inr p => ∃ b, e = .returned (.tuple #[.pointer (some ⟨b, 0, none⟩), .bool true]) ∧ PairIn w' w.heap.size w'.heap.size b p (cutTo s (s.size + 1)).1 ∧ (cutTo s (s.size + 1)).1.length = p.length

theorem new_bounds {s : List Nat} {k n : Nat} (h : Pl.new s = .inl (k, n)) : k ≤ 3 := by
 unfold Pl.new at h
 split at h
 ·simp at h; omega
 ·split at h
  ·simp at h; omega
  ·split at h
   ·simp at h; omega
   ·cases h

theorem made_any (s : ByteArray) (w : World) (hs : s.size ≤ maxLen) : Calls Tryz.prog 12 #[.string s] w fun e w' => MadeSays w s e w' := by
 rcases Pl.new_ref (bytesOf s) with ⟨k, n, h1, h2⟩ | ⟨p, h1, h2⟩
 ·have hk := new_bounds h1
  have H1 : Hid _ := h1
  have H2 : Hid _ := h2
  clear h1 h2
  go_enter Tryz.func12, Tryz.ntmps12
  go_wp2_with fail
  refine (new_any s _ hs).mono ?_
  rintro e w1 ⟨hb1, he⟩
  rw [H1.out] at he
  subst he
  go_wp2_with fail
  refine (refNew_any s _ hs).mono ?_
  rintro e w2 hsay
  obtain ⟨hb2, rfl⟩ := refSays_err hsay H2.out
  go_wp2_with (go_at_call 30; refine (num_any _ _ (by omega) (by omega)).mono ?_; rintro e w' ⟨rfl, rfl⟩)
  go_ret2
  refine ⟨hb1.trans (hb2.mono hb1.size), ?_⟩
  rw [H1.out]
  rfl
 ·have H1 : Hid _ := h1
  have H2 : Hid _ := h2
  clear h1 h2
  go_enter Tryz.func12, Tryz.ntmps12
  go_wp2_with fail
  refine (new_any s _ hs).mono ?_
  rintro e w1 ⟨hb1, he⟩
  rw [H1.out] at he
  obtain ⟨bx, rfl, hp⟩ := he
  have HP : Hid (ProgIn w1 w.heap.size w1.heap.size bx p) := hp
  clear hp
  go_wp2_with fail
  refine (refNew_any s _ hs).mono ?_
  rintro e w2 hsay
  obtain ⟨hb2, ⟨bY, rfl, hr⟩, hlen⟩ := refSays_ok hsay H2.out
  have HR : Hid (RefIn w2 w1.heap.size w2.heap.size bY (cutTo s (s.size + 1)).1) := hr
  have HL : Hid _ := hlen
  clear hr hlen hsay
  go_wp2_with (go_at_call 30; refine (num_any _ _ (by omega) (by omega)).mono ?_; rintro e w' ⟨rfl, rfl⟩)
  go_ret2
  have z1 := hb1.size
  have z2 := hb2.size
  have hb3 : Below w'.heap.size w' (w'.alloc (.cells #[.pointer (some ⟨bx, 0, none⟩), .pointer (some ⟨bY, 0, none⟩)] 43)) := (Below.refl _ _).alloc (Nat.le_refl _) _
  refine ⟨(hb1.trans (hb2.mono z1)).trans (hb3.mono (by omega)), ?_⟩
  rw [H1.out]
  refine ⟨_, rfl, ⟨bx, bY, by omega, by simp, by simp, by simp, ?_, ?_⟩, HL.out⟩
  ·exact ((HP.out.below hb2).mono (Nat.le_refl _) z2 |>.below hb3).mono (Nat.le_refl _) (by simp)
  ·exact (HR.out.below hb3).mono z1 (by simp)

/-- DOC.md's first example. -/
def exText : ByteArray := ⟨#[91, 114, 97, 43, 49, 119, 97, 93, 10, 91, 114, 97, 43, 49, 119, 97, 93]⟩
def exRow : List Pl.POp := [⟨91, 0, 0⟩, ⟨114, 97, 0⟩, ⟨43, 49, 0⟩, ⟨119, 97, 0⟩, ⟨93, 0, 0⟩]
theorem ex_new : Pl.new (bytesOf exText) = .inr [exRow, exRow] := by kernel_rfl

end Go.Proofs.YtfdafcnfefbcbabGreat
