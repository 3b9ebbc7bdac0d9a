/-
 The contracts of New and Threads.
-/
import Derived.Test.YtfdafcnfefbcbabGreatDra
namespace Go.Proofs.YtfdafcnfefbcbabGreat
open Go.RowKit
set_option linter.unusedVariables false
set_option maxRecDepth 100000
set_option maxHeartbeats 1000000

theorem add_rows {D : Pl.Draft} {m : Nat} (k n : Nat) (ht : ∀ r ∈ D.threads, r.length ≤ m) (ho : D.ops.length ≤ m) : (∀ r ∈ (Pl.add D k n).threads, r.length ≤ m + 1) ∧ (Pl.add D k n).ops.length ≤ m + 1 := by
 have h1 : ∀ r ∈ D.threads, r.length ≤ m + 1 := fun r hr => Nat.le_succ_of_le (ht r hr)
 unfold Pl.add Pl.endThread
 repeat' split
 ·refine ⟨fun r hr => ?_, by simp⟩
  simp at hr
  rcases hr with hr | rfl
  ·exact h1 r hr
  ·omega
 all_goals exact ⟨h1, by simp; omega⟩

theorem read_small : ∀ (s : List Nat) (D : Pl.Draft) (i m : Nat) (p : List (List Pl.POp)), (Pl.read D i s).1 = some p → (∀ r ∈ D.threads, r.length ≤ m) → D.ops.length ≤ m → ∀ r ∈ p, r.length ≤ m + s.length
 | [], D, i, m, p => by
  intro h ht ho r hr
  rw [Pl.read] at h
  split at h
  ·simp at h; subst h
   simp at hr
   rcases hr with hr | rfl
   ·have := ht r hr; simp; omega
   ·simp; omega
  ·cases h
 | [k], D, i, m, p => by
  intro h ht ho r hr
  rw [Pl.read] at h
  split at h
  ·split at h
   ·cases h
   ·have := read_small [] (Pl.add D k 0) (i + 1) (m + 1) p h (add_rows k 0 ht ho).1 (add_rows k 0 ht ho).2 r hr
    simpa using this
  ·cases h
 | k :: n :: s, D, i, m, p => by
  intro h ht ho r hr
  rw [Pl.read] at h
  split at h
  ·split at h
   ·split at h
    ·have := read_small s (Pl.add D k n) (i + 2) (m + 1) p h (add_rows k n ht ho).1 (add_rows k n ht ho).2 r hr
     simp; omega
    ·cases h
   ·have := read_small (n :: s) (Pl.add D k 0) (i + 1) (m + 1) p h (add_rows k 0 ht ho).1 (add_rows k 0 ht ho).2 r hr
    simp at this ⊢; omega
  ·cases h
theorem countBytes_le (f : Nat → Bool) (s : List Nat) : Pl.countBytes f s ≤ s.length := List.length_filter_le _ _

/-- The program behind a pointer. -/
def ProgIn (w : World) (lo hi b : Nat) (p : List (List Pl.POp)) : Prop :=
 lo ≤ b ∧ b < hi ∧ ∃ a cap, w.cell? ⟨b, 0, none⟩ = some (.slice a p.length cap) ∧ RowsIn w lo hi (.slice a p.length cap) p

theorem ProgIn.below {w w' : World} {lo hi b : Nat} {p : List (List Pl.POp)} (h : ProgIn w lo hi b p) (hb : Below hi w w') : ProgIn w' lo hi b p := by
 obtain ⟨h1, h2, a, cap, h3, h4⟩ := h
 exact ⟨h1, h2, a, cap, by rw [hb.cell (p := ⟨b, 0, none⟩) h2]; exact h3, h4.below hb⟩

theorem ProgIn.mono {w : World} {lo lo' hi hi' b : Nat} {p : List (List Pl.POp)} (h : ProgIn w lo hi b p) (h1 : lo' ≤ lo) (h2 : hi ≤ hi') : ProgIn w lo' hi' b p := by
 obtain ⟨g1, g2, a, cap, h3, h4⟩ := h
 exact ⟨by omega, by omega, a, cap, h3, h4.mono h1 h2⟩

def NewSays (w : World) (r : Sum (Nat × Nat) (List (List Pl.POp))) (e : Ending) (w' : World) : Prop :=
 Below w.heap.size w w' ∧
 match r with
 | .inl (k, n) => e = .returned (.tuple #[.pointer none, .int .i64 (k : Int), .int .i64 (n : Int)])
 | .inr p => ∃ b, e = .returned (.tuple #[.pointer (some ⟨b, 0, none⟩), .int .i64 0, .int .i64 0]) ∧ ProgIn w' w.heap.size w'.heap.size b p

theorem new_any (s : ByteArray) (w : World) (hs : s.size ≤ maxLen) : Calls Tryz.prog 28 #[.string s] w fun e w' => NewSays w (Pl.new (bytesOf s)) e w' := by
 unfold maxLen at hs
 by_cases hl : 100 < s.size
 ·have hl' : (100 : Int) < (s.size : Int) := by omega
  have hn : Hid (Pl.new (bytesOf s) = .inl (1, 0)) := by show Pl.new (bytesOf s) = _; simp [Pl.new, bytesOf_length, hl]
  go_enter Tryz.func28, Tryz.ntmps28
  go_wp2
  go_ret3
  rw [hn.out]
  exact ⟨Below.refl _ _, rfl⟩
 ·have hl' : ¬ (100 : Int) < (s.size : Int) := by omega
  cases hr : (Pl.read Pl.draft0 0 (bytesOf s)).1 with
  | none =>
   have hn : Hid (Pl.new (bytesOf s) = .inl (2, (Pl.read Pl.draft0 0 (bytesOf s)).2)) := by show Pl.new (bytesOf s) = _; simp [Pl.new, bytesOf_length, hl, hr]
   have HR : Hid _ := hr
   clear hr
   go_enter Tryz.func28, Tryz.ntmps28
   go_wp2_with (go_at_call 50; refine (read_any s _ (by omega)).mono ?_; rintro e w1 ⟨hb, he⟩; rw [HR.out] at he; subst he)
   go_ret3
   rw [hn.out]
   exact ⟨hb.alloc hb.size _, rfl⟩
  | some p =>
   have hq := read_small (bytesOf s) Pl.draft0 0 0 p hr (by simp [Pl.draft0]) (by simp [Pl.draft0])
   have hc := (Pl.read_counts (bytesOf s) Pl.draft0 0 p hr).2
   have hc2 := countBytes_le (fun c => c == 10) (bytesOf s)
   rw [bytesOf_length] at hq hc2
   have hp : p.length ≤ 1000 := by simp [Pl.draft0] at hc; omega
   have HQ : Hid (∀ r ∈ p, r.length ≤ 1000) := fun r hr => by have := hq r hr; omega
   have hcs := count_le p HQ.out p.length
   rw [List.take_length] at hcs
   clear hq hc hc2
   have HR : Hid _ := hr
   by_cases h10 : 10 < Pl.countShared p
   ·have hn : Hid (Pl.new (bytesOf s) = .inl (3, 0)) := by show Pl.new (bytesOf s) = _; simp [Pl.new, bytesOf_length, hl, hr, h10]
    clear hr
    have h10' : (10 : Int) < (Pl.countShared p : Int) := by omega
    go_enter Tryz.func28, Tryz.ntmps28
    go_wp2_with fail
    refine (read_any s _ (by omega)).mono ?_
    rintro e w1 ⟨hb, he⟩
    rw [HR.out] at he
    obtain ⟨a, cap, rfl, hrows⟩ := he
    have HRo : Hid (RowsIn w1 w.heap.size w1.heap.size (.slice a p.length cap) p) := hrows
    clear hrows
    go_wp2_with fail
    refine (countShared_any p a cap w.heap.size w1.heap.size _ (HRo.out.below ((Below.refl _ _).alloc (Nat.le_refl _) _)) (by simp) hp HQ.out).mono ?_
    rintro e w2 ⟨rfl, hb2⟩
    go_wp2
    go_ret3
    rw [hn.out]
    exact ⟨(hb.alloc hb.size _).trans (hb2.mono (by simp; have := hb.size; omega)), rfl⟩
   ·have hn : Hid (Pl.new (bytesOf s) = .inr p) := by show Pl.new (bytesOf s) = _; simp [Pl.new, bytesOf_length, hl, hr, h10]
    clear hr
    have h10' : ¬ (10 : Int) < (Pl.countShared p : Int) := by omega
    go_enter Tryz.func28, Tryz.ntmps28
    go_wp2_with fail
    refine (read_any s _ (by omega)).mono ?_
    rintro e w1 ⟨hb, he⟩
    rw [HR.out] at he
    obtain ⟨a, cap, rfl, hrows⟩ := he
    have HRo : Hid (RowsIn w1 w.heap.size w1.heap.size (.slice a p.length cap) p) := hrows
    clear hrows
    go_wp2_with fail
    refine (countShared_any p a cap w.heap.size w1.heap.size _ (HRo.out.below ((Below.refl _ _).alloc (Nat.le_refl _) _)) (by simp) hp HQ.out).mono ?_
    rintro e w2 ⟨rfl, hb2⟩
    have c5 : w2.cell? ⟨w1.heap.size, 0, none⟩ = some (.slice a p.length cap) := (hb2.cell (p := ⟨w1.heap.size, 0, none⟩) (by simp)).trans (by simp)
    go_wp2
    go_ret3
    rw [hn.out]
    have hb3 : Below w1.heap.size w1 w2 := ((Below.refl _ _).alloc (Nat.le_refl _) _).trans (hb2.mono (by simp))
    have hb4 : Below w1.heap.size w1 (w2.alloc (.cells #[.slice a p.length cap] 73)) := hb3.alloc hb3.size _
    have z1 := hb.size
    have z3 := hb3.size
    refine ⟨hb.trans (hb4.mono z1), w2.heap.size, rfl, by omega, by simp, a, cap, by simp, ?_⟩
    exact (HRo.out.below hb4).mono (Nat.le_refl _) (by simp; omega)

theorem threads_any (p : List (List Pl.POp)) (lo hi b : Nat) (w : World) (h : ProgIn w lo hi b p) (hp : p.length ≤ 1000) : Calls Tryz.prog 8 #[.pointer (some ⟨b, 0, none⟩)] w fun e w' => e = .returned (.int .i64 (p.length : Int)) ∧ w' = w := by
 obtain ⟨_, _, a, cap, hc, _⟩ := h
 go_enter Tryz.func8, Tryz.ntmps8
 go_wp2
 go_ret
 exact ⟨rfl, rfl⟩

end Go.Proofs.YtfdafcnfefbcbabGreat
