/-
  Package interleavekeep: the contracts of hang, sameInts, together.
-/
import Derived.Test.YtfdafcnfefbcbabOrf
import Derived.Test.YtfdafcnfefbcbabPla
import Derived.Test.YtfdafcnfefbcbabPlay
import Derived.BigQuiet
import Derived.Deep.QuietTactic
namespace Go.Proofs.Ytfdafcnfefbcbab
open Go.RowKit
set_option linter.unusedVariables false

set_option maxRecDepth 100000 in
set_option maxHeartbeats 1000000 in
theorem keepHang_any (x y : Ev) (w : World) : Calls Try.prog 40 #[x.val, y.val] w fun e w' => e = .returned (.bool (hangEv x y)) ∧ Below w.heap.size w w' := by
  obtain ⟨t, k, n, v, b, g⟩ := x
  obtain ⟨t', k', n', v', b', g'⟩ := y
  unfold Ev.val
  simp only
  cases h1 : (t == t')
  · cases h2 : ((n : Int) == (n' : Int))
    · have HR : Hid (hangEv ⟨t, k, n, v, b, g⟩ ⟨t', k', n', v', b', g'⟩ = false) := by
        show _ = _
        have : (n == n') = false := by simp at h2 ⊢; omega
        simp only [hangEv, h1, this]; rfl
      go_enter Try.func40, Try.ntmps40
      go_wp2
      go_ret
      exact ⟨ret_bool HR.out.symm, two_new w _ _⟩
    · have hnn : (n == n') = true := by simp at h2 ⊢; omega
      cases h3 : ((k : Int) != 114)
      · have h3' : (k != 114) = false := by simp at h3 ⊢; omega
        cases h4 : ((k' : Int) != 114)
        · have h4' : (k' != 114) = false := by simp at h4 ⊢; omega
          have HR : Hid (hangEv ⟨t, k, n, v, b, g⟩ ⟨t', k', n', v', b', g'⟩ = false) := by show _ = _; simp only [hangEv, h1, hnn, h3', h4']; rfl
          clear h3' h4' hnn
          go_enter Try.func40, Try.ntmps40
          go_wp2
          go_ret
          exact ⟨ret_bool HR.out.symm, two_new w _ _⟩
        · have h4' : (k' != 114) = true := by simp at h4 ⊢; omega
          have HR : Hid (hangEv ⟨t, k, n, v, b, g⟩ ⟨t', k', n', v', b', g'⟩ = true) := by show _ = _; simp only [hangEv, h1, hnn, h3', h4']; rfl
          clear h3' h4' hnn
          go_enter Try.func40, Try.ntmps40
          go_wp2
          go_ret
          exact ⟨ret_bool HR.out.symm, two_new w _ _⟩
      · have h3' : (k != 114) = true := by simp at h3 ⊢; omega
        have HR : Hid (hangEv ⟨t, k, n, v, b, g⟩ ⟨t', k', n', v', b', g'⟩ = true) := by show _ = _; simp only [hangEv, h1, hnn, h3']; rfl
        clear h3' hnn
        go_enter Try.func40, Try.ntmps40
        go_wp2
        go_ret
        exact ⟨ret_bool HR.out.symm, two_new w _ _⟩
  · have HR : Hid (hangEv ⟨t, k, n, v, b, g⟩ ⟨t', k', n', v', b', g'⟩ = true) := by show _ = _; simp only [hangEv, h1]; rfl
    go_enter Try.func40, Try.ntmps40
    go_wp2
    go_ret
    exact ⟨ret_bool HR.out.symm, two_new w _ _⟩

/-- Two events in memory. -/
structure EvTwo (g i j : Nat) (x y : Ev) (w : World) : Prop where
  a : w.rangeAt g (i * 6) x.cells
  b : w.rangeAt g (j * 6) y.cells

theorem EvTwo.below {g i j : Nat} {x y : Ev} {w w' : World} {B : Nat} (h : EvTwo g i j x y w) (hb : Below B w w') (hg : g < B) : EvTwo g i j x y w' := ⟨range_below h.a hb hg, range_below h.b hb hg⟩

theorem evTwo_of {w : World} {g : Nat} {l : List Ev} (hc : ∀ (i : Nat) (e : Ev), l[i]? = some e → w.cell? ⟨g, i * 6, none⟩ = some (.int .i64 e.thread) ∧ w.cell? ⟨g, i * 6 + 1, none⟩ = some (.int .u8 (e.kind : Int)) ∧ w.cell? ⟨g, i * 6 + 2, none⟩ = some (.int .u8 (e.name : Int)) ∧ w.cell? ⟨g, i * 6 + 3, none⟩ = some (.int .i16 e.value) ∧ w.cell? ⟨g, i * 6 + 4, none⟩ = some (.int .i64 e.block) ∧ w.cell? ⟨g, i * 6 + 5, none⟩ = some (.int .i64 e.group))
    {i : Nat} {e : Ev} (h : l[i]? = some e) : w.rangeAt g (i * 6) e.cells := fun j v hv => by
  obtain ⟨c0, c1, c2, c3, c4, c5⟩ := hc i e h
  have hj : j < 6 := by simpa [Ev.cells] using (List.getElem?_eq_some_iff.1 hv).1
  have : j = 0 ∨ j = 1 ∨ j = 2 ∨ j = 3 ∨ j = 4 ∨ j = 5 := by omega
  rcases this with rfl | rfl | rfl | rfl | rfl | rfl <;> (simp [Ev.cells] at hv; subst hv; assumption)

theorem triple_of {es : List Ev} {a b c : Ev} {j k i : Nat} (h1 : es[j]? = some a) (h2 : es[k]? = some b) (h3 : es[i]? = some c) (hjk : j < k) (hki : k < i) : List.Sublist [a, b, c] es := by
  have p1 : List.Sublist [a, b] (es.take i) := by
    refine pair_of (i := k) ?_ ?_
    · rw [List.getElem?_take]; rw [if_pos hki]; exact h2
    · rw [List.take_take, Nat.min_eq_left (by omega)]
      refine List.mem_of_getElem? (i := j) ?_
      rw [List.getElem?_take, if_pos hjk]; exact h1
  have p2 : List.Sublist [c] (es.drop i) := List.singleton_sublist.2 (by
    obtain ⟨hi, rfl⟩ := List.getElem?_eq_some_iff.1 h3
    rw [List.drop_eq_getElem_cons hi]; exact List.mem_cons.2 (.inl rfl))
  have := p1.append p2
  rwa [List.take_append_drop] at this

end Go.Proofs.Ytfdafcnfefbcbab
