/-
  Package interleavekeep: the contracts of hang, sameInts, together.
-/
import Derived.Test.YtfdafcnfefbcbaaOrf
import Derived.Test.YtfdafcnfefbcbaaPla
import Derived.Test.YtfdafcnfefbcbaaPlay
import Derived.BigQuiet
import Derived.Deep.QuietTactic
namespace Go.Proofs.Ytfdafcnfefbcbaa
open Go.RowKit
set_option linter.unusedVariables false

set_option maxRecDepth 100000 in
set_option maxHeartbeats 1000000 in
theorem keepHang_any (x y : Ev) (w : World) : Calls Try.prog 35 #[x.val, y.val] w fun e w' => e = .returned (.bool (hangEv x y)) ∧ Below w.heap.size w w' := by
  obtain ⟨t, k, n, v, b, g⟩ := x
  obtain ⟨t', k', n', v', b', g'⟩ := y
  unfold Ev.val
  simp only
  cases h1 : (t == t')
  · cases h2 : ((n : Int) == (n' : Int))
    · have HR : Hid (hangEv ⟨t, k, n, v, b, g⟩ ⟨t', k', n', v', b', g'⟩ = false) := by
        show _ = _
        have : (n == n') = false := by simp at h2 ⊢; omega
        simp only [hangEv, h1, this]; rfl
      go_enter Try.func35, Try.ntmps35
      go_wp2
      go_ret
      exact ⟨ret_bool HR.out.symm, two_new w _ _⟩
    · have hnn : (n == n') = true := by simp at h2 ⊢; omega
      cases h3 : ((k : Int) != 114)
      · have h3' : (k != 114) = false := by simp at h3 ⊢; omega
        cases h4 : ((k' : Int) != 114)
        · have h4' : (k' != 114) = false := by simp at h4 ⊢; omega
          have HR : Hid (hangEv ⟨t, k, n, v, b, g⟩ ⟨t', k', n', v', b', g'⟩ = false) := by show _ = _; simp only [hangEv, h1, hnn, h3', h4']; rfl
          clear h3' h4' hnn
          go_enter Try.func35, Try.ntmps35
          go_wp2
          go_ret
          exact ⟨ret_bool HR.out.symm, two_new w _ _⟩
        · have h4' : (k' != 114) = true := by simp at h4 ⊢; omega
          have HR : Hid (hangEv ⟨t, k, n, v, b, g⟩ ⟨t', k', n', v', b', g'⟩ = true) := by show _ = _; simp only [hangEv, h1, hnn, h3', h4']; rfl
          clear h3' h4' hnn
          go_enter Try.func35, Try.ntmps35
          go_wp2
          go_ret
          exact ⟨ret_bool HR.out.symm, two_new w _ _⟩
      · have h3' : (k != 114) = true := by simp at h3 ⊢; omega
        have HR : Hid (hangEv ⟨t, k, n, v, b, g⟩ ⟨t', k', n', v', b', g'⟩ = true) := by show _ = _; simp only [hangEv, h1, hnn, h3']; rfl
        clear h3' hnn
        go_enter Try.func35, Try.ntmps35
        go_wp2
        go_ret
        exact ⟨ret_bool HR.out.symm, two_new w _ _⟩
  · have HR : Hid (hangEv ⟨t, k, n, v, b, g⟩ ⟨t', k', n', v', b', g'⟩ = true) := by show _ = _; simp only [hangEv, h1]; rfl
    go_enter Try.func35, Try.ntmps35
    go_wp2
    go_ret
    exact ⟨ret_bool HR.out.symm, two_new w _ _⟩

set_option maxRecDepth 100000 in
set_option maxHeartbeats 1000000 in
theorem sameInts_same (l : List Int) (a b : Option Addr) (cap cap' : Nat) (w : World) (ha : IntsIn w a l) (hb : IntsIn w b l) (hl : l.length ≤ 4000) :
    Calls Try.prog 62 #[.slice a l.length cap, .slice b l.length cap'] w fun e w' => e = .returned (.bool true) ∧ Below w.heap.size w w' := by
  have HA : Hid _ := ha
  have HB : Hid _ := hb
  clear ha hb
  go_enter Try.func62, Try.ntmps62
  go_wp2_with fail
  go_loopw [5] (fun v5 wr => ∃ i : Nat, i ≤ l.length ∧ v5 = .int .i64 (i : Int) ∧ Hid (Below w.heap.size w wr)) (fun v5 _ => l.length - (intOf v5).toNat)
  case atStart => exact ⟨0, Nat.zero_le _, rfl, (show Hid _ from Below.refl _ _)⟩
  case round =>
    obtain ⟨i, hi, rfl, H1⟩ := hrel
    by_cases hlt : i < l.length
    · obtain ⟨g, rfl, hg, hc⟩ := HA.out (by omega)
      obtain ⟨g', rfl, hg', hc'⟩ := HB.out (by omega)
      have c0 := (H1.out.cell (p := ⟨g, i, none⟩) hg).trans (hc i l[i] (List.getElem?_eq_getElem hlt))
      have c1 := (H1.out.cell (p := ⟨g', i, none⟩) hg').trans (hc' i l[i] (List.getElem?_eq_getElem hlt))
      have hlt' : (i : Int) < (l.length : Int) := by omega
      have hi0 : (0 : Int) ≤ (i : Int) := by omega
      clear hc hc'
      generalize l[i] = x at *
      go_wp2_with fail
      go_quiet (fail)
      go_wp2
      go_roundw
      case rel => exact ⟨i + 1, by omega, by go_num, (show Hid _ from below_drewN H1.out _)⟩
      case measure => simp [intOf]; omega
    · go_wp2
      go_ret
      exact ⟨rfl, H1.out⟩

/-- Two events in memory. -/
structure EvTwo (g i j : Nat) (x y : Ev) (w : World) : Prop where
  a : w.rangeAt g (i * 6) x.cells
  b : w.rangeAt g (j * 6) y.cells

theorem EvTwo.below {g i j : Nat} {x y : Ev} {w w' : World} {B : Nat} (h : EvTwo g i j x y w) (hb : Below B w w') (hg : g < B) : EvTwo g i j x y w' := ⟨range_below h.a hb hg, range_below h.b hb hg⟩

theorem evTwo_of {w : World} {g : Nat} {l : List Ev} (hc : ∀ (i : Nat) (e : Ev), l[i]? = some e → w.cell? ⟨g, i * 6, none⟩ = some (.int .i64 e.thread) ∧ w.cell? ⟨g, i * 6 + 1, none⟩ = some (.int .u8 (e.kind : Int)) ∧ w.cell? ⟨g, i * 6 + 2, none⟩ = some (.int .u8 (e.name : Int)) ∧ w.cell? ⟨g, i * 6 + 3, none⟩ = some (.int .i16 e.value) ∧ w.cell? ⟨g, i * 6 + 4, none⟩ = some (.int .i64 e.block) ∧ w.cell? ⟨g, i * 6 + 5, none⟩ = some (.int .i64 e.group))
    {i : Nat} {e : Ev} (h : l[i]? = some e) : w.rangeAt g (i * 6) e.cells := fun j v hv => by
  obtain ⟨c0, c1, c2, c3, c4, c5⟩ := hc i e h
  have hj : j < 6 := by simpa [Ev.cells] using (List.getElem?_eq_some_iff.1 hv).1
  have : j = 0 ∨ j = 1 ∨ j = 2 ∨ j = 3 ∨ j = 4 ∨ j = 5 := by omega
  rcases this with rfl | rfl | rfl | rfl | rfl | rfl <;> (simp [Ev.cells] at hv; subst hv; assumption)

theorem triple_of {es : List Ev} {a b c : Ev} {j k i : Nat} (h1 : es[j]? = some a) (h2 : es[k]? = some b) (h3 : es[i]? = some c) (hjk : j < k) (hki : k < i) : List.Sublist [a, b, c] es := by
  have p1 : List.Sublist [a, b] (es.take i) := by
    refine pair_of (i := k) ?_ ?_
    · rw [List.getElem?_take]; rw [if_pos hki]; exact h2
    · rw [List.take_take, Nat.min_eq_left (by omega)]
      refine List.mem_of_getElem? (i := j) ?_
      rw [List.getElem?_take, if_pos hjk]; exact h1
  have p2 : List.Sublist [c] (es.drop i) := List.singleton_sublist.2 (by
    obtain ⟨hi, rfl⟩ := List.getElem?_eq_some_iff.1 h3
    rw [List.drop_eq_getElem_cons hi]; exact List.mem_cons.2 (.inl rfl))
  have := p1.append p2
  rwa [List.take_append_drop] at this

set_option maxRecDepth 100000 in
set_option maxHeartbeats 1000000 in
theorem together_any (es : List Ev) (a : Option Addr) (cap : Nat) (w : World) (h : EvsIn w a es) (hT : Together es) (hl : es.length ≤ 4000) :
    Calls Try.prog 40 #[.slice a es.length cap] w fun e w' => e = .returned (.bool true) ∧ Below w.heap.size w w' := by
  have HA : Hid _ := h
  have HT : Hid _ := hT
  clear h hT
  go_enter Try.func40, Try.ntmps40
  go_wp2_with fail
  go_loopw [3] (fun v3 wr => ∃ i : Nat, i ≤ es.length ∧ v3 = .int .i64 (i : Int) ∧ Hid (Below w.heap.size w wr)) (fun v3 _ => es.length - (intOf v3).toNat)
  case atStart => exact ⟨0, Nat.zero_le _, rfl, (show Hid _ from Below.refl _ _)⟩
  case round =>
    obtain ⟨i, hi, rfl, H1⟩ := hrel
    by_cases hlt : i < es.length
    · have hlt' : (i : Int) < (es.length : Int) := by omega
      have hi0 : (0 : Int) ≤ (i : Int) := by omega
      go_wp2_with fail
      go_loopw [4] (fun v4 wr => ∃ j : Nat, (j ≤ i) ∧ v4 = .int .i64 (j : Int) ∧ Hid (Below w.heap.size w wr)) (fun v4 _ => i - (intOf v4).toNat)
      case atStart => exact ⟨0, Nat.zero_le _, rfl, (show Hid _ from H1.out)⟩
      case round =>
        clear H1
        obtain ⟨j, hj, rfl, H1⟩ := hrel
        by_cases hji : j + 1 < i
        · obtain ⟨g, rfl, hg, hc⟩ := HA.out (by omega)
          obtain ⟨-, -, -, -, -, c0⟩ := hc i es[i] (List.getElem?_eq_getElem hlt)
          obtain ⟨-, -, -, -, -, c1⟩ := hc j es[j] (List.getElem?_eq_getElem (by omega))
          obtain ⟨-, -, -, -, -, c2⟩ := hc (i - 1) es[i - 1] (List.getElem?_eq_getElem (by omega))
          have k0 := (H1.out.cell (p := ⟨g, i * 6 + 5, none⟩) hg).trans c0
          have k1 := (H1.out.cell (p := ⟨g, j * 6 + 5, none⟩) hg).trans c1
          have k2 := (H1.out.cell (p := ⟨g, (i - 1) * 6 + 5, none⟩) hg).trans c2
          have hjl : (j : Int) < (es.length : Int) := by omega
          have hj0 : (0 : Int) ≤ (j : Int) := by omega
          have hji' : (j : Int) + 1 < (i : Int) := by omega
          obtain ⟨q, hq⟩ : ∃ q, i = q + 1 := ⟨i - 1, by omega⟩
          have hq1 : ((q + 1 : Nat) : Int) - 1 = (q : Int) := by omega
          have HTT : Hid (es[j].group = es[i].group → es[i - 1].group = es[i].group) := fun e =>
            (HT.out es[j] es[i - 1] es[i] (triple_of (j := j) (k := i - 1) (i := i) (List.getElem?_eq_getElem (by omega)) (List.getElem?_eq_getElem (by omega)) (List.getElem?_eq_getElem hlt) (by omega) (by omega)) e).trans e
          clear hc c0 c1 c2
          generalize es[j].group = gj at *
          generalize es[i].group = gi at *
          generalize es[i - 1].group = gq at *
          subst hq
          simp only [Nat.add_sub_cancel] at k2
          have hql : (q : Int) < (es.length : Int) := by omega
          have hq0 : (0 : Int) ≤ (q : Int) := by omega
          cases hgg : (gj == gi)
          · go_wp2_with fail
            go_quiet (fail)
            go_wp2
            go_roundw
            case rel => exact ⟨j + 1, by omega, by go_num, (show Hid _ from below_drewN H1.out _)⟩
            case measure => simp [intOf]; omega
          · have hqq : (gq != gi) = false := by
              have := HTT.out (by simpa using hgg)
              simp [this]
            go_wp2_with fail
            go_quiet (fail)
            go_wp2
            go_roundw
            case rel => exact ⟨j + 1, by omega, by go_num, (show Hid _ from below_drewN H1.out _)⟩
            case measure => simp [intOf]; omega
        · have hji' : ¬ ((j : Int) + 1 < (i : Int)) := by omega
          go_wp2
          go_roundw
          case rel => exact ⟨i + 1, by omega, by go_num, (show Hid _ from H1.out)⟩
          case measure => simp [intOf]; omega
    · have hlt' : ¬ (i : Int) < (es.length : Int) := by omega
      go_wp2
      go_ret
      exact ⟨rfl, H1.out⟩

end Go.Proofs.Ytfdafcnfefbcbaa
