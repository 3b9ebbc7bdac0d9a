/-
  The contracts of CountShared, New and Threads.
-/
import Derived.Test.YtfdafcnfefbcbaaRead
namespace Go.Proofs.Ytfdafcnfefbcbaa
open Go.RowKit
set_option linter.unusedVariables false

/-- A row that holds something: its block, and its cells. -/
theorem owns_cells {w : World} {lo : Nat} {e : TypeId} {size : Nat} {a : Option Addr} {n cap : Nat} {xs : List Value} (h : w.ownsRow lo e size (.slice a n cap) n xs) (hn : 0 < n) :
    ∃ g, a = some ⟨g, 0, none⟩ ∧ lo ≤ g ∧ g < w.heap.size ∧ n ≤ cap ∧ cap ≤ maxLen ∧ (∀ j u, xs[j]? = some u → w.cell? ⟨g, j, none⟩ = some u) ∧ (∀ j, w.frozen? ⟨g, j, none⟩ = false) := by
  rcases h.2 with ⟨_, h0⟩ | ⟨g, cap', cur, hv, hb, hg, hnc, hcm, hcs, htk⟩
  · omega
  · simp at hv
    obtain ⟨rfl, rfl⟩ := hv
    refine ⟨g, rfl, hb, (Array.getElem?_eq_some_iff.1 hg).1, hnc, hcm, fun j u hu => ?_, fun j => frozen_of_row w g j cur e hg⟩
    rw [cell_of_row w g j cur e (0, 0) hg]
    rw [← htk, List.getElem?_take] at hu
    split at hu
    · simpa using hu
    · cases hu

theorem sharedOf_succ (r : List Pl.POp) (j : Nat) (h : j < r.length) : Pl.sharedOf (r.take (j + 1)) = Pl.sharedOf (r.take j) + if Pl.isShared r[j].kind then 1 else 0 := by
  rw [List.take_succ_eq_append_getElem h, Pl.sharedOf_append]
  by_cases e : Pl.isShared r[j].kind = true <;> simp [Pl.sharedOf, e]
theorem shared_le (r : List Pl.POp) (i : Nat) : Pl.sharedOf (r.take i) ≤ r.length := by
  unfold Pl.sharedOf
  exact Nat.le_trans (List.length_filter_le _ _) (by simp; omega)
theorem count_le (p : List (List Pl.POp)) (hq : ∀ r ∈ p, r.length ≤ 1000) (i : Nat) : Pl.countShared (p.take i) ≤ p.length * 1000 := by
  induction p generalizing i with
  | nil => simp [Pl.countShared]
  | cons x xs ih =>
    cases i with
    | zero => simp [Pl.countShared]
    | succ i =>
      have h1 := ih (fun r hr => hq r (by simp [hr])) i
      have h2 := shared_le x x.length
      have h3 := hq x (by simp)
      simp [Pl.countShared] at h2 ⊢
      omega

set_option maxRecDepth 100000 in
set_option maxHeartbeats 4000000 in
theorem countShared_any (p : List (List Pl.POp)) (a : Option Addr) (cap lo hi : Nat) (w : World) (hr : RowsIn w lo hi (.slice a p.length cap) p) (hh : hi ≤ w.heap.size) (hp : p.length ≤ 1000) (hq : ∀ r ∈ p, r.length ≤ 1000) :
    Calls Try.prog 49 #[.agg #[.slice a p.length cap]] w fun e w' => e = .returned (.int .i64 (Pl.countShared p : Int)) ∧ Below w.heap.size w w' := by
  obtain ⟨vs, ho, hrows⟩ := hr
  have HR : Hid (∀ (i : Nat) r, p[i]? = some r → ∃ u, vs[i]? = some u ∧ OwnsIn w lo hi 141 3 u r.length (rowCells r)) := hrows
  have HQ : Hid (∀ r ∈ p, r.length ≤ 1000) := hq
  clear hrows hq
  go_enter Try.func49, Try.ntmps49
  go_wp2
  go_loopw [3, 11] (fun c t wr => ∃ i : Nat, i ≤ p.length ∧ t = .int .i64 i ∧ c = .int .i64 (Pl.countShared (p.take i) : Int) ∧ Below w.heap.size w wr) (fun _ t _ => p.length - (intOf t).toNat)
  case atStart => exact ⟨0, Nat.zero_le _, rfl, by simp [Pl.countShared], (Below.refl _ _).alloc (Nat.le_refl _) _⟩
  case round =>
    obtain ⟨i, hi', rfl, rfl, hb⟩ := hrel
    by_cases hlt : i < p.length
    · obtain ⟨g, rfl, hg0, hg1, hnc, hcm, hcell, hfz⟩ := owns_cells ho.1 (by omega)
      obtain ⟨u, hu, hou⟩ := HR.out i p[i] (by simp [hlt])
      obtain ⟨b, capr, hv⟩ := owns_form hou.1
      subst hv
      have c0 := (hb.cell (p := ⟨g, i, none⟩) hg1).trans (hcell i _ hu)
      have hrl := HQ.out p[i] (List.getElem_mem _)
      have H1 : Hid _ := hcell
      clear hcell
      have HT : Hid (Pl.countShared (p.take (i + 1)) = Pl.countShared (p.take i) + Pl.sharedOf p[i]) := by
        show Pl.countShared (p.take (i + 1)) = Pl.countShared (p.take i) + Pl.sharedOf p[i]
        rw [List.take_succ_eq_append_getElem hlt, Pl.countShared_append]; simp [Pl.countShared]
      have hcs := count_le p (fun r hr => HQ.out r hr) i
      generalize p[i] = r at *
      go_wp2
      go_loopw [3, 17] (fun c t wq => ∃ j : Nat, j ≤ r.length ∧ t = .int .i64 j ∧ c = .int .i64 ((Pl.countShared (p.take i) + Pl.sharedOf (r.take j) : Nat) : Int) ∧ Below w.heap.size w wq) (fun _ t _ => r.length - (intOf t).toNat)
      case atStart => exact ⟨0, Nat.zero_le _, rfl, by simp [Pl.sharedOf], hb⟩
      case round =>
        obtain ⟨j, hj, rfl, rfl, hbq⟩ := hrel
        by_cases hltj : j < r.length
        · obtain ⟨g', rfl, hg0', hg1', hnc', hcm', hcell', hfz'⟩ := owns_cells hou.1 (by omega)
          obtain ⟨x0, x1, x2⟩ := rowCells_at r j r[j] (by simp [hltj])
          have d0 := (hbq.cell (p := ⟨g', j * 3, none⟩) hg1').trans (hcell' _ _ x0)
          have d1 := (hbq.cell (p := ⟨g', j * 3 + 1, none⟩) hg1').trans (hcell' _ _ x1)
          have d2 := (hbq.cell (p := ⟨g', j * 3 + 2, none⟩) hg1').trans (hcell' _ _ x2)
          clear hcell' x0 x1 x2
          have HS : Hid (Pl.sharedOf (r.take (j + 1)) = Pl.sharedOf (r.take j) + if Pl.isShared r[j].kind then 1 else 0) := sharedOf_succ r j hltj
          have hsl := shared_le r j
          generalize r[j] = o at *
          by_cases hso : Pl.isShared o.kind = true
          · go_wp2_with (go_at_call 78; refine (isShared_any _ _ _ _).mono ?_; rintro e w1 ⟨rfl, hw1⟩)
            go_roundw
            case rel => exact ⟨j + 1, by omega, by go_num, by rw [HS.out, if_pos hso]; go_num, hbq.trans (((Below.refl _ _).alloc (hbq.size) _).trans (hw1.mono (by simp; have := hbq.size; omega)))⟩
            case measure => simp [intOf]; omega
          · have hso' : Pl.isShared o.kind = false := by simpa using hso
            go_wp2_with (go_at_call 78; refine (isShared_any _ _ _ _).mono ?_; rintro e w1 ⟨rfl, hw1⟩)
            go_roundw
            case rel => exact ⟨j + 1, by omega, by go_num, by rw [HS.out, if_neg hso]; go_num, hbq.trans (((Below.refl _ _).alloc (hbq.size) _).trans (hw1.mono (by simp; have := hbq.size; omega)))⟩
            case measure => simp [intOf]; omega
        · go_wp2
          go_roundw
          case rel => exact ⟨i + 1, by omega, by go_num, by rw [HT.out]; rw [show j = r.length by omega, List.take_length], hbq⟩
          case measure => simp [intOf]; omega
    · go_wp2
      go_ret
      have e : i = p.length := by omega
      exact ⟨ret_int (by rw [e, List.take_length]), hb⟩

end Go.Proofs.Ytfdafcnfefbcbaa
