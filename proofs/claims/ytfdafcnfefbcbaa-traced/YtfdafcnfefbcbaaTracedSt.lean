/-
  Plain, for Traced: variables and locks behind a step; how they lie in memory.
-/
import Derived.Test.YtfdafcnfefbcbaaTracedPl
import Derived.Test.YtfdafcnfefbcbaaLockStep
namespace Go.Proofs.Ytfdafcnfefbcbaa
open Go.RowKit
set_option linter.unusedVariables false

theorem var_setVar (S : St) (v : Nat) (hv : v < 4) (x : Int) (i : Nat) (hi : i < 4) : (S.setVar v x).var i = if i = v then x else S.var i := by
  have h1 : v = 0 ∨ v = 1 ∨ v = 2 ∨ v = 3 := by omega
  have h2 : i = 0 ∨ i = 1 ∨ i = 2 ∨ i = 3 := by omega
  rcases h1 with rfl | rfl | rfl | rfl <;> rcases h2 with rfl | rfl | rfl | rfl <;> rfl

theorem failed_other (p : List (List Pl.POp)) (S : St) (n : Nat) (o : Pl.POp) (hn : n < 4) (u : Nat) (hu : u < 4) (hne : u ≠ n) : ((goneTo p n (shared S n o).1).th u).failed = (S.th u).failed := by
  unfold goneTo
  rw [th_setTh _ _ _ hn u hu, if_neg hne, (shared_th S n o hn).2.2 u hu hne]

theorem held_with (t : Th) (l x l' : Nat) (hl : l = 0 ∨ l = 1) (hl' : l' = 0 ∨ l' = 1) : (t.withHeld l x).held l' = if l' = l then x else t.held l' := by
  rcases hl with rfl | rfl <;> rcases hl' with rfl | rfl <;> simp [Th.withHeld, Th.held]

theorem tells_read (p : List (List Pl.POp)) (S : St) (n : Nat) (o : Pl.POp) (hn : n < 4) (hk : o.kind = 114) : (shared S n o).2 = S.var (varOf o.name) ∧ (∀ i, (goneTo p n (shared S n o).1).var i = S.var i) ∧ ∀ u l, u < 4 → ((goneTo p n (shared S n o).1).th u).held l = (S.th u).held l := by
  refine ⟨by simp [shared, hk], fun i => ?_, fun u l hu => ?_⟩
  · rw [gone_var]; simp only [shared, hk, if_true]; exact var_setTh _ _ _ _
  · rw [gone_held p n hn _ u hu]
    simp only [shared, hk, if_true]
    rw [th_setTh _ _ _ hn u hu]
    split
    · rename_i h; subst h; unfold Th.held; split <;> rfl
    · rfl

theorem tells_write (p : List (List Pl.POp)) (S : St) (n : Nat) (o : Pl.POp) (hn : n < 4) (hk : o.kind = 119) : (∀ i, i < 4 → (goneTo p n (shared S n o).1).var i = if i = varOf o.name then (shared S n o).2 else S.var i) ∧ ∀ u l, u < 4 → ((goneTo p n (shared S n o).1).th u).held l = (S.th u).held l := by
  have e1 : (shared S n o).1 = (S.setVar (varOf o.name) (S.th n).reg).setTh n (S.th n) := by simp [shared, hk]
  have e2 : (shared S n o).2 = (S.th n).reg := by simp [shared, hk]
  refine ⟨fun i hi => ?_, fun u l hu => ?_⟩
  · rw [gone_var, e1, e2, var_setTh, var_setVar _ _ (varOf_lt _) _ _ hi]
  · rw [gone_held p n hn _ u hu, e1, th_setTh _ _ _ hn u hu]
    split
    · rename_i h; subst h; rfl
    · rw [th_setVar]

theorem tells_lock (p : List (List Pl.POp)) (S : St) (n : Nat) (o : Pl.POp) (hn : n < 4) (hk : o.kind = 108) : (shared S n o).2 = (((S.th n).held (lockOf o.name) + 1 : Nat) : Int) ∧ (∀ i, (goneTo p n (shared S n o).1).var i = S.var i) ∧ ∀ u l, u < 4 → l < 2 → ((goneTo p n (shared S n o).1).th u).held l = if u = n ∧ l = lockOf o.name then (S.th n).held (lockOf o.name) + 1 else (S.th u).held l := by
  have e1 : (shared S n o).1 = S.setTh n ((S.th n).withHeld (lockOf o.name) ((S.th n).held (lockOf o.name) + 1)) := by simp [shared, hk]
  refine ⟨by simp [shared, hk], fun i => ?_, fun u l hu hl => ?_⟩
  · rw [gone_var, e1]; exact var_setTh _ _ _ _
  · rw [gone_held p n hn _ u hu, e1, th_setTh _ _ _ hn u hu]
    by_cases h : u = n
    · subst h
      rw [if_pos rfl, held_with _ _ _ _ (lockOf_two _) (by omega)]
      by_cases h2 : l = lockOf o.name
      · simp [h2]
      · simp [h2]
    · simp [h]

theorem tells_unlock (p : List (List Pl.POp)) (S : St) (n : Nat) (o : Pl.POp) (hn : n < 4) (hk : o.kind = 117) (hp : 0 < (S.th n).held (lockOf o.name)) : (shared S n o).2 = ((S.th n).held (lockOf o.name) : Int) - 1 ∧ (∀ i, (goneTo p n (shared S n o).1).var i = S.var i) ∧ ∀ u l, u < 4 → l < 2 → ((goneTo p n (shared S n o).1).th u).held l = if u = n ∧ l = lockOf o.name then (S.th n).held (lockOf o.name) - 1 else (S.th u).held l := by
  have e1 : (shared S n o).1 = S.setTh n ((S.th n).withHeld (lockOf o.name) ((S.th n).held (lockOf o.name) - 1)) := by simp [shared, hk, hp]
  refine ⟨by simp [shared, hk, hp]; omega, fun i => ?_, fun u l hu hl => ?_⟩
  · rw [gone_var, e1]; exact var_setTh _ _ _ _
  · rw [gone_held p n hn _ u hu, e1, th_setTh _ _ _ hn u hu]
    by_cases h : u = n
    · subst h
      rw [if_pos rfl, held_with _ _ _ _ (lockOf_two _) (by omega)]
      by_cases h2 : l = lockOf o.name
      · simp [h2]
      · simp [h2]
    · simp [h]

theorem tells_fail (p : List (List Pl.POp)) (S : St) (n : Nat) (o : Pl.POp) (hn : n < 4) (hk : o.kind = 117) (hp : (S.th n).held (lockOf o.name) = 0) : (shared S n o).2 = -1 ∧ (∀ i, (goneTo p n (shared S n o).1).var i = S.var i) ∧ (∀ u l, u < 4 → ((goneTo p n (shared S n o).1).th u).held l = (S.th u).held l) ∧ ((goneTo p n (shared S n o).1).th n).failed = true := by
  have e1 : (shared S n o).1 = S.setTh n ⟨(S.th n).pos, true, (S.th n).reg, (S.th n).h0, (S.th n).h1⟩ := by simp [shared, hk, hp]
  refine ⟨by simp [shared, hk, hp], fun i => ?_, fun u l hu => ?_, ?_⟩
  · rw [gone_var, e1]; exact var_setTh _ _ _ _
  · rw [gone_held p n hn _ u hu, e1, th_setTh _ _ _ hn u hu]
    split
    · rename_i h; subst h; unfold Th.held; split <;> rfl
    · rfl
  · unfold goneTo
    rw [th_setTh _ _ _ hn n hn, if_pos rfl]
    refine settle_failed _ _ _ ?_
    rw [e1, th_setTh _ _ _ hn n hn, if_pos rfl]

def StoreAt (w : World) (A : Nat) (vs : Nat → Int) : Prop := ∀ i, i < 4 → w.cell? ⟨A, i, none⟩ = some (.int .i16 (vs i)) ∧ w.frozen? ⟨A, i, none⟩ = false

theorem StoreAt.below {w w' : World} {A N : Nat} {vs : Nat → Int} (h : StoreAt w A vs) (hb : Below N w w') (hN : A < N) : StoreAt w' A vs := fun i hi =>
  ⟨(hb.cell (p := ⟨A, i, none⟩) hN).trans (h i hi).1, (hb.frozen (p := ⟨A, i, none⟩) hN).trans (h i hi).2⟩
theorem StoreAt.put {w : World} {A : Nat} {vs : Nat → Int} (h : StoreAt w A vs) {j : Nat} (hj : j < 4) (v : Int) : StoreAt (w.setCell ⟨A, j, none⟩ (.int .i16 v)) A (fun i => if i = j then v else vs i) := fun i hi => by
  refine ⟨?_, by rw [World.frozen?_setCell]; exact (h i hi).2⟩
  by_cases he : i = j
  · subst he
    simp only [if_true]
    exact World.cell?_setCell_same _ _ _ (h i hi).1
  · simp only [he, if_false]
    exact (World.cell?_setCell_other _ _ _ _ (by simp [])).trans (h i hi).1
theorem StoreAt.to {w : World} {A : Nat} {vs vs' : Nat → Int} (h : StoreAt w A vs) (he : ∀ i, i < 4 → vs i = vs' i) : StoreAt w A vs' := fun i hi => by rw [← he i hi]; exact h i hi
theorem HeldAt.to {w : World} {B : Nat} {h h' : Nat → Nat → Nat} (hh : HeldAt w B h) (he : ∀ t k, t < 4 → k < 2 → h t k = h' t k) : HeldAt w B h' := fun t k ht hk => by rw [← he t k ht hk]; exact hh t k ht hk
theorem StoreAt.apart {w w' : World} {A B C : Nat} {vs : Nat → Int} (h : StoreAt w A vs) (ha : Apart w w' B C) (hA : A < w.heap.size) (h1 : A ≠ B) (h2 : A ≠ C) : StoreAt w' A vs := fun i hi =>
  ⟨(ha.cell (a := ⟨A, i, none⟩) hA h1 h2).trans (h i hi).1, (ha.frozen (a := ⟨A, i, none⟩) hA h1 h2).trans (h i hi).2⟩

/-- How the loop of Traced stands: the variables, the locks and who has gone, as the state has them. -/
structure TrAt (X wr : World) (S : St) (g : Nat → Bool) : Prop where
  st : StoreAt wr X.heap.size S.var
  hd : HeldAt wr (X.heap.size + 1) (fun t k => (S.th t).held k)
  gn : GoneAt wr (X.heap.size + 1 + 1) g
  gf : ∀ t, t < 4 → g t = true → (S.th t).failed = true
  bl : Below X.heap.size X wr
  size : X.heap.size + 3 ≤ wr.heap.size

theorem TrAt.below {X wr wr' : World} {S : St} {g : Nat → Bool} (h : TrAt X wr S g) {N : Nat} (hb : Below N wr wr') (hN : X.heap.size + 3 ≤ N) : TrAt X wr' S g :=
  ⟨h.st.below hb (by omega), h.hd.below hb (by omega), h.gn.below hb (by omega), h.gf, h.bl.trans (hb.mono (by omega)), Nat.le_trans h.size hb.size⟩

theorem TrAt.putVar {X wr : World} {S S' : St} {g : Nat → Bool} (h : TrAt X wr S g) {j : Nat} (hj : j < 4) (v : Int) (hv : ∀ i, i < 4 → S'.var i = if i = j then v else S.var i) (hh : ∀ u l, u < 4 → (S'.th u).held l = (S.th u).held l) (hf : ∀ t, t < 4 → g t = true → (S'.th t).failed = true) : TrAt X (wr.setCell ⟨X.heap.size, j, none⟩ (.int .i16 v)) S' g :=
  ⟨(h.st.put hj v).to (fun i hi => (hv i hi).symm), (HeldAt.other h.hd (show X.heap.size ≠ X.heap.size + 1 by omega) _ _).to (fun t k ht hk => (hh t k ht).symm), GoneAt.other h.gn (show X.heap.size ≠ X.heap.size + 1 + 1 by omega) _ _, hf, h.bl.setCell (Nat.le_refl _) _, by simpa using h.size⟩

theorem TrAt.locks {X wr wr' : World} {S S' : St} {g g' : Nat → Bool} {h' : Nat → Nat → Nat} (h : TrAt X wr S g) (hb : Below (X.heap.size + 1) wr wr') (ha : Apart wr wr' (X.heap.size + 1) (X.heap.size + 1 + 1)) (hd : HeldAt wr' (X.heap.size + 1) h') (gn : GoneAt wr' (X.heap.size + 1 + 1) g') (hv : ∀ i, S'.var i = S.var i) (hh : ∀ t k, t < 4 → k < 2 → h' t k = (S'.th t).held k) (hf : ∀ t, t < 4 → g' t = true → (S'.th t).failed = true) : TrAt X wr' S' g' :=
  ⟨(h.st.below hb (by omega)).to (fun i _ => (hv i).symm), hd.to hh, gn, hf, h.bl.trans (hb.mono (by omega)), Nat.le_trans h.size hb.size⟩

end Go.Proofs.Ytfdafcnfefbcbaa
