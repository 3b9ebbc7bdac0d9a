/-
 Several texts of ours in one: AllSt, AllTk.
-/
import Derived.Test.YtfdafcnfefbcbabGreatRft
import Derived.Test.YtfdafcnfefbcbabGreatAppTwo
/-
 The law's World in memory: its rows, and the lists that came out.
-/
namespace Go.Proofs.YtfdafcnfefbcbabGreat
open Go.RowKit
set_option linter.unusedVariables false

/-- A list that came out, and the number that its owner wrote over it. -/
abbrev Rec := Value × Int

def recCells : List Rec → List Value
 | [] => []
 | r :: t => r.1 :: .int .i64 r.2 :: recCells t

theorem recCells_append : ∀ (a b : List Rec), recCells (a ++ b) = recCells a ++ recCells b
 | [], b => rfl
 | x :: a, b => by
  show x.1 :: .int .i64 x.2 :: recCells (a ++ b) = _
  rw [recCells_append a b]; rfl

theorem recCells_length : ∀ (a : List Rec), (recCells a).length = a.length * 2
 | [] => rfl
 | x :: a => by
  show (recCells a).length + 1 + 1 = (a.length + 1) * 2
  rw [recCells_length a]; omega

theorem recCells_at : ∀ (a : List Rec) (i : Nat) (r : Rec), a[i]? = some r → (recCells a)[i * 2]? = some r.1 ∧ (recCells a)[i * 2 + 1]? = some (.int .i64 r.2)
 | [], i, r, h => by simp at h
 | x :: a, 0, r, h => by
  simp at h
  subst h
  exact ⟨rfl, rfl⟩
 | x :: a, i + 1, r, h => by
  have := recCells_at a i r (by simpa using h)
  rw [show (i + 1) * 2 = i * 2 + 1 + 1 by omega]
  exact this

/-- Every place of the list reads as its owner wrote it. -/
def RecOk (w : World) (mk : Int → List Value) (sz : Nat) (D : Nat → Prop) (r : Rec) : Prop :=
 ∃ a len cap, r.1 = .slice a len cap ∧ len ≤ 1073741824 ∧ (0 < len → ∃ g, a = some ⟨g, 0, none⟩ ∧ D g ∧ ∀ j, j < len → w.rangeAt g (j * sz) (mk r.2))

theorem range_block {w w' : World} {g o : Nat} {vs : List Value} (h : w.rangeAt g o vs) (hb : w'.heap[g]? = w.heap[g]?) : w'.rangeAt g o vs := fun j v hv => (World.cell?_of_block (w := w) (a := ⟨g, o + j, none⟩) hb).trans (h j v hv)

theorem RecOk.of {w w' : World} {mk : Int → List Value} {sz : Nat} {D D' : Nat → Prop} {r : Rec} (h : RecOk w mk sz D r) (hD : ∀ q, D q → D' q ∧ w'.heap[q]? = w.heap[q]?) : RecOk w' mk sz D' r := by
 obtain ⟨a, len, cap, e, hl, hc⟩ := h
 refine ⟨a, len, cap, e, hl, fun h0 => ?_⟩
 obtain ⟨g, e2, hg, hr⟩ := hc h0
 exact ⟨g, e2, (hD g hg).1, fun j hj => range_block (hr j hj) (hD g hg).2⟩

/-- A row of the World: its slice's address and room. -/
structure Rw where
 a : Option Addr
 cap : Nat

def fld : Nat → Nat
 | 0 => 0
 | 1 => 1
 | i + 2 => i + 3

theorem fld_inj : ∀ i j, fld i = fld j → i = j
 | 0, 0, _ => rfl
 | 0, 1, h => by simp [fld] at h
 | 0, j + 2, h => by simp [fld] at h
 | 1, 0, h => by simp [fld] at h
 | 1, 1, _ => rfl
 | 1, j + 2, h => by simp [fld] at h
 | i + 2, 0, h => by simp [fld] at h
 | i + 2, 1, h => by simp [fld] at h
 | i + 2, j + 2, h => by simp [fld] at h; omega

theorem fld_two : ∀ i, fld i ≠ 2
 | 0 => by simp [fld]
 | 1 => by simp [fld]
 | i + 2 => by simp [fld]

def upd {α : Type} (f : Nat → α) (i : Nat) (v : α) : Nat → α := fun k => if k = i then v else f k
theorem upd_at {α : Type} (f : Nat → α) (i : Nat) (v : α) : upd f i v i = v := if_pos rfl
theorem upd_off {α : Type} (f : Nat → α) {i k : Nat} (v : α) (h : k ≠ i) : upd f i v k = f k := if_neg h

/-- The World's own blocks: its struct and its five rows, apart from one another and from the data. -/
structure WRows (ty sz : Nat → Nat) (w : World) (wb : Nat) (D : Nat → Prop) (nl : Nat) (n : Nat → Nat) (cs : Nat → List Value) (rw : Nat → Rw) : Prop where
 cell : ∀ i, i < 5 → w.cell? ⟨wb, fld i, none⟩ = some (.slice (rw i).a (n i) (rw i).cap)
 cnt : w.cell? ⟨wb, 2, none⟩ = some (.int .i64 (nl : Int))
 fz : ∀ j, w.frozen? ⟨wb, j, none⟩ = false
 own : ∀ i, i < 5 → w.ownsRow (wb + 1) (ty i) (sz i) (.slice (rw i).a (n i) (rw i).cap) (n i) (cs i)
 dis : ∀ i j, i < 5 → j < 5 → i ≠ j → ∀ q, ownOf (rw i).a = some q → ownOf (rw j).a ≠ some q
 dO : ¬ D wb ∧ ∀ i, i < 5 → ∀ q, ownOf (rw i).a = some q → ¬ D q
 dlt : ∀ q, D q → q < w.heap.size
 lt : wb < w.heap.size

theorem WRows.row {ty sz : Nat → Nat} {w : World} {wb : Nat} {D : Nat → Prop} {nl : Nat} {n : Nat → Nat} {cs : Nat → List Value} {rw : Nat → Rw} (h : WRows ty sz w wb D nl n cs rw) {i : Nat} (hi : i < 5) {q : Nat} (hq : ownOf (rw i).a = some q) : wb < q ∧ q < w.heap.size := by
 have := (h.own i hi).lt q (by rw [own_of]; exact hq)
 omega

/-- Nothing of the World's own has turned. -/
theorem WRows.of {ty sz : Nat → Nat} {w w' : World} {wb : Nat} {D D' : Nat → Prop} {nl : Nat} {n : Nat → Nat} {cs : Nat → List Value} {rw : Nat → Rw} (h : WRows ty sz w wb D nl n cs rw) (hb : w'.heap[wb]? = w.heap[wb]?) (hr : ∀ i, i < 5 → ∀ q, ownOf (rw i).a = some q → w'.heap[q]? = w.heap[q]?) (hz : w.heap.size ≤ w'.heap.size)
  (hD : ∀ q, D' q → q < w'.heap.size ∧ q ≠ wb ∧ ∀ i, i < 5 → ownOf (rw i).a ≠ some q) : WRows ty sz w' wb D' nl n cs rw :=
 ⟨fun i hi => (World.cell?_of_block (w := w) (a := ⟨wb, fld i, none⟩) hb).trans (h.cell i hi), (World.cell?_of_block (w := w) (a := ⟨wb, 2, none⟩) hb).trans h.cnt, fun j => (World.frozen?_of_block (w := w) (a := ⟨wb, j, none⟩) hb).trans (h.fz j),
   fun i hi => ownsRow_of_block (h.own i hi) (fun q hq => hr i hi q (by rw [← own_of]; exact hq)), h.dis, ⟨fun hd => (hD wb hd).2.1 rfl, fun i hi q hq hd => (hD q hd).2.2 i hi hq⟩, fun q hq => (hD q hq).1, Nat.lt_of_lt_of_le h.lt hz⟩

theorem WRows.clear {ty sz : Nat → Nat} {w : World} {wb : Nat} {D : Nat → Prop} {nl : Nat} {n : Nat → Nat} {cs : Nat → List Value} {rw : Nat → Rw} (h : WRows ty sz w wb D nl n cs rw) {q : Nat} (hq : D q) : q < w.heap.size ∧ q ≠ wb ∧ ∀ i, i < 5 → ownOf (rw i).a ≠ some q :=
 ⟨h.dlt q hq, fun e => h.dO.1 (e ▸ hq), fun i hi e => h.dO.2 i hi q e hq⟩

theorem WRows.below {ty sz : Nat → Nat} {w w' : World} {wb : Nat} {D : Nat → Prop} {nl : Nat} {n : Nat → Nat} {cs : Nat → List Value} {rw : Nat → Rw} (h : WRows ty sz w wb D nl n cs rw) (hb : Below w.heap.size w w') : WRows ty sz w' wb D nl n cs rw :=
 h.of (hb.block wb h.lt) (fun i hi q hq => hb.block q (h.row hi hq).2) hb.size (fun q hq => by have := h.clear hq; exact ⟨Nat.lt_of_lt_of_le this.1 hb.size, this.2⟩)

/-- The number of the lists that came out. -/
theorem WRows.count {ty sz : Nat → Nat} {w : World} {wb : Nat} {D : Nat → Prop} {nl : Nat} {n : Nat → Nat} {cs : Nat → List Value} {rw : Nat → Rw} (h : WRows ty sz w wb D nl n cs rw) (m : Nat) : WRows ty sz (w.setCell ⟨wb, 2, none⟩ (.int .i64 (m : Int))) wb D m n cs rw :=
 ⟨fun i hi => (World.cell?_setCell_other _ _ _ _ (fun x => fld_two i (by simpa using (congrArg Addr.off x).symm))).trans (h.cell i hi), World.cell?_setCell_same _ _ _ h.cnt, fun j => by rw [World.frozen?_setCell]; exact h.fz j,
   fun i hi => ownsRow_of_block (h.own i hi) (fun q hq => heap_far _ _ _ _ (by have := (h.own i hi).lt q hq; show q ≠ wb; omega)), h.dis, h.dO, fun q hq => by rw [World.size_setCell]; exact h.dlt q hq, by rw [World.size_setCell]; exact h.lt⟩

/-- All but some blocks are as they were. -/
structure Fr (O : Nat → Prop) (w w' : World) : Prop where
 os : w'.os = w.os
 tape : w'.tape = w.tape
 output : w'.output = w.output
 size : w.heap.size ≤ w'.heap.size
 block : ∀ k, k < w.heap.size → ¬ O k → w'.heap[k]? = w.heap[k]?

theorem Fr.refl (O : Nat → Prop) (w : World) : Fr O w w := ⟨rfl, rfl, rfl, Nat.le_refl _, fun _ _ _ => rfl⟩
theorem Fr.trans {O O' P : Nat → Prop} {w w1 w2 : World} (h : Fr O w w1) (g : Fr O' w1 w2) (hO : ∀ k, k < w.heap.size → ¬ P k → ¬ O k ∧ ¬ O' k) : Fr P w w2 :=
 ⟨g.os.trans h.os, g.tape.trans h.tape, g.output.trans h.output, Nat.le_trans h.size g.size, fun k hk hP => (g.block k (Nat.lt_of_lt_of_le hk h.size) (hO k hk hP).2).trans (h.block k hk (hO k hk hP).1)⟩
theorem Fr.of {O : Nat → Prop} {w w' : World} (h : Below w.heap.size w w') : Fr O w w' := ⟨h.os, h.tape, h.output, h.size, fun k hk _ => h.block k hk⟩
theorem Fr.set {O : Nat → Prop} (w : World) (b j : Nat) (v : Value) (hb : O b) : Fr O w (w.setCell ⟨b, j, none⟩ v) := ⟨rfl, rfl, rfl, by rw [World.size_setCell]; exact Nat.le_refl _, fun k _ h => heap_far _ _ _ _ (fun e => h (e ▸ hb))⟩
theorem Fr.below {O : Nat → Prop} {w w' : World} {B : Nat} (h : Fr O w w') (hO : ∀ k, O k → B ≤ k) (hB : B ≤ w.heap.size) : Below B w w' :=
 ⟨h.os, h.tape, h.output, h.size, fun k hk => h.block k (by omega) (fun ho => by have := hO k ho; omega)⟩

/-- One more in a row of the World. -/
theorem WRows.push {ty sz : Nat → Nat} {w w2 : World} {wb : Nat} {D : Nat → Prop} {nl : Nat} {n : Nat → Nat} {cs : Nat → List Value} {rw : Nat → Rw} {i gg cap1 : Nat} {news : List Value} (h : WRows ty sz w wb D nl n cs rw) (hi : i < 5) (obj : Obj)
  (hg : (w.alloc obj).grownBy w2 (ownOf (rw i).a)) (ho : w2.ownsRow (wb + 1) (ty i) (sz i) (.slice (some ⟨gg, 0, none⟩) (n i + 1) cap1) (n i + 1) (cs i ++ news)) (hat : ownOf (rw i).a = some gg ∨ gg = w.heap.size + 1) :
  WRows ty sz (w2.setCell ⟨wb, fld i, none⟩ (.slice (some ⟨gg, 0, none⟩) (n i + 1) cap1)) wb D nl (upd n i (n i + 1)) (upd cs i (cs i ++ news)) (upd rw i ⟨some ⟨gg, 0, none⟩, cap1⟩) ∧
  Fr (fun q => q = wb ∨ ownOf (rw i).a = some q) w (w2.setCell ⟨wb, fld i, none⟩ (.slice (some ⟨gg, 0, none⟩) (n i + 1) cap1)) := by
 have hz : w.heap.size + 1 ≤ w2.heap.size := by have := hg.size; simp at this; exact this
 have hb : ∀ k, k < w.heap.size → ownOf (rw i).a ≠ some k → w2.heap[k]? = w.heap[k]? := fun k hk hne => (hg.block k (by simp; omega) (fun e => hne e.symm)).trans (Below.heap_alloc w obj k hk)
 have hlt := h.lt
 have hab : w2.heap[wb]? = w.heap[wb]? := hb wb hlt (fun e => by have := h.row hi e; omega)
 have hgg := ho.lt gg rfl
 have far : ∀ q, q ≠ wb → (w2.setCell ⟨wb, fld i, none⟩ (.slice (some ⟨gg, 0, none⟩) (n i + 1) cap1)).heap[q]? = w2.heap[q]? := fun q hq => heap_far _ _ _ _ hq
 have hfresh : ∀ j, j < 5 → j ≠ i → ∀ q, ownOf (rw j).a = some q → gg ≠ q := fun j hj hji q hq e => by
  subst e
  rcases hat with e | e
  ·exact h.dis i j hi hj (fun x => hji x.symm) gg e hq
  ·have := (h.row hj hq).2; omega
 refine ⟨⟨fun j hj => ?_, ?_, fun j => ?_, fun j hj => ?_, fun j k hj hk hjk q hq hq2 => ?_, ⟨h.dO.1, fun j hj q hq hd => ?_⟩, fun q hq => ?_, ?_⟩, ⟨hg.os, hg.tape, hg.output, by rw [World.size_setCell]; omega, fun k hk hO => ?_⟩⟩
 ·by_cases e : j = i
  ·subst e
   rw [upd_at, upd_at]
   exact World.cell?_setCell_same _ _ _ ((World.cell?_of_block (w := w) (a := ⟨wb, fld j, none⟩) hab).trans (h.cell j hj))
  ·rw [upd_off _ _ e, upd_off _ _ e]
   exact (World.cell?_setCell_other _ _ _ _ (fun x => e (fld_inj _ _ (by simpa using (congrArg Addr.off x).symm)))).trans ((World.cell?_of_block (w := w) (a := ⟨wb, fld j, none⟩) hab).trans (h.cell j hj))
 ·exact (World.cell?_setCell_other _ _ _ _ (fun x => fld_two i (by simpa using congrArg Addr.off x))).trans ((World.cell?_of_block (w := w) (a := ⟨wb, 2, none⟩) hab).trans h.cnt)
 ·rw [World.frozen?_setCell]; exact (World.frozen?_of_block (w := w) (a := ⟨wb, j, none⟩) hab).trans (h.fz j)
 ·by_cases e : j = i
  ·subst e
   rw [upd_at, upd_at, upd_at]
   exact ownsRow_of_block ho (fun q hq => far q (by have := (ho.lt q hq).1; omega))
  ·rw [upd_off _ _ e, upd_off _ _ e, upd_off _ _ e]
   refine ownsRow_of_block (h.own j hj) (fun q hq => ?_)
   have hq' : ownOf (rw j).a = some q := by rw [← own_of]; exact hq
   have hlt2 := h.row hj hq'
   exact (far q (by omega)).trans (hb q hlt2.2 (fun e2 => h.dis i j hi hj (fun x => e x.symm) q e2 hq'))
 ·by_cases e1 : j = i
  ·subst e1
   rw [upd_at] at hq
   rw [upd_off _ _ (fun x => hjk x.symm)] at hq2
   have : gg = q := by simpa [ownOf] using hq
   exact hfresh k hk (fun x => hjk x.symm) q hq2 this
  ·rw [upd_off _ _ e1] at hq
   by_cases e2 : k = i
   ·subst e2
    rw [upd_at] at hq2
    have : gg = q := by simpa [ownOf] using hq2
    exact hfresh j hj e1 q hq this
   ·rw [upd_off _ _ e2] at hq2
    exact h.dis j k hj hk hjk q hq hq2
 ·by_cases e : j = i
  ·subst e
   rw [upd_at] at hq
   have : gg = q := by simpa [ownOf] using hq
   subst this
   rcases hat with e | e
   ·exact h.dO.2 j hj gg e hd
   ·have := h.dlt gg hd; omega
  ·rw [upd_off _ _ e] at hq
   exact h.dO.2 j hj q hq hd
 ·rw [World.size_setCell]; have := h.dlt q hq; omega
 ·rw [World.size_setCell]; omega
 ·exact (far k (fun e => hO (.inl e))).trans (hb k hk (fun e => hO (.inr e)))

/-- A cell of an owned row is written. -/
theorem owns_set {w : World} {base : Nat} {e : TypeId} {size n cap g : Nat} {xs : List Value} (h : w.ownsRow base e size (.slice (some ⟨g, 0, none⟩) n cap) n xs) {j : Nat} (hj : j < n * size) (u : Value) : (w.setCell ⟨g, j, none⟩ u).ownsRow base e size (.slice (some ⟨g, 0, none⟩) n cap) n (xs.set j u) := by
 obtain ⟨h1, h2⟩ := h
 refine ⟨by rw [List.length_set]; exact h1, ?_⟩
 rcases h2 with ⟨h2, -⟩ | ⟨g', cap', cur, hv, hb, hh, hn, hc, hs, ht⟩
 ·cases h2
 ·right
  cases hv
  refine ⟨g, cap, cur.setIfInBounds j u, rfl, hb, ?_, hn, hc, by rw [Array.size_setIfInBounds]; exact hs, ?_⟩
  ·simp only [World.setCell, Array.getElem?_modify]
   rw [if_pos trivial, hh]
   rfl
  ·rw [Array.toList_setIfInBounds, List.take_set, ht]

def rep (mc : List Value) : Nat → List Value
 | 0 => []
 | k + 1 => rep mc k ++ mc

theorem rep_length (mc : List Value) : ∀ k, (rep mc k).length = k * mc.length
 | 0 => by simp [rep]
 | k + 1 => by rw [rep, List.length_append, rep_length mc k, Nat.add_mul, Nat.one_mul]

theorem rep_at (mc : List Value) : ∀ (k j i : Nat), j < k → i < mc.length → (rep mc k)[j * mc.length + i]? = mc[i]?
 | 0, j, i, h, _ => by omega
 | k + 1, j, i, h, hi => by
  rw [rep]
  have hl := rep_length mc k
  by_cases e : j = k
  ·subst e
   rw [List.getElem?_append_right (by omega), hl, show j * mc.length + i - j * mc.length = i by omega]
  ·have h1 : (j + 1) * mc.length ≤ k * mc.length := Nat.mul_le_mul_right _ (by omega)
   rw [Nat.add_mul, Nat.one_mul] at h1
   rw [List.getElem?_append_left (by omega)]
   exact rep_at mc k j i (by omega) hi

theorem owns_rec {w : World} {base : Nat} {et : TypeId} {esz : Nat} {la : Option Addr} {n cap : Nat} {mc : List Value} (h : w.ownsRow base et esz (.slice la n cap) n (rep mc n)) (hm : mc.length = esz) (hn : n ≤ 1073741824) {NB : Nat → Prop} (hNB : ∀ q, ownOf la = some q → NB q) (m : Int) : RecOk w (fun _ => mc) esz NB (.slice la n cap, m) := by
 refine ⟨la, n, cap, rfl, hn, fun h0 => ?_⟩
 obtain ⟨g, cap', e, -, -⟩ := h.form h0
 cases e
 refine ⟨g, rfl, hNB g rfl, fun j hj i v hv => ?_⟩
 have hi : i < mc.length := (List.getElem?_eq_some_iff.1 hv).1
 have h1 : (j + 1) * esz ≤ n * esz := Nat.mul_le_mul_right _ (by omega)
 rw [Nat.add_mul, Nat.one_mul] at h1
 rw [h.cellAt _ (by omega), ← hm, rep_at mc n j i hj hi]
 exact hv

/-- How the World stands while a list is put behind: k times it was, of recs it was told. -/
structure TkAt (ty sz : Nat → Nat) (f esz : Nat) (et : TypeId) (mc : List Value) (m : Int) (w0 wr : World) (wb : Nat) (D : Nat → Prop) (nl : Nat) (n : Nat → Nat) (cs : Nat → List Value) (rw0 : Nat → Rw) (la : Option Addr) (base len : Nat) (la' : Option Addr) (lcap' : Nat) (recs : List Rec) (rw : Nat → Rw) (NB : Nat → Prop) : Prop where
 rows : WRows ty sz wr wb D nl (upd n f (n f + recs.length)) (upd cs f (cs f ++ recCells recs)) rw
 own : wr.ownsRow base et esz (.slice la' len lcap') len (rep mc len)
 pend : ∀ r ∈ recs, r.2 = m ∧ RecOk wr (fun _ => mc) esz NB r ∧ ∃ a l c, r.1 = .slice a l c ∧ l ≤ len
 nb : ∀ q, NB q → q < wr.heap.size ∧ (ownOf la = some q ∨ w0.heap.size ≤ q) ∧ ¬ D q ∧ q ≠ wb ∧ ∀ i, i < 5 → ownOf (rw i).a ≠ some q
 nbl : ∀ q, ownOf la' = some q → NB q
 fr : Fr (fun q => q = wb ∨ ownOf (rw0 f).a = some q ∨ ownOf la = some q) w0 wr
 rwk : ∀ i, i < 5 → i ≠ f → rw i = rw0 i
 rwf : ownOf (rw f).a = ownOf (rw0 f).a ∨ ∃ q, ownOf (rw f).a = some q ∧ w0.heap.size ≤ q
 f5 : f < 5
 mz : mc.length = esz
 lim : len ≤ 1073741824

theorem upd_upd {α : Type} (g : Nat → α) (i : Nat) (u v : α) : upd (upd g i u) i v = upd g i v := by
 funext k
 by_cases h : k = i
 ·subst h; rw [upd_at, upd_at]
 ·rw [upd_off _ _ h, upd_off _ _ h, upd_off _ _ h]

/-- The list is told. -/
theorem TkAt.tell {ty sz : Nat → Nat} {f esz : Nat} {et : TypeId} {mc : List Value} {m : Int} {w0 wr w2 : World} {wb : Nat} {D : Nat → Prop} {nl : Nat} {n : Nat → Nat} {cs : Nat → List Value} {rw0 : Nat → Rw} {la : Option Addr} {base len : Nat} {la' : Option Addr} {lcap' : Nat} {recs : List Rec} {rw : Nat → Rw} {NB : Nat → Prop} {gg cap1 : Nat}
  (h : TkAt ty sz f esz et mc m w0 wr wb D nl n cs rw0 la base len la' lcap' recs rw NB) (obj : Obj) (hg : (wr.alloc obj).grownBy w2 (ownOf (rw f).a)) (ho : w2.ownsRow (wb + 1) (ty f) (sz f) (.slice (some ⟨gg, 0, none⟩) (n f + recs.length + 1) cap1) (n f + recs.length + 1) (cs f ++ recCells recs ++ [.slice la' len lcap', .int .i64 m])) (hat : ownOf (rw f).a = some gg ∨ gg = wr.heap.size + 1) :
  TkAt ty sz f esz et mc m w0 (w2.setCell ⟨wb, fld f, none⟩ (.slice (some ⟨gg, 0, none⟩) (n f + recs.length + 1) cap1)) wb D nl n cs rw0 la base len la' lcap' (recs ++ [(.slice la' len lcap', m)]) (upd rw f ⟨some ⟨gg, 0, none⟩, cap1⟩) NB := by
 have hf := h.f5
 have hp := h.rows.push (i := f) (news := [.slice la' len lcap', .int .i64 m]) (gg := gg) (cap1 := cap1) (w2 := w2) hf obj hg (by rw [upd_at, upd_at]; exact ho) hat
 obtain ⟨hw, hfr⟩ := hp
 rw [upd_at, upd_upd, upd_at, upd_upd] at hw
 rw [upd_at] at hfr
 have hlen : (recs ++ [((.slice la' len lcap', m) : Rec)]).length = recs.length + 1 := by simp
 have hrc : cs f ++ recCells (recs ++ [((.slice la' len lcap', m) : Rec)]) = cs f ++ recCells recs ++ [.slice la' len lcap', .int .i64 m] := by rw [recCells_append, List.append_assoc]; rfl
 have hnbk : ∀ q, NB q → (w2.setCell ⟨wb, fld f, none⟩ (.slice (some ⟨gg, 0, none⟩) (n f + recs.length + 1) cap1)).heap[q]? = wr.heap[q]? := fun q hq => by
  obtain ⟨h1, -, -, h4, h5⟩ := h.nb q hq
  exact hfr.block q h1 (fun ho => by rcases ho with e | e; exact h4 e; exact h5 f hf e)
 have hgfresh : ∀ q, NB q → gg ≠ q := fun q hq e => by
  subst e
  obtain ⟨h1, -, -, -, h5⟩ := h.nb gg hq
  rcases hat with e | e
  ·exact h5 f hf e
  ·omega
 have hown : (w2.setCell ⟨wb, fld f, none⟩ (.slice (some ⟨gg, 0, none⟩) (n f + recs.length + 1) cap1)).ownsRow base et esz (.slice la' len lcap') len (rep mc len) := ownsRow_of_block h.own (fun q hq => hnbk q (h.nbl q (by rw [← own_of]; exact hq)))
 refine ⟨by rw [hlen, hrc]; exact hw, hown, fun r hr => ?_, fun q hq => ?_, h.nbl, ?_, fun i hi hif => by rw [upd_off _ _ hif]; exact h.rwk i hi hif, ?_, hf, h.mz, h.lim⟩
 ·rcases List.mem_append.1 hr with hr | hr
  ·obtain ⟨h1, h2, h3⟩ := h.pend r hr
   exact ⟨h1, h2.of (fun q hq => ⟨hq, hnbk q hq⟩), h3⟩
  ·rw [List.mem_singleton.1 hr]
   exact ⟨rfl, owns_rec hown h.mz h.lim h.nbl m, la', len, lcap', rfl, Nat.le_refl _⟩
 ·obtain ⟨h1, h2, h3, h4, h5⟩ := h.nb q hq
  refine ⟨Nat.lt_of_lt_of_le h1 hfr.size, h2, h3, h4, fun i hi e => ?_⟩
  by_cases hif : i = f
  ·subst hif
   rw [upd_at] at e
   exact hgfresh q hq (by simpa [ownOf] using e)
  ·rw [upd_off _ _ hif] at e
   exact h5 i hi e
 ·refine h.fr.trans hfr (fun k hk hP => ⟨hP, fun hO => ?_⟩)
  rcases hO with e | e
  ·exact hP (.inl e)
  ·rcases h.rwf with e2 | ⟨q, e2, hq⟩
   ·exact hP (.inr (.inl (by rw [← e2]; exact e)))
   ·rw [e2] at e; cases e; omega
 ·rw [upd_at]
  rcases hat with e | e
  ·rcases h.rwf with e2 | ⟨q, e2, hq⟩
   ·left; rw [← e2, e]; rfl
   ·right; exact ⟨gg, rfl, by rw [e2] at e; cases e; exact hq⟩
  ·right; exact ⟨gg, rfl, by have := h.fr.size; omega⟩

theorem TkAt.told {ty sz : Nat → Nat} {f esz : Nat} {et : TypeId} {mc : List Value} {m : Int} {w0 wr w2 : World} {wb : Nat} {D : Nat → Prop} {nl : Nat} {n : Nat → Nat} {cs : Nat → List Value} {rw0 : Nat → Rw} {la : Option Addr} {base len : Nat} {la' : Option Addr} {lcap' : Nat} {recs : List Rec} {rw : Nat → Rw} {NB : Nat → Prop} {gg cap1 N : Nat} {cc : List Value}
  (h : TkAt ty sz f esz et mc m w0 wr wb D nl n cs rw0 la base len la' lcap' recs rw NB) (hN : n f + recs.length = N) (hcc : cs f ++ recCells recs = cc) (obj : Obj) (hg : (wr.alloc obj).grownBy w2 (Value.slice (rw f).a N (rw f).cap).ownBlock) (ho : w2.ownsRow (wb + 1) (ty f) (sz f) (.slice (some ⟨gg, 0, none⟩) (N + 1) cap1) (N + 1) (cc ++ [.slice la' len lcap', .int .i64 m])) (hat : (Value.slice (rw f).a N (rw f).cap).ownBlock = some gg ∨ gg = wr.heap.size + 1) :
  TkAt ty sz f esz et mc m w0 (w2.setCell ⟨wb, fld f, none⟩ (.slice (some ⟨gg, 0, none⟩) (N + 1) cap1)) wb D nl n cs rw0 la base len la' lcap' (recs ++ [(.slice la' len lcap', m)]) (upd rw f ⟨some ⟨gg, 0, none⟩, cap1⟩) NB := by
 subst hN
 subst hcc
 rw [own_of] at hg hat
 exact h.tell obj hg ho hat

theorem TkAt.row {ty sz : Nat → Nat} {f esz : Nat} {et : TypeId} {mc : List Value} {m : Int} {w0 wr : World} {wb : Nat} {D : Nat → Prop} {nl : Nat} {n : Nat → Nat} {cs : Nat → List Value} {rw0 : Nat → Rw} {la : Option Addr} {base len : Nat} {la' : Option Addr} {lcap' : Nat} {recs : List Rec} {rw : Nat → Rw} {NB : Nat → Prop}
  (h : TkAt ty sz f esz et mc m w0 wr wb D nl n cs rw0 la base len la' lcap' recs rw NB) : ∃ N cc, n f + recs.length = N ∧ cs f ++ recCells recs = cc ∧ wr.cell? ⟨wb, fld f, none⟩ = some (.slice (rw f).a N (rw f).cap) ∧ wr.ownsRow (wb + 1) (ty f) (sz f) (.slice (rw f).a N (rw f).cap) N cc ∧ (∀ j, wr.frozen? ⟨wb, j, none⟩ = false) ∧ wb < wr.heap.size ∧ (Value.slice (rw f).a N (rw f).cap).ownBlock ≠ some wb := by
 have h1 := h.rows.cell f h.f5
 have h2 := h.rows.own f h.f5
 rw [upd_at] at h1
 rw [upd_at, upd_at] at h2
 exact ⟨_, _, rfl, rfl, h1, h2, h.rows.fz, h.rows.lt, fun e => by have := (h2.lt _ e).1; omega⟩

/-- The list is put behind once more. -/
theorem TkAt.more {ty sz : Nat → Nat} {f esz : Nat} {et : TypeId} {mc : List Value} {m : Int} {w0 wr w5 : World} {wb : Nat} {D : Nat → Prop} {nl : Nat} {n : Nat → Nat} {cs : Nat → List Value} {rw0 : Nat → Rw} {la : Option Addr} {base len : Nat} {la' : Option Addr} {lcap' : Nat} {recs : List Rec} {rw : Nat → Rw} {NB : Nat → Prop} {gg cap1 : Nat}
  (h : TkAt ty sz f esz et mc m w0 wr wb D nl n cs rw0 la base len la' lcap' recs rw NB) (obj : Obj) (hg : (wr.alloc obj).grownBy w5 (ownOf la')) (ho : w5.ownsRow base et esz (.slice (some ⟨gg, 0, none⟩) (len + 1) cap1) (len + 1) (rep mc len ++ mc)) (hat : ownOf la' = some gg ∨ (gg = wr.heap.size + 1 ∧ (wr.alloc obj).grownBy w5 none)) (hl : len + 1 ≤ 1073741824) :
  TkAt ty sz f esz et mc m w0 w5 wb D nl n cs rw0 la base (len + 1) (some ⟨gg, 0, none⟩) cap1 recs rw (fun q => NB q ∨ q = gg) := by
 have hz : wr.heap.size + 1 ≤ w5.heap.size := by have := hg.size; simp at this; exact this
 have hb : ∀ k, k < wr.heap.size → ownOf la' ≠ some k → w5.heap[k]? = wr.heap[k]? := fun k hk hne => (hg.block k (by simp; omega) (fun e => hne e.symm)).trans (Below.heap_alloc wr obj k hk)
 have hgg := ho.lt gg rfl
 have hwb : w5.heap[wb]? = wr.heap[wb]? := hb wb h.rows.lt (fun e => (h.nb wb (h.nbl wb e)).2.2.2.1 rfl)
 have hrow : ∀ i, i < 5 → ∀ q, ownOf (rw i).a = some q → w5.heap[q]? = wr.heap[q]? := fun i hi q hq => hb q (h.rows.row hi hq).2 (fun e => (h.nb q (h.nbl q e)).2.2.2.2 i hi hq)
 have hD : ∀ q, D q → w5.heap[q]? = wr.heap[q]? := fun q hq => hb q (h.rows.dlt q hq) (fun e => (h.nb q (h.nbl q e)).2.2.1 hq)
 have hnew : ¬ NB gg → gg = wr.heap.size + 1 := fun hn => by
  rcases hat with e | e
  ·exact absurd (h.nbl gg e) hn
  ·exact e.1
 refine ⟨h.rows.of hwb hrow (by omega) (fun q hq => ?_), ho, fun r hr => ?_, fun q hq => ?_, fun q hq => .inr (by simpa [ownOf] using hq.symm), ?_, h.rwk, h.rwf, h.f5, h.mz, hl⟩
 ·have := h.rows.clear hq
  exact ⟨by omega, this.2⟩
 ·obtain ⟨h1, ⟨a, l, c, e, hl1, hc⟩, a', l', c', e', hl'⟩ := h.pend r hr
  rw [e] at e'
  cases e'
  refine ⟨h1, ⟨a, l, c, e, hl1, fun h0 => ?_⟩, a, l, c, e, by omega⟩
  obtain ⟨q, e2, hq, hcells⟩ := hc h0
  by_cases hown : ownOf la' = some q
  ·rcases hat with e3 | ⟨e3, hgn⟩
   ·rw [hown] at e3
    cases e3
    refine ⟨gg, e2, .inl hq, fun j hj i v hv => ?_⟩
    have hi := (List.getElem?_eq_some_iff.1 hv).1
    have hm := h.mz
    have h3 : (j + 1) * esz ≤ (len + 1) * esz := Nat.mul_le_mul_right _ (by omega)
    rw [Nat.add_mul, Nat.one_mul] at h3
    have hi' : i < esz := by rw [← hm]; exact hi
    rw [ho.cellAt _ (by omega)]
    have := rep_at mc (len + 1) j i (by omega) hi
    rw [hm] at this
    show (rep mc len ++ mc)[j * esz + i]? = some v
    exact this.trans hv
   ·refine ⟨q, e2, .inl hq, fun j hj => range_block (hcells j hj) ?_⟩
    have hlt := (h.nb q hq).1
    exact (hgn.block q (by simp; omega) (by simp)).trans (Below.heap_alloc wr obj q hlt)
  ·exact ⟨q, e2, .inl hq, fun j hj => range_block (hcells j hj) (hb q (h.nb q hq).1 hown)⟩
 ·rcases hq with hq | hq
  ·obtain ⟨h1, h2, h3, h4, h5⟩ := h.nb q hq
   exact ⟨by omega, h2, h3, h4, h5⟩
  ·subst hq
   by_cases hn : NB q
   ·obtain ⟨h1, h2, h3, h4, h5⟩ := h.nb q hn
    exact ⟨by omega, h2, h3, h4, h5⟩
   ·have e := hnew hn
    have hs0 := h.fr.size
    refine ⟨hgg.2, .inr (by omega), fun hd => by have := h.rows.dlt q hd; omega, fun e2 => by have := h.rows.lt; omega, fun i hi e2 => by have := (h.rows.row hi e2).2; omega⟩
 ·refine h.fr.trans (O' := fun q => ownOf la' = some q) ⟨hg.os, hg.tape, hg.output, by omega, fun k hk hO => hb k hk hO⟩ (fun k hk hP => ⟨hP, fun e => ?_⟩)
  obtain ⟨-, h2, -⟩ := h.nb k (h.nbl k e)
  rcases h2 with e2 | e2
  ·exact hP (.inr (.inr e2))
  ·omega

end Go.Proofs.YtfdafcnfefbcbabGreat
