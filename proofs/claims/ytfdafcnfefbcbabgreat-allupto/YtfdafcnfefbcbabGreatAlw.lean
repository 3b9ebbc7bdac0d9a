/-
 Several texts of ours in one: AllWorld, AllWok, AllSet, AllBoth, AllGrown.
-/
import Derived.Test.YtfdafcnfefbcbabGreatAlp
import Derived.Test.YtfdafcnfefbcbabGreatLwv
import Derived.Test.YtfdafcnfefbcbabGreatAllLooks
import Derived.Test.YtfdafcnfefbcbabGreatAllInts
/-
 The law's World: programs, lists, what keeps.
-/
set_option maxRecDepth 100000
set_option maxHeartbeats 4000000
namespace Go.Proofs.YtfdafcnfefbcbabGreat
open Go.RowKit
set_option linter.unusedVariables false

theorem ProgIn.of {w w' : World} {lo hi b : Nat} {p : List (List Pl.POp)} (h : ProgIn w lo hi b p) (hb : ∀ q, lo ≤ q → q < hi → w'.heap[q]? = w.heap[q]?) : ProgIn w' lo hi b p := by
 obtain ⟨h1, h2, a, cap, h3, vs, h4, h5⟩ := h
 refine ⟨h1, h2, a, cap, (World.cell?_of_block (w := w) (a := ⟨b, 0, none⟩) (hb b h1 h2)).trans h3, vs, ⟨ownsRow_of_block h4.1 (fun q hq => hb q (h4.1.lt q hq).1 (h4.2 q hq)), h4.2⟩, fun i r hr => ?_⟩
 obtain ⟨u, hu, ho⟩ := h5 i r hr
 exact ⟨u, hu, ownsRow_of_block ho.1 (fun q hq => hb q (ho.1.lt q hq).1 (ho.2 q hq)), ho.2⟩

theorem YAt.of {w w' : World} {lo hi bY la lcap : Nat} {p : List (List Pl.POp)} (h : YAt w lo hi bY la lcap p) (hb : ∀ q, lo ≤ q → q < hi → w'.heap[q]? = w.heap[q]?) : YAt w' lo hi bY la lcap p := by
 refine ⟨(World.cell?_of_block (w := w) (a := ⟨bY, 0, none⟩) (hb bY h.b0 h.b1)).trans h.y0, fun n hn => ?_, h.rows, h.p1, h.p4, h.b0, h.b1, h.l0, h.l1⟩
 obtain ⟨s, h1, h2⟩ := h.ls n hn
 exact ⟨s, (World.cell?_of_block (w := w) (a := ⟨la, n, none⟩) (hb la h.l0 h.l1)).trans h1, h2⟩

theorem TwoAt.of {w w' : World} {lo hi b bx bY la lcap : Nat} {p : List (List Pl.POp)} (h : TwoAt w lo hi b bx bY la lcap p) (hb : ∀ q, lo ≤ q → q < hi → w'.heap[q]? = w.heap[q]?) : TwoAt w' lo hi b bx bY la lcap p :=
 ⟨(World.cell?_of_block (w := w) (a := ⟨b, 0, none⟩) (hb b h.b0 h.b1)).trans h.c0, (World.cell?_of_block (w := w) (a := ⟨b, 1, none⟩) (hb b h.b0 h.b1)).trans h.c1, h.px.of hb, h.py.of hb, h.b0, h.b1⟩

theorem SrtAt.off {w w' : World} {ab : Nat} {at_ : Bool} {L : List Res} {N : Nat} {ra : Option Addr} {rcap : Nat} (h : SrtAt w ab at_ L N ra rcap) (hb : w'.heap[ab]? = w.heap[ab]?) (hr : 0 < N → ∀ q, ownOf ra = some q → w'.heap[q]? = w.heap[q]?) (hz : w.heap.size ≤ w'.heap.size) : SrtAt w' ab at_ L N ra rcap := by
 refine ⟨(World.cell?_of_block (w := w) (a := ⟨ab, 0, none⟩) hb).trans h.c0, (World.cell?_of_block (w := w) (a := ⟨ab, 1, none⟩) hb).trans h.c1, h.len, Nat.lt_of_lt_of_le h.lt hz, fun h0 => ?_⟩
 obtain ⟨g, e, h1, h2, h3, h4⟩ := h.row h0
 have hg : w'.heap[g]? = w.heap[g]? := hr h0 g (by rw [e]; rfl)
 exact ⟨g, e, h1, Nat.lt_of_lt_of_le h2 hz, fun j => (World.frozen?_of_block (w := w) (a := ⟨g, j, none⟩) hg).trans (h3 j), fun i x hx => range_block (h4 i x hx) hg⟩

/-- A program of the World, with what all its whole schedules come to, once it was asked for. -/
structure Pr where
 p : List (List Pl.POp)
 b : Nat
 bx : Nat
 bY : Nat
 la : Nat
 lcap : Nat
 lo : Nat
 hi : Nat
 al : Option Nat
 ra : Option Addr
 rcap : Nat

def Pr.ptr (P : Pr) : Value := .pointer (some ⟨P.b, 0, none⟩)
def Pr.all (P : Pr) : Value := .pointer (P.al.map fun ab => ⟨ab, 0, none⟩)

structure PrOk (w : World) (D : Nat → Prop) (P : Pr) : Prop where
 two : TwoAt w P.lo P.hi P.b P.bx P.bY P.la P.lcap P.p
 tiny : Tiny P.p
 ten : Pl.countShared P.p ≤ 10
 hi : P.hi ≤ w.heap.size
 dt : ∀ q, P.lo ≤ q → q < P.hi → D q
 al : ∀ ab, P.al = some ab → D ab ∧ (0 < (outcomesOf P.p).length → ∀ q, ownOf P.ra = some q → D q) ∧ SrtAt w ab (checkOf P.p).isNone (outcomesOf P.p) (outcomesOf P.p).length P.ra P.rcap

theorem PrOk.of {w w' : World} {D D' : Nat → Prop} {P : Pr} (h : PrOk w D P) (hD : ∀ q, D q → D' q ∧ w'.heap[q]? = w.heap[q]?) (hz : w.heap.size ≤ w'.heap.size) : PrOk w' D' P :=
 ⟨h.two.of fun q h1 h2 => (hD q (h.dt q h1 h2)).2, h.tiny, h.ten, Nat.le_trans h.hi hz, fun q h1 h2 => (hD q (h.dt q h1 h2)).1, fun ab e => by
   obtain ⟨h1, h2, h3⟩ := h.al ab e
   exact ⟨(hD ab h1).1, fun h0 q hq => (hD q (h2 h0 q hq)).1, h3.off (hD ab h1).2 (fun h0 q hq => (hD q (h2 h0 q hq)).2) hz⟩⟩

/-- The World. -/
structure WInv (ty sz : Nat → Nat) (mI mE mR : Int → List Value) (X : Nat → Prop) (Z w : World) (wb : Nat) (D : Nat → Prop) (nl : Nat) (n : Nat → Nat) (cs : Nat → List Value) (rw : Nat → Rw) (ps : List Pr) (I E R : List Rec) : Prop where
 rows : WRows ty sz w wb D nl n cs rw
 n0 : n 0 = ps.length ∧ cs 0 = ps.map Pr.ptr
 n1 : n 1 = ps.length ∧ cs 1 = ps.map Pr.all
 n2 : n 2 = I.length ∧ cs 2 = recCells I
 n3 : n 3 = E.length ∧ cs 3 = recCells E
 n4 : n 4 = R.length ∧ cs 4 = recCells R
 pr : ∀ P ∈ ps, PrOk w D P
 rI : ∀ r ∈ I, RecOk w mI 1 D r
 rE : ∀ r ∈ E, RecOk w mE 6 D r
 rR : ∀ r ∈ R, RecOk w mR 5 D r
 ex : ∀ q, X q → D q ∧ w.heap[q]? = Z.heap[q]?

theorem WInv.below {ty sz : Nat → Nat} {mI mE mR : Int → List Value} {X : Nat → Prop} {Z : World} {w w' : World} {wb : Nat} {D : Nat → Prop} {nl : Nat} {n : Nat → Nat} {cs : Nat → List Value} {rw : Nat → Rw} {ps : List Pr} {I E R : List Rec} (h : WInv ty sz mI mE mR X Z w wb D nl n cs rw ps I E R) (hb : Below w.heap.size w w') : WInv ty sz mI mE mR X Z w' wb D nl n cs rw ps I E R := by
 have hD : ∀ q, D q → D q ∧ w'.heap[q]? = w.heap[q]? := fun q hq => ⟨hq, hb.block q (h.rows.dlt q hq)⟩
 exact ⟨h.rows.below hb, h.n0, h.n1, h.n2, h.n3, h.n4, fun P hP => (h.pr P hP).of hD hb.size, fun r hr => (h.rI r hr).of hD, fun r hr => (h.rE r hr).of hD, fun r hr => (h.rR r hr).of hD, fun q hx => ⟨(hD q (h.ex q hx).1).1, (hD q (h.ex q hx).1).2.trans (h.ex q hx).2⟩⟩

/-- What is new joins the data. -/
theorem WInv.fresh {ty sz : Nat → Nat} {mI mE mR : Int → List Value} {X : Nat → Prop} {Z : World} {w w' : World} {wb : Nat} {D : Nat → Prop} {nl : Nat} {n : Nat → Nat} {cs : Nat → List Value} {rw : Nat → Rw} {ps : List Pr} {I E R : List Rec} (h : WInv ty sz mI mE mR X Z w wb D nl n cs rw ps I E R) (hb : Below w.heap.size w w') : WInv ty sz mI mE mR X Z w' wb (fun q => D q ∨ (w.heap.size ≤ q ∧ q < w'.heap.size)) nl n cs rw ps I E R := by
 have hD : ∀ q, D q → (D q ∨ (w.heap.size ≤ q ∧ q < w'.heap.size)) ∧ w'.heap[q]? = w.heap[q]? := fun q hq => ⟨.inl hq, hb.block q (h.rows.dlt q hq)⟩
 refine ⟨h.rows.of (hb.block wb h.rows.lt) (fun i hi q hq => hb.block q (h.rows.row hi hq).2) hb.size (fun q hq => ?_), h.n0, h.n1, h.n2, h.n3, h.n4, fun P hP => (h.pr P hP).of hD hb.size, fun r hr => (h.rI r hr).of hD, fun r hr => (h.rE r hr).of hD, fun r hr => (h.rR r hr).of hD, fun q hx => ⟨(hD q (h.ex q hx).1).1, (hD q (h.ex q hx).1).2.trans (h.ex q hx).2⟩⟩
 rcases hq with hq | ⟨h1, h2⟩
 ·have := h.rows.clear hq
  exact ⟨Nat.lt_of_lt_of_le this.1 hb.size, this.2⟩
 ·exact ⟨h2, fun e => by have := h.rows.lt; omega, fun i hi e => by have := (h.rows.row hi e).2; omega⟩

theorem TkAt.keep {ty sz : Nat → Nat} {f esz : Nat} {et : TypeId} {mc : List Value} {m : Int} {w0 wr : World} {wb : Nat} {D : Nat → Prop} {nl nl0 : Nat} {n : Nat → Nat} {cs : Nat → List Value} {rw0 : Nat → Rw} {la : Option Addr} {base len : Nat} {la' : Option Addr} {lcap' : Nat} {recs : List Rec} {rw : Nat → Rw} {NB : Nat → Prop}
  (h : TkAt ty sz f esz et mc m w0 wr wb D nl n cs rw0 la base len la' lcap' recs rw NB) (h0 : WRows ty sz w0 wb D nl0 n cs rw0) (hq : ∀ q, ownOf la = some q → ¬ D q) : (∀ q, D q → (D q ∨ NB q) ∧ wr.heap[q]? = w0.heap[q]?) ∧ WRows ty sz wr wb (fun q => D q ∨ NB q) nl (upd n f (n f + recs.length)) (upd cs f (cs f ++ recCells recs)) rw := by
 refine ⟨fun q hd => ⟨.inl hd, h.fr.block q (h0.dlt q hd) (fun hO => ?_)⟩, h.rows.of rfl (fun _ _ _ _ => rfl) (Nat.le_refl _) (fun q hd => ?_)⟩
 ·rcases hO with e | e | e
  ·exact h0.dO.1 (e ▸ hd)
  ·exact h0.dO.2 f h.f5 q e hd
  ·exact hq q e hd
 ·rcases hd with hd | hd
  ·exact h.rows.clear hd
  ·obtain ⟨h1, -, -, h4, h5⟩ := h.nb q hd
   exact ⟨h1, h4, h5⟩

theorem TkAt.recsOk {ty sz : Nat → Nat} {f esz : Nat} {et : TypeId} {mc : List Value} {m : Int} {w0 wr : World} {wb : Nat} {D : Nat → Prop} {nl : Nat} {n : Nat → Nat} {cs : Nat → List Value} {rw0 : Nat → Rw} {la : Option Addr} {base len : Nat} {la' : Option Addr} {lcap' : Nat} {recs : List Rec} {rw : Nat → Rw} {NB : Nat → Prop} {mk : Int → List Value}
  (h : TkAt ty sz f esz et mc m w0 wr wb D nl n cs rw0 la base len la' lcap' recs rw NB) (hmk : mk m = mc) : ∀ r ∈ recs, RecOk wr mk esz (fun q => D q ∨ NB q) r := fun r hr => by
 obtain ⟨h1, ⟨a, l, c, e, hl, hc⟩, -⟩ := h.pend r hr
 refine ⟨a, l, c, e, hl, fun h0 => ?_⟩
 obtain ⟨g, e2, hg, hr2⟩ := hc h0
 exact ⟨g, e2, .inr hg, fun j hj => by rw [h1, hmk]; exact hr2 j hj⟩

theorem WInv.ints {ty sz : Nat → Nat} {mI mE mR : Int → List Value} {X : Nat → Prop} {Z : World} {w w' : World} {wb : Nat} {D : Nat → Prop} {nl nl' : Nat} {n : Nat → Nat} {cs : Nat → List Value} {rw rw' : Nat → Rw} {ps : List Pr} {I E R : List Rec} {et : TypeId} {mc : List Value} {m : Int} {la : Option Addr} {base len : Nat} {la' : Option Addr} {lcap' : Nat} {recs : List Rec} {NB : Nat → Prop} (h : WInv ty sz mI mE mR X Z w wb D nl n cs rw ps I E R) (ht : TkAt ty sz 2 1 et mc m w w' wb D nl' n cs rw la base len la' lcap' recs rw' NB) (hq : ∀ q, ownOf la = some q → ¬ D q) (hmk : mI m = mc) :
  WInv ty sz mI mE mR X Z w' wb (fun q => D q ∨ NB q) nl' (upd n 2 (n 2 + recs.length)) (upd cs 2 (cs 2 ++ recCells recs)) rw' ps (I ++ recs) E R := by
 obtain ⟨hD, hw⟩ := ht.keep h.rows hq
 refine ⟨hw, by rw [upd_off _ _ (by omega), upd_off _ _ (by omega)]; exact h.n0, by rw [upd_off _ _ (by omega), upd_off _ _ (by omega)]; exact h.n1, by rw [upd_at, upd_at, h.n2.1, h.n2.2, recCells_append, List.length_append]; exact ⟨rfl, rfl⟩, by rw [upd_off _ _ (by omega), upd_off _ _ (by omega)]; exact h.n3, by rw [upd_off _ _ (by omega), upd_off _ _ (by omega)]; exact h.n4, fun P hP => (h.pr P hP).of hD ht.fr.size, fun r hr => ?_, fun r hr => (h.rE r hr).of hD, fun r hr => (h.rR r hr).of hD, fun q hx => ⟨(hD q (h.ex q hx).1).1, (hD q (h.ex q hx).1).2.trans (h.ex q hx).2⟩⟩
 rcases List.mem_append.1 hr with hr | hr
 ·exact (h.rI r hr).of hD
 ·exact ht.recsOk hmk r hr

theorem WInv.evs {ty sz : Nat → Nat} {mI mE mR : Int → List Value} {X : Nat → Prop} {Z : World} {w w' : World} {wb : Nat} {D : Nat → Prop} {nl nl' : Nat} {n : Nat → Nat} {cs : Nat → List Value} {rw rw' : Nat → Rw} {ps : List Pr} {I E R : List Rec} {et : TypeId} {mc : List Value} {m : Int} {la : Option Addr} {base len : Nat} {la' : Option Addr} {lcap' : Nat} {recs : List Rec} {NB : Nat → Prop} (h : WInv ty sz mI mE mR X Z w wb D nl n cs rw ps I E R) (ht : TkAt ty sz 3 6 et mc m w w' wb D nl' n cs rw la base len la' lcap' recs rw' NB) (hq : ∀ q, ownOf la = some q → ¬ D q) (hmk : mE m = mc) :
  WInv ty sz mI mE mR X Z w' wb (fun q => D q ∨ NB q) nl' (upd n 3 (n 3 + recs.length)) (upd cs 3 (cs 3 ++ recCells recs)) rw' ps I (E ++ recs) R := by
 obtain ⟨hD, hw⟩ := ht.keep h.rows hq
 refine ⟨hw, by rw [upd_off _ _ (by omega), upd_off _ _ (by omega)]; exact h.n0, by rw [upd_off _ _ (by omega), upd_off _ _ (by omega)]; exact h.n1, by rw [upd_off _ _ (by omega), upd_off _ _ (by omega)]; exact h.n2, by rw [upd_at, upd_at, h.n3.1, h.n3.2, recCells_append, List.length_append]; exact ⟨rfl, rfl⟩, by rw [upd_off _ _ (by omega), upd_off _ _ (by omega)]; exact h.n4, fun P hP => (h.pr P hP).of hD ht.fr.size, fun r hr => (h.rI r hr).of hD, fun r hr => ?_, fun r hr => (h.rR r hr).of hD, fun q hx => ⟨(hD q (h.ex q hx).1).1, (hD q (h.ex q hx).1).2.trans (h.ex q hx).2⟩⟩
 rcases List.mem_append.1 hr with hr | hr
 ·exact (h.rE r hr).of hD
 ·exact ht.recsOk hmk r hr

theorem WInv.ress {ty sz : Nat → Nat} {mI mE mR : Int → List Value} {X : Nat → Prop} {Z : World} {w w' : World} {wb : Nat} {D : Nat → Prop} {nl nl' : Nat} {n : Nat → Nat} {cs : Nat → List Value} {rw rw' : Nat → Rw} {ps : List Pr} {I E R : List Rec} {et : TypeId} {mc : List Value} {m : Int} {la : Option Addr} {base len : Nat} {la' : Option Addr} {lcap' : Nat} {recs : List Rec} {NB : Nat → Prop} (h : WInv ty sz mI mE mR X Z w wb D nl n cs rw ps I E R) (ht : TkAt ty sz 4 5 et mc m w w' wb D nl' n cs rw la base len la' lcap' recs rw' NB) (hq : ∀ q, ownOf la = some q → ¬ D q) (hmk : mR m = mc) :
  WInv ty sz mI mE mR X Z w' wb (fun q => D q ∨ NB q) nl' (upd n 4 (n 4 + recs.length)) (upd cs 4 (cs 4 ++ recCells recs)) rw' ps I E (R ++ recs) := by
 obtain ⟨hD, hw⟩ := ht.keep h.rows hq
 refine ⟨hw, by rw [upd_off _ _ (by omega), upd_off _ _ (by omega)]; exact h.n0, by rw [upd_off _ _ (by omega), upd_off _ _ (by omega)]; exact h.n1, by rw [upd_off _ _ (by omega), upd_off _ _ (by omega)]; exact h.n2, by rw [upd_off _ _ (by omega), upd_off _ _ (by omega)]; exact h.n3, by rw [upd_at, upd_at, h.n4.1, h.n4.2, recCells_append, List.length_append]; exact ⟨rfl, rfl⟩, fun P hP => (h.pr P hP).of hD ht.fr.size, fun r hr => (h.rI r hr).of hD, fun r hr => (h.rE r hr).of hD, fun r hr => ?_, fun q hx => ⟨(hD q (h.ex q hx).1).1, (hD q (h.ex q hx).1).2.trans (h.ex q hx).2⟩⟩
 rcases List.mem_append.1 hr with hr | hr
 ·exact (h.rR r hr).of hD
 ·exact ht.recsOk hmk r hr

/-- A cell of a row of the World is written. -/
theorem WRows.put {ty sz : Nat → Nat} {w : World} {wb : Nat} {D : Nat → Prop} {nl : Nat} {n : Nat → Nat} {cs : Nat → List Value} {rw : Nat → Rw} (h : WRows ty sz w wb D nl n cs rw) {i : Nat} (hi : i < 5) {g cap : Nat} (hr : rw i = ⟨some ⟨g, 0, none⟩, cap⟩) {j : Nat} (hj : j < n i * sz i) (u : Value) : WRows ty sz (w.setCell ⟨g, j, none⟩ u) wb D nl n (upd cs i ((cs i).set j u)) rw := by
 have hg : ownOf (rw i).a = some g := by rw [hr]; rfl
 have hlt := h.row hi hg
 have hwb : (w.setCell ⟨g, j, none⟩ u).heap[wb]? = w.heap[wb]? := heap_far _ _ _ _ (by show wb ≠ g; omega)
 refine ⟨fun k hk => (World.cell?_of_block (w := w) (a := ⟨wb, fld k, none⟩) hwb).trans (h.cell k hk), (World.cell?_of_block (w := w) (a := ⟨wb, 2, none⟩) hwb).trans h.cnt, fun k => (World.frozen?_of_block (w := w) (a := ⟨wb, k, none⟩) hwb).trans (h.fz k), fun k hk => ?_, h.dis, h.dO, fun q hq => by rw [World.size_setCell]; exact h.dlt q hq, by rw [World.size_setCell]; exact h.lt⟩
 by_cases e : k = i
 ·subst e
  have ho := h.own k hk
  rw [hr] at ho ⊢
  rw [upd_at]
  exact owns_set ho hj u
 ·rw [upd_off _ _ e]
  exact ownsRow_of_block (h.own k hk) (fun q hq => heap_far _ _ _ _ (fun e2 => h.dis i k hi hk (fun x => e x.symm) g hg (by rw [← own_of, hq]; exact congrArg some e2)))

/-- The World behind s steps, with np programs. -/
def WOk (X : Nat → Prop) (Z w : World) (wb s np : Nat) : Prop :=
 ∃ D nl n cs rw ps I E R, WInv wty wsz mkI mkE mkR X Z w wb D nl n cs rw ps I E R ∧ ps.length = np ∧ np ≤ s ∧ nl ≤ 2 * s ∧ I.length ≤ 8 * s ∧ E.length ≤ 4 * s ∧ R.length ≤ 4 * s

theorem WOk.below {X : Nat → Prop} {Z w w' : World} {wb s np : Nat} (h : WOk X Z w wb s np) (hb : Below w.heap.size w w') : WOk X Z w' wb s np := by
 obtain ⟨D, nl, n, cs, rw, ps, I, E, R, h1, h2⟩ := h
 exact ⟨D, nl, n, cs, rw, ps, I, E, R, h1.below hb, h2⟩

theorem WOk.more {X : Nat → Prop} {Z w : World} {wb s np : Nat} (h : WOk X Z w wb s np) : WOk X Z w wb (s + 1) np := by
 obtain ⟨D, nl, n, cs, rw, ps, I, E, R, h1, h2, h3, h4, h5, h6, h7⟩ := h
 exact ⟨D, nl, n, cs, rw, ps, I, E, R, h1, h2, by omega, by omega, by omega, by omega, by omega⟩

/-- Fresh lists are apart from the World and its data. -/
theorem WInv.apart {ty sz : Nat → Nat} {mI mE mR : Int → List Value} {X : Nat → Prop} {Z : World} {w : World} {wb : Nat} {D : Nat → Prop} {nl : Nat} {n : Nat → Nat} {cs : Nat → List Value} {rw : Nat → Rw} {ps : List Pr} {I E R : List Rec} (h : WInv ty sz mI mE mR X Z w wb D nl n cs rw ps I E R) {q : Nat} (hq : w.heap.size ≤ q) : ¬ D q ∧ q ≠ wb ∧ ∀ i, i < 5 → ownOf (rw i).a ≠ some q :=
 ⟨fun hd => by have := h.rows.dlt q hd; omega, fun e => by have := h.rows.lt; omega, fun i hi e => by have := (h.rows.row hi e).2; omega⟩

theorem looks_ok {X : Nat → Prop} {Z w : World} {wb s np : Nat} (h : WOk X Z w wb s np) (hs : s ≤ 2000000) : Calls Tryz.prog 5 #[.pointer (some ⟨wb, 0, none⟩)] w fun e w' => e = .returned (.bool true) ∧ Below w.heap.size w w' := by
 obtain ⟨D, nl, n, cs, rw, ps, I, E, R, h1, h2, h3, h4, h5, h6, h7⟩ := h
 exact looks_any (h1.rows.recs (i := 2) (by omega) rfl h1.n2.1 h1.n2.2 (by omega) h1.rI) (h1.rows.recs (i := 3) (by omega) rfl h1.n3.1 h1.n3.2 (by omega) h1.rE) (h1.rows.recs (i := 4) (by omega) rfl h1.n4.1 h1.n4.2 (by omega) h1.rR)

theorem TkAt.base {ty sz : Nat → Nat} {f esz : Nat} {et : TypeId} {mc : List Value} {m : Int} {w0 wr : World} {wb : Nat} {D : Nat → Prop} {nl nl0 : Nat} {n : Nat → Nat} {cs : Nat → List Value} {rw0 : Nat → Rw} {la : Option Addr} {base len : Nat} {la' : Option Addr} {lcap' : Nat} {recs : List Rec} {rw : Nat → Rw} {NB : Nat → Prop} {B : Nat}
  (h : TkAt ty sz f esz et mc m w0 wr wb D nl n cs rw0 la base len la' lcap' recs rw NB) (h0 : WRows ty sz w0 wb D nl0 n cs rw0) (hB : B ≤ wb) (hl : ∀ q, ownOf la = some q → B ≤ q) : Below B w0 wr := by
 refine h.fr.below (fun k hk => ?_) (by have := h0.lt; omega)
 rcases hk with e | e | e
 ·omega
 ·have := (h0.row h.f5 e).1; omega
 ·exact hl k e

/-- A list of numbers comes out. -/
theorem took_ints {X : Nat → Prop} {Z w : World} {wb s np : Nat} (h : WOk X Z w wb s np) (hs : s ≤ 2000000) {B : Nat} (hB : B ≤ wb) (w1 : World) (hb : Below w.heap.size w w1) (xs : List Int) (la : Option Addr) (lcap : Nat) (hl : w1.ownsRow w.heap.size 3 1 (.slice la xs.length lcap) xs.length (intCells xs)) (hx : xs.length ≤ 4000) :
  Calls Tryz.prog 23 #[.pointer (some ⟨wb, 0, none⟩), .slice la xs.length lcap] w1 fun e w' => e = .returned (.tuple #[]) ∧ Below B w1 w' ∧ (∀ q, w.heap.size ≤ q → q < w1.heap.size → ownOf la ≠ some q → w'.heap[q]? = w1.heap[q]?) ∧ w1.heap.size ≤ w'.heap.size ∧
   ∃ D nl n cs rw ps I E R, WInv wty wsz mkI mkE mkR X Z w' wb D nl n cs rw ps I E R ∧ ps.length = np ∧ np ≤ s ∧ nl ≤ 2 * s + 1 ∧ I.length ≤ 8 * s + 4 ∧ E.length ≤ 4 * s ∧ R.length ≤ 4 * s ∧ ∀ q, w.heap.size ≤ q → q < w1.heap.size → ownOf la ≠ some q → ¬ D q ∧ q ≠ wb ∧ ∀ i, i < 5 → ownOf (rw i).a ≠ some q := by
 obtain ⟨D, nl, n, cs, rw, ps, I, E, R, h1, h2, h3, h4, h5, h6, h7⟩ := h
 have hw := h1.below hb
 have hq : ∀ q, ownOf la = some q → ¬ D q ∧ q ≠ wb ∧ ∀ i, i < 5 → ownOf (rw i).a ≠ some q := fun q e => h1.apart (hl.lt q (by rw [own_of]; exact e)).1
 refine (takeInts_any hw.rows xs la lcap w.heap.size hl hb.size hq (by omega) (by rw [h1.n2.1]; omega) (by omega)).mono ?_
 rintro e w' ⟨rfl, la', lcap', recs, rw', NB, hr, ht⟩
 have hlt := h1.rows.lt
 have hfr : ∀ q, w.heap.size ≤ q → q < w1.heap.size → ownOf la ≠ some q → w'.heap[q]? = w1.heap[q]? := fun q h8 h9 hne => ht.fr.block q h9 (fun hO => by
   rcases hO with e | e | e
   · omega
   · have := (h1.rows.row (by omega) e).2; omega
   · exact hne e)
 refine ⟨rfl, ht.base hw.rows hB (fun q e => by have := (hl.lt q (by rw [own_of]; exact e)).1; omega), hfr, ht.fr.size, _, _, _, _, _, _, _, _, _, hw.ints ht (fun q e => (hq q e).1) rfl, h2, h3, by omega, by simp [hr]; omega, h6, h7, fun q h8 h9 hne => ⟨fun hd => ?_, by omega, fun i hi e => ?_⟩⟩
 ·rcases hd with hd | hd
  ·have := h1.rows.dlt q hd; omega
  ·rcases (ht.nb q hd).2.1 with e | e
   ·exact hne e
   ·omega
 ·by_cases hi2 : i = 2
  ·subst hi2
   rcases ht.rwf with e2 | ⟨q', e2, hq'⟩
   ·rw [e2] at e; have := (h1.rows.row (by omega) e).2; omega
   ·rw [e2] at e; cases e; omega
  ·rw [ht.rwk i hi hi2] at e
   have := (h1.rows.row hi e).2; omega

def setL : List Value → Nat → List Value → List Value
 | xs, _, [] => xs
 | xs, j, v :: r => setL (xs.set j v) (j + 1) r

theorem owns_sets {base : Nat} {e : TypeId} {size n cap g : Nat} : ∀ (vs : List Value) (w : World) (xs : List Value) (j : Nat), w.ownsRow base e size (.slice (some ⟨g, 0, none⟩) n cap) n xs → j + vs.length ≤ n * size → (w.setCells g j vs).ownsRow base e size (.slice (some ⟨g, 0, none⟩) n cap) n (setL xs j vs)
 | [], w, xs, j, h, _ => h
 | v :: r, w, xs, j, h, hl => by
  rw [World.setCells, setL]
  simp at hl
  exact owns_sets r _ _ _ (owns_set h (by omega) v) (by omega)

theorem setL_mid : ∀ (vs pre post : List Value), vs.length ≤ post.length → setL (pre ++ post) pre.length vs = pre ++ vs ++ post.drop vs.length
 | [], pre, post, _ => by simp [setL]
 | v :: r, pre, [], h => by simp at h
 | v :: r, pre, y :: post, h => by
  simp at h
  rw [setL, List.set_append_right _ _ (Nat.le_refl _), Nat.sub_self, List.set_cons_zero]
  have := setL_mid r (pre ++ [v]) post h
  rw [List.length_append] at this
  simp at this
  rw [this]
  simp

theorem set_reps {mc ys : List Value} {i : Nat} (h : (i + 1) * mc.length ≤ ys.length) : setL (rep mc i ++ ys.drop (i * mc.length)) (i * mc.length) mc = rep mc (i + 1) ++ ys.drop ((i + 1) * mc.length) := by
 have hl := rep_length mc i
 rw [Nat.add_mul, Nat.one_mul] at h
 have := setL_mid mc (rep mc i) (ys.drop (i * mc.length)) (by rw [List.length_drop]; omega)
 rw [hl] at this
 rw [this, List.drop_drop]
 show rep mc i ++ mc ++ _ = rep mc i ++ mc ++ _
 rw [Nat.add_mul, Nat.one_mul]

theorem size_cells (b : Nat) : ∀ (vs : List Value) (o : Nat) (w : World), (w.setCells b o vs).heap.size = w.heap.size
 | [], _, _ => rfl
 | v :: r, o, w => by rw [World.setCells, size_cells b r (o + 1) _, World.size_setCell]

theorem heap_cells (b : Nat) : ∀ (vs : List Value) (o : Nat) (w : World) (q : Nat), q ≠ b → (w.setCells b o vs).heap[q]? = w.heap[q]?
 | [], _, _, _, _ => rfl
 | v :: r, o, w, q, h => by rw [World.setCells, heap_cells b r (o + 1) _ q h]; exact heap_far _ _ _ _ h

theorem os_cells (b : Nat) : ∀ (vs : List Value) (o : Nat) (w : World), (w.setCells b o vs).os = w.os ∧ (w.setCells b o vs).tape = w.tape ∧ (w.setCells b o vs).output = w.output
 | [], _, _ => ⟨rfl, rfl, rfl⟩
 | v :: r, o, w => os_cells b r (o + 1) (w.setCell ⟨b, o, none⟩ v)

theorem Fr.sets {O : Nat → Prop} (w : World) (b o : Nat) (vs : List Value) (hb : O b) : Fr O w (w.setCells b o vs) := by
 obtain ⟨h1, h2, h3⟩ := os_cells b vs o w
 exact ⟨h1, h2, h3, by rw [size_cells]; exact Nat.le_refl _, fun k _ h => heap_cells _ _ _ _ _ (fun e => h (e ▸ hb))⟩

/-- The count has turned, and a block is new. -/
theorem WInv.counted {ty sz : Nat → Nat} {mI mE mR : Int → List Value} {X : Nat → Prop} {Z : World} {w w' : World} {wb : Nat} {D D' : Nat → Prop} {nl nl' : Nat} {n : Nat → Nat} {cs : Nat → List Value} {rw : Nat → Rw} {ps : List Pr} {I E R : List Rec} (h : WInv ty sz mI mE mR X Z w wb D nl n cs rw ps I E R) (hw : WRows ty sz w' wb D' nl' n cs rw) (hD : ∀ q, D q → D' q ∧ w'.heap[q]? = w.heap[q]?) (hz : w.heap.size ≤ w'.heap.size) : WInv ty sz mI mE mR X Z w' wb D' nl' n cs rw ps I E R :=
 ⟨hw, h.n0, h.n1, h.n2, h.n3, h.n4, fun P hP => (h.pr P hP).of hD hz, fun r hr => (h.rI r hr).of hD, fun r hr => (h.rE r hr).of hD, fun r hr => (h.rR r hr).of hD, fun q hx => ⟨(hD q (h.ex q hx).1).1, (hD q (h.ex q hx).1).2.trans (h.ex q hx).2⟩⟩

end Go.Proofs.YtfdafcnfefbcbabGreat

/-
 Two texts in one.
-/
namespace Go.Proofs.YtfdafcnfefbcbabGreat
end Go.Proofs.YtfdafcnfefbcbabGreat

/-
 Package interleavelaw: the contracts of pick and World.grown.
-/
namespace Go.Proofs.YtfdafcnfefbcbabGreat
open Go.RowKit
set_option linter.unusedVariables false

theorem lawPick_any (c n : Int) (w : World) (hc : -9223372036854775808 ≤ c ∧ c ≤ 9223372036854775807) (hn : 0 < n) (hn2 : n ≤ 9223372036854775807) : Calls Tryz.prog 7 #[.int .i64 c, .int .i64 n] w fun e w' => (∃ k : Nat, e = .returned (.int .i64 (k : Int)) ∧ (k : Int) < n) ∧ w' = w := by
 obtain ⟨hc1, hc2⟩ := hc
 have hne : (n == 0) = false := by simp; omega
 by_cases h : c < 0
 ·have hk0 : 0 ≤ (-(c + 1)) % n := Int.emod_nonneg _ (by omega)
  have hk1 : (-(c + 1)) % n < n := Int.emod_lt_of_pos _ hn
  have HK : Hid (∃ k : Nat, (-(c + 1)).tmod n = (k : Int) ∧ (k : Int) < n) := ⟨((-(c + 1)) % n).toNat, by rw [Int.tmod_eq_emod_of_nonneg (by omega)]; omega, by omega⟩
  have hw : IntKind.i64.wrap (c + 1) = c + 1 := by simp [IntKind.wrap, IntKind.bits, IntKind.signed]; omega
  have hw2 : IntKind.i64.wrap (-(c + 1)) = -(c + 1) := by simp [IntKind.wrap, IntKind.bits, IntKind.signed]; omega
  clear hk0 hk1
  go_enter Tryz.func7, Tryz.ntmps7
  go_wp2
  go_ret
  obtain ⟨k, h1, h2⟩ := HK.out
  rw [Int.neg_tmod] at h1
  exact ⟨⟨k, ret_int h1, h2⟩, rfl⟩
 ·have hk0 : 0 ≤ c % n := Int.emod_nonneg _ (by omega)
  have hk1 : c % n < n := Int.emod_lt_of_pos _ hn
  have HK : Hid (∃ k : Nat, c % n = (k : Int) ∧ (k : Int) < n) := ⟨(c % n).toNat, by omega, by omega⟩
  clear hk0 hk1
  go_enter Tryz.func7, Tryz.ntmps7
  go_wp2
  go_ret
  obtain ⟨k, h1, h2⟩ := HK.out
  exact ⟨⟨k, ret_int h1, h2⟩, rfl⟩

theorem Tryz.info39 : (Tryz.prog.info? 39).map (fun i => (i.zero, i.size, i.bytes)) = some (some (.pointer none), 1, 8) := by kernel_rfl
theorem Tryz.info89 : (Tryz.prog.info? 89).map (fun i => (i.zero, i.size, i.bytes)) = some (some (.pointer none), 1, 8) := by kernel_rfl

/-- One program more. -/
theorem WInv.addP {X : Nat → Prop} {Z w w2 : World} {wb : Nat} {D : Nat → Prop} {nl : Nat} {n : Nat → Nat} {cs : Nat → List Value} {rw rw2 : Nat → Rw} {ps : List Pr} {I E R : List Rec} (h : WInv wty wsz mkI mkE mkR X Z w wb D nl n cs rw ps I E R) (P : Pr) (hP : PrOk w D P) (ha : P.al = none) (hfr : ∀ q, D q → w2.heap[q]? = w.heap[q]?) (hz : w.heap.size ≤ w2.heap.size)
  (hw : WRows wty wsz w2 wb D nl (upd (upd n 0 (n 0 + 1)) 1 (n 1 + 1)) (upd (upd cs 0 (cs 0 ++ [P.ptr])) 1 (cs 1 ++ [.pointer none])) rw2) : WInv wty wsz mkI mkE mkR X Z w2 wb D nl (upd (upd n 0 (n 0 + 1)) 1 (n 1 + 1)) (upd (upd cs 0 (cs 0 ++ [P.ptr])) 1 (cs 1 ++ [.pointer none])) rw2 (ps ++ [P]) I E R := by
 have hD : ∀ q, D q → D q ∧ w2.heap[q]? = w.heap[q]? := fun q hq => ⟨hq, hfr q hq⟩
 have e0 : ∀ {α : Type} (f : Nat → α) (u v : α), upd (upd f 0 u) 1 v 0 = u := fun f u v => by rw [upd_off _ _ (by omega), upd_at]
 have e1 : ∀ {α : Type} (f : Nat → α) (u v : α), upd (upd f 0 u) 1 v 1 = v := fun f u v => upd_at _ _ _
 have e2 : ∀ {α : Type} (f : Nat → α) (u v : α) (k : Nat), 2 ≤ k → upd (upd f 0 u) 1 v k = f k := fun f u v k hk => by rw [upd_off _ _ (by omega), upd_off _ _ (by omega)]
 refine ⟨hw, ?_, ?_, by rw [e2 _ _ _ _ (by omega), e2 _ _ _ _ (by omega)]; exact h.n2, by rw [e2 _ _ _ _ (by omega), e2 _ _ _ _ (by omega)]; exact h.n3, by rw [e2 _ _ _ _ (by omega), e2 _ _ _ _ (by omega)]; exact h.n4, fun Q hQ => ?_, fun r hr => (h.rI r hr).of hD, fun r hr => (h.rE r hr).of hD, fun r hr => (h.rR r hr).of hD, fun q hx => ⟨(hD q (h.ex q hx).1).1, (hD q (h.ex q hx).1).2.trans (h.ex q hx).2⟩⟩
 ·rw [e0, e0, h.n0.1, h.n0.2]; simp
 ·rw [e1, e1, h.n1.1, h.n1.2]
  have : P.all = .pointer none := by unfold Pr.all; rw [ha]; rfl
  simp [this]
 ·rcases List.mem_append.1 hQ with hQ | hQ
  ·exact (h.pr Q hQ).of hD hz
  ·rw [List.mem_singleton.1 hQ]; exact hP.of hD hz

theorem grown_any {X : Nat → Prop} {Z w : World} {wb s np : Nat} (h : WOk X Z w wb s np) (hs : s ≤ 2000000) {B : Nat} (hB : B ≤ wb) (t : ByteArray) (ht : t.size ≤ maxLen) :
  Calls Tryz.prog 6 #[.pointer (some ⟨wb, 0, none⟩), .string t] w fun e w' => e = .returned (.bool true) ∧ Below B w w' ∧ ((∀ p, Pl.new (bytesOf t) ≠ .inr p) → WOk X Z w' wb (s + 1) np) ∧ ((∃ p, Pl.new (bytesOf t) = .inr p) → WOk X Z w' wb (s + 1) (np + 1)) := by
 have hwl : B ≤ w.heap.size := by obtain ⟨D, nl, n, cs, rw, ps, I, E, R, h1, -⟩ := h; have := h1.rows.lt; omega
 have H : Hid (WOk X Z w wb s np) := h
 clear h
 cases hn : Pl.new (bytesOf t) with
 | inl kn =>
  have HN : Hid (Pl.new (bytesOf t) = .inl kn) := hn
  clear hn
  go_enter Tryz.func6, Tryz.ntmps6
  go_wp2_with fail
  refine (made_any t _ ht).mono ?_
  rintro e w1 ⟨hb1, he⟩
  rw [HN.out] at he
  subst he
  go_wp2
  go_ret
  exact ⟨rfl, hb1.mono hwl, fun _ => (H.out.below hb1).more, fun ⟨p, hp⟩ => by cases hp⟩
 | inr p =>
  have HN : Hid (Pl.new (bytesOf t) = .inr p) := hn
  have HTY : Hid (Tiny p) := new_tiny (fun c hc => bytesOf_lt t c hc) hn
  have H10 : Hid (Pl.countShared p ≤ 10) := new_count hn
  clear hn
  obtain ⟨i0, hi0, hz0, hz1, hz2⟩ := info_parts Tryz.info39
  obtain ⟨i1, hi1, hy0, hy1, hy2⟩ := info_parts Tryz.info89
  go_enter Tryz.func6, Tryz.ntmps6
  go_wp2_with fail
  refine (made_any t _ ht).mono ?_
  rintro e w1 ⟨hb1, he⟩
  rw [HN.out] at he
  obtain ⟨b, rfl, hp, -⟩ := he
  obtain ⟨bx, bY, la, lcap, htwo⟩ := two_of HN.out hp
  obtain ⟨D, nl, n, cs, rw, ps, I, E, R, h1, h2, h3, h4, h5, h6, h7⟩ := H.out
  have HW1 : Hid (WInv wty wsz mkI mkE mkR X Z w1 wb (fun q => D q ∨ (w.heap.size ≤ q ∧ q < w1.heap.size)) nl n cs rw ps I E R) := h1.fresh hb1
  have HP : Hid (PrOk w1 (fun q => D q ∨ (w.heap.size ≤ q ∧ q < w1.heap.size)) ⟨p, b, bx, bY, la, lcap, w.heap.size, w1.heap.size, none, none, 0⟩) := ⟨htwo, HTY.out, H10.out, Nat.le_refl _, fun q h1 h2 => .inr ⟨h1, h2⟩, fun ab e => by cases e⟩
  have HB1 : Hid (Below w.heap.size w w1) := hb1
  have HCT : Hid (ps.length = np ∧ np ≤ s ∧ nl ≤ 2 * s ∧ I.length ≤ 8 * s ∧ E.length ≤ 4 * s ∧ R.length ≤ 4 * s) := ⟨h2, h3, h4, h5, h6, h7⟩
  have hps : ps.length ≤ 2000000 := by omega
  have HN0 : Hid (n 0 = ps.length ∧ n 1 = ps.length) := ⟨h1.n0.1, h1.n1.1⟩
  clear h1 h2 h3 h4 h5 h6 h7 hp htwo hb1 H
  have hn0 : n 0 ≤ 2000000 := by rw [HN0.out.1]; exact hps
  have hn1 : n 1 ≤ 2000000 := by rw [HN0.out.2]; exact hps
  have c0 : w1.cell? ⟨wb, 0, none⟩ = some (.slice (rw 0).a (n 0) (rw 0).cap) := HW1.out.rows.cell 0 (by omega)
  have cf := HW1.out.rows.fz
  have hwl' := HW1.out.rows.lt
  have HO0 : Hid (w1.ownsRow (wb + 1) 39 1 (.slice (rw 0).a (n 0) (rw 0).cap) (n 0) (cs 0)) := HW1.out.rows.own 0 (by omega)
  have hne0 : (Value.slice (rw 0).a (n 0) (rw 0).cap).ownBlock ≠ some wb := fun e => by have := (HO0.out.lt _ e).1; omega
  go_upto_region 4 with (first | (refine wpList_append_lies _ rfl _ _ _ rfl (wb + 1) 39 i0 _ 1 8 Tryz.underlying24 hi0 hz0 hz1 hz2 rfl (by omega) (.slice (rw 0).a (n 0) (rw 0).cap) (n 0) (cs 0) rfl (HO0.out.alloc _) ⟨w1.heap.size, 0, none⟩ 1 1 [.pointer (some ⟨b, 0, none⟩)] rfl rfl (World.news_of_block (cs := #[.pointer (some ⟨b, 0, none⟩)]) (t := 39) (fr := (0, 0)) (heap_alloc_new w1 _)) (by simp [Value.oneCell']) (by omega) (by unfold maxLen; omega) (by omega) (by simp; omega) (w1.heap.size + 1) (by simp) ?_; intro gg cap1 w5 hown hgrow hat hlt5; have k0 := grow2_cell hgrow c0 hne0; have kf := grow2_frozen (a := ⟨wb, 0, none⟩) hgrow hwl' (cf 0) hne0))
  have HPU : Hid (_ ∧ _) := HW1.out.rows.push (i := 0) (news := [.pointer (some ⟨b, 0, none⟩)]) (gg := gg) (cap1 := cap1) (w2 := w5) (by omega) _ (by rw [← own_of (rw 0).a (n 0) (rw 0).cap]; exact hgrow) hown (by rw [← own_of (rw 0).a (n 0) (rw 0).cap]; exact hat)
  have HWV : Hid (WRows wty wsz (w5.setCell ⟨wb, 0, none⟩ (.slice (some ⟨gg, 0, none⟩) (n 0 + 1) cap1)) wb (fun q => D q ∨ (w.heap.size ≤ q ∧ q < w1.heap.size)) nl (upd n 0 (n 0 + 1)) (upd cs 0 (cs 0 ++ [.pointer (some ⟨b, 0, none⟩)])) (upd rw 0 ⟨some ⟨gg, 0, none⟩, cap1⟩)) := HPU.out.1
  have HFV : Hid (Fr (fun q => q = wb ∨ ownOf (rw 0).a = some q) w1 (w5.setCell ⟨wb, 0, none⟩ (.slice (some ⟨gg, 0, none⟩) (n 0 + 1) cap1))) := HPU.out.2
  generalize w5.setCell ⟨wb, 0, none⟩ (.slice (some ⟨gg, 0, none⟩) (n 0 + 1) cap1) = V at *
  clear HPU k0 kf hown hgrow hat HO0 c0 cf hwl' hne0
  have c1 : V.cell? ⟨wb, 1, none⟩ = some (.slice (rw 1).a (n 1) (rw 1).cap) := by
   have := HWV.out.cell 1 (by omega)
   rw [upd_off _ _ (by omega), upd_off _ _ (by omega)] at this
   exact this
  have cf := HWV.out.fz
  have hwl' := HWV.out.lt
  have HO1 : Hid (V.ownsRow (wb + 1) 89 1 (.slice (rw 1).a (n 1) (rw 1).cap) (n 1) (cs 1)) := by
   have := HWV.out.own 1 (by omega)
   rw [upd_off _ _ (by omega), upd_off _ _ (by omega), upd_off _ _ (by omega)] at this
   exact this
  have hne1 : (Value.slice (rw 1).a (n 1) (rw 1).cap).ownBlock ≠ some wb := fun e => by have := (HO1.out.lt _ e).1; omega
  go_upto_region 5 with (first | (refine wpList_append_lies _ rfl _ _ _ rfl (wb + 1) 89 i1 _ 1 8 Tryz.underlying25 hi1 hy0 hy1 hy2 rfl (by omega) (.slice (rw 1).a (n 1) (rw 1).cap) (n 1) (cs 1) rfl (HO1.out.alloc _) ⟨V.heap.size, 0, none⟩ 1 1 [.pointer none] rfl rfl (World.news_of_block (cs := #[.pointer none]) (t := 89) (fr := (0, 0)) (heap_alloc_new V _)) (by simp [Value.oneCell']) (by omega) (by unfold maxLen; omega) (by omega) (by simp; omega) (V.heap.size + 1) (by simp) ?_; intro gh cap2 w6 hown hgrow hat hlt5; have k0 := grow2_cell hgrow c1 hne1; have kf := grow2_frozen (a := ⟨wb, 1, none⟩) hgrow hwl' (cf 1) hne1))
  have e1 : upd rw 0 ⟨some ⟨gg, 0, none⟩, cap1⟩ 1 = rw 1 := upd_off _ _ (by omega)
  have HPU : Hid (_ ∧ _) := HWV.out.push (i := 1) (news := [.pointer none]) (gg := gh) (cap1 := cap2) (w2 := w6) (by omega) _ (by rw [e1, ← own_of (rw 1).a (n 1) (rw 1).cap]; exact hgrow) (by rw [upd_off _ _ (by omega), upd_off _ _ (by omega)]; exact hown) (by rw [e1, ← own_of (rw 1).a (n 1) (rw 1).cap]; exact hat)
  have hpu := HPU.out
  rw [show upd n 0 (n 0 + 1) 1 = n 1 from upd_off _ _ (by omega), show upd cs 0 (cs 0 ++ [.pointer (some ⟨b, 0, none⟩)]) 1 = cs 1 from upd_off _ _ (by omega), e1] at hpu
  have HWX : Hid (WRows wty wsz (w6.setCell ⟨wb, 1, none⟩ (.slice (some ⟨gh, 0, none⟩) (n 1 + 1) cap2)) wb (fun q => D q ∨ (w.heap.size ≤ q ∧ q < w1.heap.size)) nl (upd (upd n 0 (n 0 + 1)) 1 (n 1 + 1)) (upd (upd cs 0 (cs 0 ++ [.pointer (some ⟨b, 0, none⟩)])) 1 (cs 1 ++ [.pointer none])) (upd (upd rw 0 ⟨some ⟨gg, 0, none⟩, cap1⟩) 1 ⟨some ⟨gh, 0, none⟩, cap2⟩)) := hpu.1
  have HFX : Hid (Fr (fun q => q = wb ∨ ownOf (rw 1).a = some q) V (w6.setCell ⟨wb, 1, none⟩ (.slice (some ⟨gh, 0, none⟩) (n 1 + 1) cap2))) := hpu.2
  generalize w6.setCell ⟨wb, 1, none⟩ (.slice (some ⟨gh, 0, none⟩) (n 1 + 1) cap2) = X at *
  clear HPU hpu k0 kf hown hgrow hat HO1 c1 cf hwl' hne1
  go_wp2
  go_ret
  have hD : ∀ q, (D q ∨ (w.heap.size ≤ q ∧ q < w1.heap.size)) → X.heap[q]? = w1.heap[q]? := fun q hd => by
   obtain ⟨h1, h2, h3⟩ := HW1.out.rows.clear hd
   refine (HFX.out.block q (Nat.lt_of_lt_of_le h1 HFV.out.size) (fun hO => ?_)).trans (HFV.out.block q h1 (fun hO => ?_))
   ·rcases hO with e | e; exact h2 e; exact h3 1 (by omega) e
   ·rcases hO with e | e; exact h2 e; exact h3 0 (by omega) e
  have hw := HW1.out.addP _ HP.out rfl hD (Nat.le_trans HFV.out.size HFX.out.size) HWX.out
  obtain ⟨h2, h3, h4, h5, h6, h7⟩ := HCT.out
  refine ⟨rfl, ?_, fun hx => absurd rfl (hx p), fun _ => ⟨_, _, _, _, _, _, _, _, _, hw, by simp [h2], by omega, by omega, by omega, by omega, by omega⟩⟩
  have f1 : Below B w1 V := HFV.out.below (fun k hk => by rcases hk with e | e; omega; (have := (HW1.out.rows.row (by omega) e).1; omega)) (by have := HB1.out.size; omega)
  have f2 : Below B V X := HFX.out.below (fun k hk => by rcases hk with e | e; omega; (have := (HW1.out.rows.row (by omega) e).1; omega)) (by have := HB1.out.size; have := HFV.out.size; omega)
  exact (HB1.out.mono hwl).trans (f1.trans f2)

end Go.Proofs.YtfdafcnfefbcbabGreat
