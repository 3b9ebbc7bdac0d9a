/-
 Several texts of ours in one: RefCopied, ThruPl, ThruSt, RefLess.
-/
import Derived.Test.YtfdafcnfefbcbabGreatRff
import Derived.Test.YtfdafcnfefbcbabGreatRfo
import Derived.Test.YtfdafcnfefbcbabGreatPla
import Derived.Test.YtfdafcnfefbcbabGreatRfg
import Derived.Test.YtfdafcnfefbcbabGreatRfp
import Derived.Test.YtfdafcnfefbcbabGreatRefResult
import Derived.Test.YtfdafcnfefbcbabGreatSea
import Derived.Deep.QuietTactic
import Derived.BigQuiet
/-
 The contract of the reference's copied.
-/
namespace Go.Proofs.YtfdafcnfefbcbabGreat
open Go.RowKit
set_option linter.unusedVariables false
set_option maxRecDepth 100000
set_option maxHeartbeats 2000000

/-- The cells of the threads below n. -/
def thL (p : List (List Pl.POp)) (S : St) : Nat → List Value
 | 0 => []
 | n + 1 => thL p S n ++ [.int .i64 (atOf (rowOf p n) (S.th n)), .int .i64 (S.th n).reg]

theorem thL_length (p : List (List Pl.POp)) (S : St) : ∀ n, (thL p S n).length = n * 2
 | 0 => rfl
 | n + 1 => by rw [thL, List.length_append, thL_length p S n]; simp; omega

theorem thL_at (p : List (List Pl.POp)) (S : St) : ∀ n j, j < n → (thL p S n)[j * 2]? = some (.int .i64 (atOf (rowOf p j) (S.th j))) ∧ (thL p S n)[j * 2 + 1]? = some (.int .i64 (S.th j).reg)
 | 0, j, h => by omega
 | n + 1, j, h => by
  have hl := thL_length p S n
  rw [thL]
  by_cases e : j = n
  ·subst e
   rw [List.getElem?_append_right (by omega), List.getElem?_append_right (by omega), hl, show j * 2 - j * 2 = 0 by omega, show j * 2 + 1 - j * 2 = 1 by omega]
   exact ⟨rfl, rfl⟩
  ·have h1 := thL_at p S n j (by omega)
   rw [List.getElem?_append_left (by omega), List.getElem?_append_left (by omega)]
   exact h1

theorem thL_one (p : List (List Pl.POp)) (S : St) : ∀ n, ∀ v ∈ thL p S n, v.oneCell' = true
 | 0, v, h => by cases h
 | n + 1, v, h => by
  rw [thL] at h
  rcases List.mem_append.1 h with h | h
  ·exact thL_one p S n v h
  ·simp at h
   rcases h with rfl | rfl <;> rfl

theorem RR.thCells {w : World} {b tb bY la tcap lcap : Nat} {p : List (List Pl.POp)} {S : St} (h : RR w b tb bY la tcap lcap p S) : ∀ (j : Nat) (u : Value), (thL p S p.length)[j]? = some u → w.cell? ⟨tb, j, none⟩ = some u := fun j u hu => by
 have hj := (List.getElem?_eq_some_iff.1 hu).1
 rw [thL_length] at hj
 obtain ⟨h1, h2⟩ := thL_at p S p.length (j / 2) (by omega)
 have ht := h.th (j / 2) (by omega)
 have : j = j / 2 * 2 ∨ j = j / 2 * 2 + 1 := by omega
 rcases this with e | e
 ·rw [e] at hu ⊢
  rw [h1] at hu
  cases hu
  exact ht.a
 ·rw [e] at hu ⊢
  rw [h2] at hu
  cases hu
  exact ht.g

/-- The copy, ahead of its threads. -/
structure CpAt (w X : World) (b tb bY tcap : Nat) (p : List (List Pl.POp)) (S : St) : Prop where
 pp : X.cell? ⟨w.heap.size, 0, none⟩ = some (.pointer (some ⟨bY, 0, none⟩))
 vr : ∀ v, v < 4 → X.cell? ⟨w.heap.size, 1 + v, none⟩ = some (.int .i64 (S.var v))
 ts : X.cell? ⟨w.heap.size, 5, none⟩ = some (.slice none 0 0)
 hd : ∀ n l, n < 4 → l < 2 → X.cell? ⟨w.heap.size, 6 + n * 2 + l, none⟩ = some (.int .i64 ((S.th n).held l : Int))
 fb : ∀ j, X.frozen? ⟨w.heap.size, j, none⟩ = false
 bl : Below w.heap.size w X
 sz : w.heap.size < X.heap.size

theorem CpAt.done {w X w1 : World} {b tb bY la tcap lcap gg cap1 base : Nat} {t0 : TypeId} {p : List (List Pl.POp)} {S : St} (hr : RR w b tb bY la tcap lcap p S) (h : CpAt w X b tb bY tcap p S)
  (hb : Below X.heap.size X w1) (ho : w1.ownsRow base t0 2 (.slice (some ⟨gg, 0, none⟩) p.length cap1) p.length (thL p S p.length)) (hat : X.heap.size ≤ gg) :
  RR (w1.setCell ⟨w.heap.size, 5, none⟩ (.slice (some ⟨gg, 0, none⟩) p.length cap1)) w.heap.size gg bY la cap1 lcap p S := by
 have hsz := h.sz
 obtain ⟨l1, l2, l3, l4⟩ := hr.lt
 have c : ∀ j, j ≠ 5 → (w1.setCell ⟨w.heap.size, 5, none⟩ (.slice (some ⟨gg, 0, none⟩) p.length cap1)).cell? ⟨w.heap.size, j, none⟩ = X.cell? ⟨w.heap.size, j, none⟩ := fun j hj =>
  (World.cell?_setCell_other _ _ _ _ (fun x => hj (by simpa using (congrArg Addr.off x).symm))).trans (hb.cell (p := ⟨w.heap.size, j, none⟩) hsz)
 have o : ∀ k j, k < w.heap.size → (w1.setCell ⟨w.heap.size, 5, none⟩ (.slice (some ⟨gg, 0, none⟩) p.length cap1)).cell? ⟨k, j, none⟩ = w.cell? ⟨k, j, none⟩ := fun k j hk =>
  (World.cell?_setCell_far _ _ _ _ (by show w.heap.size ≠ k; omega)).trans ((hb.cell (p := ⟨k, j, none⟩) (by show k < X.heap.size; omega)).trans (h.bl.cell (p := ⟨k, j, none⟩) hk))
 have q : ∀ j u, (thL p S p.length)[j]? = some u → (w1.setCell ⟨w.heap.size, 5, none⟩ (.slice (some ⟨gg, 0, none⟩) p.length cap1)).cell? ⟨gg, j, none⟩ = some u := fun j u hu => by
  have hj := (List.getElem?_eq_some_iff.1 hu).1
  rw [thL_length] at hj
  rw [World.cell?_setCell_far _ _ _ _ (by show w.heap.size ≠ gg; omega), ho.cellAt _ (by omega)]
  exact hu
 refine ⟨(c 0 (by omega)).trans h.pp, fun v hv => (c _ (by omega)).trans (h.vr v hv), World.cell?_setCell_same _ _ _ ((hb.cell (p := ⟨w.heap.size, 5, none⟩) hsz).trans h.ts), fun n l h1 h2 => (c _ (by omega)).trans (h.hd n l h1 h2), fun n hn => ?_, fun j => ?_, (o _ _ l3).trans hr.y0, fun n hn => ?_, hr.rows, hr.p1, hr.p4, by omega, by omega, by omega, by omega, by omega, hr.sm, hr.idle⟩
 ·obtain ⟨h1, h2⟩ := thL_at p S p.length n hn
  exact ⟨q _ _ h1, q _ _ h2, fun j => by rw [World.frozen?_setCell]; exact ho.frozenAt j⟩
 ·rw [World.frozen?_setCell]; exact (hb.frozen (p := ⟨w.heap.size, j, none⟩) hsz).trans (h.fb j)
 ·obtain ⟨s, h1, h2⟩ := hr.ls n hn
  exact ⟨s, (o _ _ l4).trans h1, h2⟩

theorem CpAt.made {w : World} {b tb bY la tcap lcap : Nat} {p : List (List Pl.POp)} {S : St} (hr : RR w b tb bY la tcap lcap p S) (t : TypeId) :
  CpAt w (w.alloc (.cells #[.pointer (some ⟨bY, 0, none⟩), .int .i64 (S.var 0), .int .i64 (S.var 1), .int .i64 (S.var 2), .int .i64 (S.var 3), .slice none 0 0, .int .i64 ((S.th 0).held 0 : Int), .int .i64 ((S.th 0).held 1 : Int), .int .i64 ((S.th 1).held 0 : Int), .int .i64 ((S.th 1).held 1 : Int), .int .i64 ((S.th 2).held 0 : Int), .int .i64 ((S.th 2).held 1 : Int), .int .i64 ((S.th 3).held 0 : Int), .int .i64 ((S.th 3).held 1 : Int)] t)) b tb bY tcap p S := by
 refine ⟨by simp, fun v hv => ?_, by simp, fun n l hn hl => ?_, fun j => ?_, (Below.refl _ _).alloc (Nat.le_refl _) _, by simp⟩
 ·have : v = 0 ∨ v = 1 ∨ v = 2 ∨ v = 3 := by omega
  rcases this with rfl | rfl | rfl | rfl <;> simp
 ·have h1 : n = 0 ∨ n = 1 ∨ n = 2 ∨ n = 3 := by omega
  have h2 : l = 0 ∨ l = 1 := by omega
  rcases h1 with rfl | rfl | rfl | rfl <;> rcases h2 with rfl | rfl <;> simp
 ·rw [World.frozen?_alloc_at _ _ _ _ (by simp)]

theorem refCopied_any {w : World} {b tb bY la tcap lcap : Nat} {p : List (List Pl.POp)} {S : St} (h : RR w b tb bY la tcap lcap p S) :
  Calls Tryz.prog 65 #[.pointer (some ⟨b, 0, none⟩)] w fun e w' => ∃ c tc ccap, e = .returned (.pointer (some ⟨c, 0, none⟩)) ∧ w.heap.size ≤ c ∧ w.heap.size ≤ tc ∧ Below w.heap.size w w' ∧ RR w' c tc bY la ccap lcap p S := by
 have H : Hid (RR w b tb bY la tcap lcap p S) := h
 obtain ⟨i0, hi0, hz0, hz1, hz2⟩ := info_parts Tryz.info121
 have x0 := h.pp
 have x1 := h.vr 0 (by omega)
 have x2 := h.vr 1 (by omega)
 have x3 := h.vr 2 (by omega)
 have x4 := h.vr 3 (by omega)
 have x5 := h.ts
 have x6 := h.hd 0 0 (by omega) (by omega)
 have x7 := h.hd 0 1 (by omega) (by omega)
 have x8 := h.hd 1 0 (by omega) (by omega)
 have x9 := h.hd 1 1 (by omega) (by omega)
 have x10 := h.hd 2 0 (by omega) (by omega)
 have x11 := h.hd 2 1 (by omega) (by omega)
 have x12 := h.hd 3 0 (by omega) (by omega)
 have x13 := h.hd 3 1 (by omega) (by omega)
 have p1 := h.p1
 have p4 := h.p4
 clear h
 simp only [Nat.reduceMul, Nat.reduceAdd] at x1 x2 x3 x4 x6 x7 x8 x9 x10 x11 x12 x13
 go_enter Tryz.func65, Tryz.ntmps65
 go_upto_region 3 with fail
 have HC : Hid (CpAt w (w.alloc (.cells #[.pointer (some ⟨bY, 0, none⟩), .int .i64 (S.var 0), .int .i64 (S.var 1), .int .i64 (S.var 2), .int .i64 (S.var 3), .slice none 0 0, .int .i64 ((S.th 0).held 0 : Int), .int .i64 ((S.th 0).held 1 : Int), .int .i64 ((S.th 1).held 0 : Int), .int .i64 ((S.th 1).held 1 : Int), .int .i64 ((S.th 2).held 0 : Int), .int .i64 ((S.th 2).held 1 : Int), .int .i64 ((S.th 3).held 0 : Int), .int .i64 ((S.th 3).held 1 : Int)] 119)) b tb bY tcap p S) := CpAt.made H.out _
 generalize (w.alloc (.cells #[.pointer (some ⟨bY, 0, none⟩), .int .i64 (S.var 0), .int .i64 (S.var 1), .int .i64 (S.var 2), .int .i64 (S.var 3), .slice none 0 0, .int .i64 ((S.th 0).held 0 : Int), .int .i64 ((S.th 0).held 1 : Int), .int .i64 ((S.th 1).held 0 : Int), .int .i64 ((S.th 1).held 1 : Int), .int .i64 ((S.th 2).held 0 : Int), .int .i64 ((S.th 2).held 1 : Int), .int .i64 ((S.th 3).held 0 : Int), .int .i64 ((S.th 3).held 1 : Int)] 119)) = X at *
 have HX : Hid (RR X b tb bY la tcap lcap p S) := H.out.below HC.out.bl
 have HCC : Hid (∀ j u, (thL p S p.length)[j]? = some u → X.drew.cell? ((⟨tb, 0, none⟩ : Addr).add j) = some u) := fun j u hu => by
  have hadd : (⟨tb, 0, none⟩ : Addr).add j = ⟨tb, j, none⟩ := by unfold Addr.add; split <;> simp_all
  rw [hadd]; exact HX.out.thCells j u hu
 have htl := thL_length p S p.length
 have y5 := HX.out.ts
 have z5 := HC.out.ts
 have zf := HC.out.fb
 have hsz := HC.out.sz
 clear x0 x1 x2 x3 x4 x5 x6 x7 x8 x9 x10 x11 x12 x13
 go_region_law
  ((refine step_append_lies _ (by rfl) _ _ _ (by rfl) X.heap.size 121 i0 _ 2 16 Tryz.underlying116 hi0 hz0 hz1 hz2 rfl (by omega) (.slice none 0 0) 0 [] (by rfl) (World.ownsRow_nil _ _ _ _)
      ⟨tb, 0, none⟩ p.length tcap (thL p S p.length) (by rfl) (by rw [htl]) (by exact HCC.out) (thL_one p S p.length)
      (by omega) (by unfold maxLen; omega) (by omega) (Nat.le_refl _) X.heap.size (by simp) ?_; intro gg cap1 w2 hown1 hgrow hat hlt1
    simp only [Nat.zero_add, List.nil_append] at hown1 ⊢
    have HB2 : Hid (Below X.heap.size X w2) := Below.grown (Below.refl X.heap.size X).drew hgrow (by simp) (fun y hy => by simp [Value.ownBlock] at hy)
    have k5 := (HB2.out.cell (p := ⟨w.heap.size, 5, none⟩) hsz).trans z5
    have kf := (HB2.out.frozen (p := ⟨w.heap.size, 5, none⟩) hsz).trans (zf 5)))
 all_goals go_wp2
 all_goals go_ret
 all_goals exact ⟨w.heap.size, gg, cap1, rfl, Nat.le_refl _, Nat.le_trans (Nat.le_of_lt hsz) (hown1.lt gg rfl).1, (HC.out.bl.trans (HB2.out.mono (Nat.le_of_lt hsz))).setCell (Nat.le_refl _) _, CpAt.done H.out HC.out HB2.out hown1 (hown1.lt gg rfl).1⟩

/-- What a schedule has come to, with the number of its groups. -/
structure Reach (p : List (List Pl.POp)) (ms : List Int) (S : St) (es : List Ev) (g : Nat) : Prop where
 fol : follow p (beginTo p 4) [] 0 ms = some (S, es)
 ext : ∀ ms', follow p (beginTo p 4) [] 0 (ms ++ ms') = follow p S es g ms'
 told : Told es g
 gok : GrpOk es g
 ok : StOk S p

theorem Reach.start (p : List (List Pl.POp)) : Reach p [] (beginTo p 4) [] 0 :=
 ⟨rfl, fun _ => rfl, ⟨fun e he => (by cases he), ⟨fun e he => (by cases he), fun k hk => (by omega), rfl, Nat.le_refl _⟩, fun x hx => (by cases hx)⟩, grpOk_nil, begin_ok p⟩

def nextEv (es : List Ev) (g : Nat) (e : Ev) : Ev := e.inGroup (groupOf es e.thread e.block g)
def nextG (es : List Ev) (g : Nat) (e : Ev) : Nat := if groupOf es e.thread e.block g = (g : Int) then g + 1 else g

theorem Reach.next {p : List (List Pl.POp)} {ms : List Int} {S : St} {es : List Ev} {g : Nat} (h : Reach p ms S es g) (hr : ∀ n : Nat, RowOk (rowOf p n)) {n : Int} {S' : St} {e : Ev} (hs : step S p n = some (S', e)) : Reach p (ms ++ [n]) S' (es ++ [nextEv es g e]) (nextG es g e) := by
 have hx : ∀ ms', follow p (beginTo p 4) [] 0 (ms ++ [n] ++ ms') = follow p S' (es ++ [nextEv es g e]) (nextG es g e) ms' := fun ms' => by
  rw [List.append_assoc, h.ext]
  show follow p S es g (n :: ms') = _
  rw [follow, hs]; rfl
 refine ⟨?_, hx, ⟨?_, h.told.grp.snoc _ _ _ _ _, h.told.one.snoc h.told.grp _ _ _ _ _⟩, h.gok.snoc e, step_ok h.ok hs⟩
 ·have := hx []
  rw [List.append_nil] at this
  rw [this]; rfl
 ·intro x hx
  rcases List.mem_append.1 hx with hx | hx
  ·exact h.told.kind x hx
  ·rw [List.mem_singleton.1 hx]
   have hke := step_kind h.ok hr hs
   exact hke

def addRes (rs : List Res) (x : Res) : List Res := if x ∈ rs then rs else rs ++ [x]

def thruGo (p : List (List Pl.POp)) : Nat → St → List Ev → Nat → Bool × List Res → Bool × List Res
 | 0, _, _, _, A => A
 | k + 1, S, es, g, A => if readyTo S p 4 = [] then (A.1 && decide ((takeGroups es).2 = []), addRes A.2 (resOf S p)) else (readyTo S p 4).foldl (fun A n => match step S p n with
   | none => A
   | some (S', e) => thruGo p k S' (es ++ [nextEv es g e]) (nextG es g e) A) A

def thruNext (p : List (List Pl.POp)) (k : Nat) (S : St) (es : List Ev) (g : Nat) (A : Bool × List Res) (n : Int) : Bool × List Res := match step S p n with
 | none => A
 | some (S', e) => thruGo p k S' (es ++ [nextEv es g e]) (nextG es g e) A

theorem thru_next {p : List (List Pl.POp)} {k : Nat} {S : St} {es : List Ev} {g : Nat} {A : Bool × List Res} (h : readyTo S p 4 ≠ []) : thruGo p (k + 1) S es g A = (readyTo S p 4).foldl (thruNext p k S es g) A := by
 rw [thruGo, if_neg h]; rfl

theorem thru_end {p : List (List Pl.POp)} {k : Nat} {S : St} {es : List Ev} {g : Nat} {A : Bool × List Res} (h : readyTo S p 4 = []) : thruGo p (k + 1) S es g A = (A.1 && decide ((takeGroups es).2 = []), addRes A.2 (resOf S p)) := by
 rw [thruGo, if_pos h]

def thruOf (p : List (List Pl.POp)) : Bool × List Res := thruGo p (remS p (beginTo p 4) + 1) (beginTo p 4) [] 0 (true, [])

theorem fold_and {α : Type} {F : Bool × List Res → Int → Bool × List Res} {q : Int → Option α} : ∀ (l : List Int), (∀ A n, n ∈ l → (F A n).1 = (A.1 && (q n).isNone)) → ∀ A, (l.foldl F A).1 = (A.1 && (l.findSome? q).isNone)
 | [], _, A => by simp
 | n :: r, h, A => by
  rw [List.foldl_cons, fold_and r (fun A m hm => h A m (by simp [hm])), h A n (by simp), List.findSome?_cons]
  cases q n with
  | none => simp
  | some x => simp

theorem thru_atomic (p : List (List Pl.POp)) (hr : ∀ n : Nat, RowOk (rowOf p n)) : ∀ (k : Nat) (S : St) (es : List Ev) (g : Nat) (ms : List Int) (A : Bool × List Res), Reach p ms S es g → (thruGo p k S es g A).1 = (A.1 && (knotGo p k S ms).isNone)
 | 0, S, es, g, ms, A, _ => by simp [thruGo, knotGo]
 | k + 1, S, es, g, ms, A, h => by
  by_cases hrd : readyTo S p 4 = []
  ·rw [thru_end hrd, knotGo, if_pos hrd]
   unfold knotOf
   rw [h.fol]
   show (A.1 && decide ((takeGroups es).2 = [])) = (A.1 && (if cycleOf es = [] then none else some (ms, cycleOf es) : Option (List Int × List Int)).isNone)
   by_cases hc : cycleOf es = []
   ·rw [if_pos hc, decide_eq_true (cycleOf_nil.1 hc)]; rfl
   ·rw [if_neg hc, decide_eq_false (fun e => hc (cycleOf_nil.2 e))]; rfl
  ·rw [thru_next hrd, knotGo, if_neg hrd]
   refine fold_and _ (fun A n hn => ?_) A
   unfold thruNext
   cases hs : step S p n with
   | none => simp
   | some x =>
    obtain ⟨S', e⟩ := x
    exact thru_atomic p hr k S' _ _ (ms ++ [n]) A (h.next hr hs)

theorem add_mem (rs : List Res) (m x : Res) : x ∈ addRes rs m ↔ x ∈ rs ∨ x = m := by
 unfold addRes
 split
 ·rename_i h
  exact ⟨.inl, fun h2 => by rcases h2 with h2 | rfl; exact h2; exact h⟩
 ·simp

theorem fold_same {F : Bool × List Res → Int → Bool × List Res} {Gf : List Res → Int → List Res} : ∀ (l : List Int), (∀ A f n, (∀ x, x ∈ f ↔ x ∈ A.2) → ∀ x, x ∈ Gf f n ↔ x ∈ (F A n).2) → ∀ A f, (∀ x, x ∈ f ↔ x ∈ A.2) → ∀ x, x ∈ l.foldl Gf f ↔ x ∈ (l.foldl F A).2
 | [], _, A, f, h => h
 | n :: r, hF, A, f, h => fold_same r hF (F A n) (Gf f n) (hF A f n h)

theorem thru_mem (p : List (List Pl.POp)) : ∀ (k : Nat) (S : St) (es : List Ev) (g : Nat) (f : List Res) (A : Bool × List Res), (∀ x, x ∈ f ↔ x ∈ A.2) → ∀ x, x ∈ gatherGo p k S f ↔ x ∈ (thruGo p k S es g A).2
 | 0, S, es, g, f, A, h => h
 | k + 1, S, es, g, f, A, h => by
  by_cases hrd : readyTo S p 4 = []
  ·intro x
   rw [thru_end hrd, gatherGo, if_pos hrd, with_mem]
   show _ ↔ x ∈ addRes A.2 (resOf S p)
   rw [add_mem, h x]
  ·rw [thru_next hrd, gatherGo, if_neg hrd]
   refine fold_same _ (fun A f n hA => ?_) A f h
   unfold thruNext
   cases hs : step S p n with
   | none => exact hA
   | some x => exact thru_mem p k _ _ _ f A hA

theorem thru_keep (p : List (List Pl.POp)) (P : List Res → Prop) (hw : ∀ f S, P f → P (addRes f (resOf S p))) : ∀ (k : Nat) (S : St) (es : List Ev) (g : Nat) (A : Bool × List Res), P A.2 → P (thruGo p k S es g A).2
 | 0, S, es, g, A, h => h
 | k + 1, S, es, g, A, h => by
  by_cases hrd : readyTo S p 4 = []
  ·rw [thru_end hrd]; exact hw _ _ h
  ·rw [thru_next hrd]
   refine fold_keep (fun A : Bool × List Res => P A.2) _ _ (fun A n hA => ?_) A h
   unfold thruNext
   cases hs : step S p n with
   | none => exact hA
   | some x => exact thru_keep p P hw k _ _ _ A hA

theorem add_nodup {rs : List Res} {x : Res} (h : rs.Nodup) : (addRes rs x).Nodup := by
 unfold addRes
 split
 ·exact h
 ·rename_i hx
  rw [List.nodup_append]
  exact ⟨h, by simp, fun a ha b hb => by rw [List.mem_singleton] at hb; subst hb; rintro rfl; exact hx ha⟩

theorem add_length (rs : List Res) (x : Res) : rs.length ≤ (addRes rs x).length ∧ (addRes rs x).length ≤ rs.length + 1 := by
 unfold addRes
 split <;> simp

theorem thru_length (p : List (List Pl.POp)) : ∀ (k : Nat) (S : St) (es : List Ev) (g : Nat) (A : Bool × List Res), (thruGo p k S es g A).2.length ≤ A.2.length + 4 ^ k
 | 0, S, es, g, A => by show A.2.length ≤ _; omega
 | k + 1, S, es, g, A => by
  by_cases hrd : readyTo S p 4 = []
  ·rw [thru_end hrd]
   have := (add_length A.2 (resOf S p)).2
   have hp : 1 ≤ 4 ^ (k + 1) := Nat.pos_of_ne_zero (by simp)
   show (addRes A.2 (resOf S p)).length ≤ _
   omega
  ·rw [thru_next hrd]
   have key : ∀ (l : List Int) (A : Bool × List Res), (l.foldl (thruNext p k S es g) A).2.length ≤ A.2.length + l.length * 4 ^ k := fun l => by
    induction l with
    | nil => intro A; simp
    | cons n r ih =>
     intro A
     rw [List.foldl_cons]
     have h1 := ih (thruNext p k S es g A n)
     have h2 : (thruNext p k S es g A n).2.length ≤ A.2.length + 4 ^ k := by
      unfold thruNext
      cases hs : step S p n with
      | none => exact Nat.le_add_right _ _
      | some x => exact thru_length p k _ _ _ A
     rw [List.length_cons, Nat.add_mul, Nat.one_mul]
     generalize r.length * 4 ^ k = q at *
     generalize 4 ^ k = q2 at *
     omega
   have h1 := key (readyTo S p 4) A
   have h2 := readyTo_length S p 4
   have h3 : (readyTo S p 4).length * 4 ^ k ≤ 4 * 4 ^ k := Nat.mul_le_mul_right _ h2
   rw [Nat.pow_succ]
   generalize (readyTo S p 4).length * 4 ^ k = q at *
   generalize 4 ^ k = q2 at *
   omega

/-- Two rising lists with the same members are one. -/
theorem rising_unique : ∀ (a b : List Res), Rising a → Rising b → (∀ x, x ∈ a ↔ x ∈ b) → a = b
 | [], [], _, _, _ => rfl
 | [], y :: b, _, _, h => absurd ((h y).2 (by simp)) (by simp)
 | x :: a, [], _, _, h => absurd ((h x).1 (by simp)) (by simp)
 | x :: a, y :: b, ha, hb, h => by
  have ha' := List.pairwise_cons.1 ha
  have hb' := List.pairwise_cons.1 hb
  have hxy : x = y := by
   rcases List.mem_cons.1 ((h x).1 (by simp)) with e | e
   ·exact e
   ·rcases List.mem_cons.1 ((h y).2 (by simp)) with e2 | e2
    ·exact e2.symm
    ·have := before_trans (hb'.1 x e) (ha'.1 y e2)
     rw [before_irr] at this; cases this
  subst hxy
  rw [rising_unique a b ha'.2 hb'.2 fun z => ?_]
  constructor
  ·intro hz
   rcases List.mem_cons.1 ((h z).1 (by simp [hz])) with rfl | e
   ·have := ha'.1 z hz
    rw [before_irr] at this; cases this
   ·exact e
  ·intro hz
   rcases List.mem_cons.1 ((h z).2 (by simp [hz])) with rfl | e
   ·have := hb'.1 z hz
    rw [before_irr] at this; cases this
   ·exact e

/-! The reference's order of its results: exchange. -/

def swapAt (i j a : Nat) : Nat := if a = i then j else if a = j then i else a

theorem swap_get {L : List Res} {i j : Nat} {x y : Res} (hx : L[i]? = some x) (hy : L[j]? = some y) (hij : i ≠ j) (a : Nat) : ((L.set i y).set j x)[a]? = L[swapAt i j a]? := by
 have hi := (List.getElem?_eq_some_iff.1 hx).1
 have hj := (List.getElem?_eq_some_iff.1 hy).1
 unfold swapAt
 by_cases h1 : a = i
 ·subst h1
  rw [if_pos rfl, List.getElem?_set_ne (by omega), List.getElem?_set_self hi, hy]
 ·by_cases h2 : a = j
  ·subst h2
   rw [if_neg h1, if_pos rfl, List.getElem?_set_self (by simpa using hj), hx]
  ·rw [if_neg h1, if_neg h2, List.getElem?_set_ne (by omega), List.getElem?_set_ne (by omega)]

/-- The list as far as it is ordered. -/
structure SortTo (L0 L : List Res) (i j : Nat) : Prop where
 mem : ∀ x, x ∈ L ↔ x ∈ L0
 len : L.length = L0.length
 ne : ∀ (a b : Nat) (x y : Res), a ≠ b → L[a]? = some x → L[b]? = some y → x ≠ y
 lo : ∀ (a b : Nat) (x y : Res), a < i → a < b → L[a]? = some x → L[b]? = some y → before x y = true
 at_ : ∀ (b : Nat) (x y : Res), i < b → b < j → L[i]? = some x → L[b]? = some y → before x y = true

theorem SortTo.start {L : List Res} (h : L.Nodup) : SortTo L L 0 0 := by
 refine ⟨fun _ => Iff.rfl, rfl, fun a b x y hab hx hy e => ?_, fun a b x y ha => by omega, fun b x y h1 h2 => by omega⟩
 obtain ⟨ha, rfl⟩ := List.getElem?_eq_some_iff.1 hx
 obtain ⟨hb, rfl⟩ := List.getElem?_eq_some_iff.1 hy
 rw [List.Nodup, List.pairwise_iff_getElem] at h
 rcases Nat.lt_or_gt_of_ne hab with h1 | h1
 ·exact h a b ha hb h1 e
 ·exact h b a hb ha h1 e.symm

theorem SortTo.begin {L0 L : List Res} {i : Nat} (h : SortTo L0 L i 0) : SortTo L0 L i (i + 1) := ⟨h.mem, h.len, h.ne, h.lo, fun b x y h1 h2 => by omega⟩

theorem SortTo.skip {L0 L : List Res} {i j : Nat} (h : SortTo L0 L i j) {x y : Res} (hij : i < j) (hx : L[i]? = some x) (hy : L[j]? = some y) (hb : before y x = false) : SortTo L0 L i (j + 1) := by
 refine ⟨h.mem, h.len, h.ne, h.lo, fun b u v h1 h2 hu hv => ?_⟩
 by_cases e : b = j
 ·subst e
  rw [hx] at hu; rw [hy] at hv; cases hu; cases hv
  exact before_total hb (h.ne b i y x (by omega) hy hx)
 ·exact h.at_ b u v h1 (by omega) hu hv

theorem SortTo.swap {L0 L : List Res} {i j : Nat} (h : SortTo L0 L i j) {x y : Res} (hij : i < j) (hx : L[i]? = some x) (hy : L[j]? = some y) (hb : before y x = true) : SortTo L0 ((L.set i y).set j x) i (j + 1) := by
 have hg := swap_get hx hy (by omega)
 have inj : ∀ a b, a ≠ b → swapAt i j a ≠ swapAt i j b := fun a b hab => by unfold swapAt; (repeat' split) <;> omega
 refine ⟨fun z => ?_, by simp [h.len], fun a b u v hab hu hv => ?_, fun a b u v ha hab hu hv => ?_, fun b u v h1 h2 hu hv => ?_⟩
 ·rw [← h.mem z, List.mem_iff_getElem?, List.mem_iff_getElem?]
  constructor
  ·rintro ⟨a, ha⟩; rw [hg] at ha; exact ⟨_, ha⟩
  ·rintro ⟨a, ha⟩
   refine ⟨swapAt i j a, ?_⟩
   rw [hg, show swapAt i j (swapAt i j a) = a by unfold swapAt; (repeat' split) <;> omega]
   exact ha
 ·rw [hg] at hu hv
  exact h.ne _ _ u v (inj a b hab) hu hv
 ·rw [hg] at hu hv
  have e1 : swapAt i j a = a := by unfold swapAt; rw [if_neg (by omega), if_neg (by omega)]
  rw [e1] at hu
  exact h.lo a _ u v ha (by unfold swapAt; (repeat' split) <;> omega) hu hv
 ·rw [hg] at hu hv
  have e1 : swapAt i j i = j := by unfold swapAt; rw [if_pos rfl]
  rw [e1, hy] at hu
  cases hu
  by_cases e : b = j
  ·subst e
   have e2 : swapAt i b b = i := by unfold swapAt; rw [if_neg (by omega), if_pos rfl]
   rw [e2, hx] at hv
   cases hv
   exact hb
  ·have e2 : swapAt i j b = b := by unfold swapAt; rw [if_neg (by omega), if_neg e]
   rw [e2] at hv
   exact before_trans hb (h.at_ b x v h1 (by omega) hx hv)

theorem SortTo.next {L0 L : List Res} {i : Nat} (h : SortTo L0 L i L.length) : SortTo L0 L (i + 1) 0 := by
 refine ⟨h.mem, h.len, h.ne, fun a b x y ha hab hx hy => ?_, fun b x y h1 h2 => by omega⟩
 by_cases e : a = i
 ·subst e; exact h.at_ b x y hab (List.getElem?_eq_some_iff.1 hy).1 hx hy
 ·exact h.lo a b x y (by omega) hab hx hy

theorem SortTo.done {L0 L : List Res} (h : SortTo L0 L L.length 0) : Rising L := by
 unfold Rising
 rw [List.pairwise_iff_getElem]
 intro a b ha hb hab
 exact h.lo a b _ _ ha hab (List.getElem?_eq_getElem ha) (List.getElem?_eq_getElem hb)

theorem SortTo.out {p : List (List Pl.POp)} {L : List Res} (h : SortTo (thruOf p).2 L L.length 0) : L = outcomesOf p :=
 rising_unique _ _ h.done (outcomes_rising p) fun x => (h.mem x).trans (thru_mem p _ _ _ _ [] (true, []) (fun _ => Iff.rfl) x).symm

theorem thru_nodup (p : List (List Pl.POp)) : (thruOf p).2.Nodup := thru_keep p (fun f => f.Nodup) (fun f S h => add_nodup h) _ _ _ _ (true, []) List.nodup_nil

theorem thru_check (p : List (List Pl.POp)) (hr : ∀ n : Nat, RowOk (rowOf p n)) : (thruOf p).1 = (checkOf p).isNone := by
 have := thru_atomic p hr (remS p (beginTo p 4) + 1) (beginTo p 4) [] 0 [] (true, []) (Reach.start p)
 simpa [thruOf, checkOf] using this

def ownOf (ra : Option Addr) : Option Nat := ra.map (·.block)
theorem own_of (ra : Option Addr) (n c : Nat) : (Value.slice ra n c).ownBlock = ownOf ra := by cases ra <;> rfl

/-- The reference's All in memory. -/
structure AllAt (w : World) (ab : Nat) (A : Bool × List Res) (ra : Option Addr) (rcap : Nat) : Prop where
 c0 : w.cell? ⟨ab, 0, none⟩ = some (.bool A.1)
 c1 : w.cell? ⟨ab, 1, none⟩ = some (.slice ra A.2.length rcap)
 fz : ∀ j, w.frozen? ⟨ab, j, none⟩ = false
 own : w.ownsRow (ab + 1) 66 5 (.slice ra A.2.length rcap) A.2.length (resCells A.2)
 lt : ab < w.heap.size

theorem AllAt.row {w : World} {ab : Nat} {A : Bool × List Res} {ra : Option Addr} {rcap : Nat} (h : AllAt w ab A ra rcap) {q : Nat} (hq : ownOf ra = some q) : ab < q ∧ q < w.heap.size := by
 have := h.own.lt q (by rw [own_of]; exact hq)
 omega

theorem AllAt.of {w w' : World} {ab : Nat} {A : Bool × List Res} {ra : Option Addr} {rcap : Nat} (h : AllAt w ab A ra rcap) (hb : w'.heap[ab]? = w.heap[ab]?) (hr : ∀ q, ownOf ra = some q → w'.heap[q]? = w.heap[q]?) (hz : w.heap.size ≤ w'.heap.size) : AllAt w' ab A ra rcap :=
 ⟨(World.cell?_of_block (w := w) (a := ⟨ab, 0, none⟩) hb).trans h.c0, (World.cell?_of_block (w := w) (a := ⟨ab, 1, none⟩) hb).trans h.c1, fun j => (World.frozen?_of_block (w := w) (a := ⟨ab, j, none⟩) hb).trans (h.fz j), ownsRow_of_block h.own (fun q hq => hr q (by rw [← own_of]; exact hq)), Nat.lt_of_lt_of_le h.lt hz⟩

theorem AllAt.below {w w' : World} {ab : Nat} {A : Bool × List Res} {ra : Option Addr} {rcap : Nat} (h : AllAt w ab A ra rcap) (hb : Below w.heap.size w w') : AllAt w' ab A ra rcap :=
 h.of (hb.block ab h.lt) (fun q hq => hb.block q (h.row hq).2) hb.size

theorem AllAt.putA {w : World} {ab : Nat} {A : Bool × List Res} {ra : Option Addr} {rcap : Nat} (h : AllAt w ab A ra rcap) (x : Bool) : AllAt (w.setCell ⟨ab, 0, none⟩ (.bool x)) ab (x, A.2) ra rcap :=
 ⟨World.cell?_setCell_same _ _ _ h.c0, (World.cell?_setCell_other _ _ _ _ (by simp)).trans h.c1, fun j => by rw [World.frozen?_setCell]; exact h.fz j,
   ownsRow_of_block h.own (fun q hq => heap_far _ _ _ _ (by have := (h.own.lt q hq).1; show q ≠ ab; omega)), by rw [World.size_setCell]; exact h.lt⟩

/-- What through leaves as it was. -/
structure Thr (ab : Nat) (w w' : World) (o o' : Option Nat) : Prop where
 os : w'.os = w.os
 tape : w'.tape = w.tape
 output : w'.output = w.output
 size : w.heap.size ≤ w'.heap.size
 block : ∀ k, k < w.heap.size → k ≠ ab → o ≠ some k → w'.heap[k]? = w.heap[k]?
 own : o' = o ∨ ∃ k, o' = some k ∧ w.heap.size ≤ k

theorem Thr.refl (ab : Nat) (w : World) (o : Option Nat) : Thr ab w w o o := ⟨rfl, rfl, rfl, Nat.le_refl _, fun _ _ _ _ => rfl, .inl rfl⟩
theorem Thr.trans {ab : Nat} {w w1 w2 : World} {o o1 o2 : Option Nat} (h : Thr ab w w1 o o1) (g : Thr ab w1 w2 o1 o2) : Thr ab w w2 o o2 := by
 have hs := h.size
 refine ⟨g.os.trans h.os, g.tape.trans h.tape, g.output.trans h.output, Nat.le_trans h.size g.size, fun k hk h1 h2 => (g.block k (by omega) h1 ?_).trans (h.block k hk h1 h2), ?_⟩
 ·rcases h.own with e | ⟨q, e, hq⟩
  ·rw [e]; exact h2
  ·rw [e]; intro e2; cases e2; omega
 ·rcases g.own with e | ⟨q, e, hq⟩
  ·rw [e]; exact h.own
  ·exact .inr ⟨q, e, by omega⟩
theorem Thr.of {ab : Nat} {w w' : World} (h : Below w.heap.size w w') (o : Option Nat) : Thr ab w w' o o := ⟨h.os, h.tape, h.output, h.size, fun k hk _ _ => h.block k hk, .inl rfl⟩
theorem Thr.setA (ab : Nat) (w : World) (o : Option Nat) (j : Nat) (v : Value) : Thr ab w (w.setCell ⟨ab, j, none⟩ v) o o := ⟨rfl, rfl, rfl, by rw [World.size_setCell]; exact Nat.le_refl _, fun k _ h _ => heap_far _ _ _ _ h, .inl rfl⟩
theorem Thr.below {ab B : Nat} {w w' : World} {o o' : Option Nat} (h : Thr ab w w' o o') (h1 : B ≤ ab) (h2 : ∀ q, o = some q → B ≤ q) (h3 : B ≤ w.heap.size) : Below B w w' :=
 ⟨h.os, h.tape, h.output, h.size, fun k hk => h.block k (by omega) (by omega) (fun e => by have := h2 k e; omega)⟩

/-- A block that through does not touch. -/
def Clear (ab : Nat) (o : Option Nat) (q : Nat) : Prop := q ≠ ab ∧ o ≠ some q

theorem Clear.next {ab q : Nat} {w w' : World} {o o' : Option Nat} (h : Clear ab o q) (ht : Thr ab w w' o o') (hq : q < w.heap.size) : Clear ab o' q := by
 refine ⟨h.1, ?_⟩
 rcases ht.own with e | ⟨k, e, hk⟩
 ·rw [e]; exact h.2
 ·rw [e]; intro e2; cases e2; omega

theorem RR.thr {ab : Nat} {w w' : World} {o o' : Option Nat} {b tb bY la tcap lcap : Nat} {p : List (List Pl.POp)} {S : St} (h : RR w b tb bY la tcap lcap p S) (ht : Thr ab w w' o o') (hc : ∀ q, q = b ∨ q = tb ∨ q = bY ∨ q = la → Clear ab o q) : RR w' b tb bY la tcap lcap p S := by
 obtain ⟨h1, h2, h3, h4⟩ := h.lt
 exact h.of fun k hk => ht.block k (by omega) (hc k hk).1 (hc k hk).2

theorem owns_thr {ab : Nat} {w w' : World} {o o' : Option Nat} {lo : Nat} {e : TypeId} {size : Nat} {v : Value} {n : Nat} {xs : List Value} (h : w.ownsRow lo e size v n xs) (ht : Thr ab w w' o o') (hc : ∀ q, v.ownBlock = some q → Clear ab o q) : w'.ownsRow lo e size v n xs :=
 ownsRow_of_block h (fun q hq => ht.block q (h.lt q hq).2 (hc q hq).1 (hc q hq).2)

/-- A result more. -/
theorem AllAt.putR {w w2 : World} {ab : Nat} {A : Bool × List Res} {ra : Option Addr} {rcap gg cap1 : Nat} {x : Res} (h : AllAt w ab A ra rcap) (obj : Obj)
  (hg : (w.alloc obj).grownBy w2 (ownOf ra)) (ho : w2.ownsRow (ab + 1) 66 5 (.slice (some ⟨gg, 0, none⟩) (A.2.length + 1) cap1) (A.2.length + 1) (resCells (A.2 ++ [x]))) (hat : ownOf ra = some gg ∨ gg = w.heap.size + 1) :
  AllAt (w2.setCell ⟨ab, 1, none⟩ (.slice (some ⟨gg, 0, none⟩) (A.2.length + 1) cap1)) ab (A.1, A.2 ++ [x]) (some ⟨gg, 0, none⟩) cap1 ∧ Thr ab w (w2.setCell ⟨ab, 1, none⟩ (.slice (some ⟨gg, 0, none⟩) (A.2.length + 1) cap1)) (ownOf ra) (some gg) := by
 have hz : w.heap.size ≤ w2.heap.size := by have := hg.size; simp at this; omega
 have hb : ∀ k, k < w.heap.size → ownOf ra ≠ some k → w2.heap[k]? = w.heap[k]? := fun k hk hne => (hg.block k (by simp; omega) (fun e => hne e.symm)).trans (Below.heap_alloc w obj k hk)
 have hab : w2.heap[ab]? = w.heap[ab]? := hb ab h.lt (fun e => by have := h.row e; omega)
 refine ⟨⟨(World.cell?_setCell_other _ _ _ _ (by simp)).trans ((World.cell?_of_block (w := w) (a := ⟨ab, 0, none⟩) hab).trans h.c0), ?_, fun j => ?_, ?_, ?_⟩, ⟨hg.os, hg.tape, hg.output, by rw [World.size_setCell]; exact hz, fun k hk h1 h2 => (heap_far _ _ _ _ h1).trans (hb k hk h2), ?_⟩⟩
 ·rw [List.length_append]
  exact World.cell?_setCell_same _ _ _ ((World.cell?_of_block (w := w) (a := ⟨ab, 1, none⟩) hab).trans h.c1)
 ·rw [World.frozen?_setCell]; exact (World.frozen?_of_block (w := w) (a := ⟨ab, j, none⟩) hab).trans (h.fz j)
 ·rw [List.length_append]
  exact ownsRow_of_block ho (fun q hq => heap_far _ _ _ _ (by have := (ho.lt q hq).1; show q ≠ ab; omega))
 ·rw [World.size_setCell]; exact Nat.lt_of_lt_of_le h.lt hz
 ·rcases hat with e | e
  ·exact .inl e.symm
  ·exact .inr ⟨gg, rfl, by omega⟩

/-- The last group told, from the number of the groups on. -/
theorem last_grp {es : List Ev} {g : Nat} (h : GrpOk es g) (t : Int) {b : Int} (hb : b ≠ -1) : lastGrp t b es (g : Int) = groupOf es t b g := by
 rcases last_cases t b es (g : Int) with ⟨h1, h2⟩ | ⟨y, h1, h2, h3, h4⟩
 ·rcases groupOf_cases t b g hb es with ⟨g1, -⟩ | ⟨x, g1, g2, g3, -⟩
  ·rw [h1, g1]
  ·exact absurd ⟨g2, g3⟩ (h2 x g1)
 ·rcases groupOf_cases t b g hb es with ⟨-, g2⟩ | ⟨x, g1, g2, g3, g4⟩
  ·exact absurd ⟨h2, h3⟩ (g2 y h1)
  ·rw [g4, h4]
   have hs : SameG x y := ⟨by rw [g2, h2], by rw [g3, h3], by rw [g3]; exact hb⟩
   rcases two_mem g1 h1 with e | e | e
   ·rw [e]
   ·exact ((h.same _ _ e).2 hs).symm
   ·exact (h.same _ _ e).2 hs.symm

theorem refLess_any (x y : Res) (w : World) : Calls Tryz.prog 47 #[resA x, resA y] w fun e w' => e = .returned (.bool (before x y)) ∧ Below w.heap.size w w' := by
 obtain ⟨x0, x1, x2, x3, x4⟩ := x
 obtain ⟨y0, y1, y2, y3, y4⟩ := y
 have HV0 : Hid (x0 ≠ y0 → before (x0, x1, x2, x3, x4) (y0, y1, y2, y3, y4) = decide ((x0 : Int) < (y0 : Int))) := fun h => by simp [before, h]
 have HV1 : Hid (x0 = y0 → x1 ≠ y1 → before (x0, x1, x2, x3, x4) (y0, y1, y2, y3, y4) = decide (x1 < y1)) := fun h h1 => by simp [before, h, h1]
 have HV2 : Hid (x0 = y0 → x1 = y1 → x2 ≠ y2 → before (x0, x1, x2, x3, x4) (y0, y1, y2, y3, y4) = decide (x2 < y2)) := fun h h1 h2 => by simp [before, h, h1, h2]
 have HV3 : Hid (x0 = y0 → x1 = y1 → x2 = y2 → x3 ≠ y3 → before (x0, x1, x2, x3, x4) (y0, y1, y2, y3, y4) = decide (x3 < y3)) := fun h h1 h2 h3 => by simp [before, h, h1, h2, h3]
 have HV4 : Hid (x0 = y0 → x1 = y1 → x2 = y2 → x3 = y3 → x4 ≠ y4 → before (x0, x1, x2, x3, x4) (y0, y1, y2, y3, y4) = decide (x4 < y4)) := fun h h1 h2 h3 h4 => by simp [before, h, h1, h2, h3, h4]
 have HV5 : Hid (x0 = y0 → x1 = y1 → x2 = y2 → x3 = y3 → x4 = y4 → before (x0, x1, x2, x3, x4) (y0, y1, y2, y3, y4) = false) := fun h h1 h2 h3 h4 => by simp [before, h, h1, h2, h3, h4]
 generalize before (x0, x1, x2, x3, x4) (y0, y1, y2, y3, y4) = bb at *
 unfold resA resL
 simp only
 go_enter Tryz.func47, Tryz.ntmps47
 go_upto_region 1 with fail
 have a0 : ((w.alloc (.cells #[.int .u8 (x0 : Int), .int .i16 x1, .int .i16 x2, .int .i16 x3, .int .i16 x4] 66)).alloc (.cells #[.int .u8 (y0 : Int), .int .i16 y1, .int .i16 y2, .int .i16 y3, .int .i16 y4] 66)).cell? ⟨w.heap.size, 0, none⟩ = some (.int .u8 (x0 : Int)) := by rw [World.cell?_alloc_past _ _ _ (by simp)]; simp
 have a1 : ((w.alloc (.cells #[.int .u8 (x0 : Int), .int .i16 x1, .int .i16 x2, .int .i16 x3, .int .i16 x4] 66)).alloc (.cells #[.int .u8 (y0 : Int), .int .i16 y1, .int .i16 y2, .int .i16 y3, .int .i16 y4] 66)).cell? ⟨w.heap.size, 1, none⟩ = some (.int .i16 x1) := by rw [World.cell?_alloc_past _ _ _ (by simp)]; simp
 have a2 : ((w.alloc (.cells #[.int .u8 (x0 : Int), .int .i16 x1, .int .i16 x2, .int .i16 x3, .int .i16 x4] 66)).alloc (.cells #[.int .u8 (y0 : Int), .int .i16 y1, .int .i16 y2, .int .i16 y3, .int .i16 y4] 66)).cell? ⟨w.heap.size, 2, none⟩ = some (.int .i16 x2) := by rw [World.cell?_alloc_past _ _ _ (by simp)]; simp
 have a3 : ((w.alloc (.cells #[.int .u8 (x0 : Int), .int .i16 x1, .int .i16 x2, .int .i16 x3, .int .i16 x4] 66)).alloc (.cells #[.int .u8 (y0 : Int), .int .i16 y1, .int .i16 y2, .int .i16 y3, .int .i16 y4] 66)).cell? ⟨w.heap.size, 3, none⟩ = some (.int .i16 x3) := by rw [World.cell?_alloc_past _ _ _ (by simp)]; simp
 have a4 : ((w.alloc (.cells #[.int .u8 (x0 : Int), .int .i16 x1, .int .i16 x2, .int .i16 x3, .int .i16 x4] 66)).alloc (.cells #[.int .u8 (y0 : Int), .int .i16 y1, .int .i16 y2, .int .i16 y3, .int .i16 y4] 66)).cell? ⟨w.heap.size, 4, none⟩ = some (.int .i16 x4) := by rw [World.cell?_alloc_past _ _ _ (by simp)]; simp
 have b0 : ((w.alloc (.cells #[.int .u8 (x0 : Int), .int .i16 x1, .int .i16 x2, .int .i16 x3, .int .i16 x4] 66)).alloc (.cells #[.int .u8 (y0 : Int), .int .i16 y1, .int .i16 y2, .int .i16 y3, .int .i16 y4] 66)).cell? ⟨w.heap.size + 1, 0, none⟩ = some (.int .u8 (y0 : Int)) := by simp
 have b1 : ((w.alloc (.cells #[.int .u8 (x0 : Int), .int .i16 x1, .int .i16 x2, .int .i16 x3, .int .i16 x4] 66)).alloc (.cells #[.int .u8 (y0 : Int), .int .i16 y1, .int .i16 y2, .int .i16 y3, .int .i16 y4] 66)).cell? ⟨w.heap.size + 1, 1, none⟩ = some (.int .i16 y1) := by simp
 have b2 : ((w.alloc (.cells #[.int .u8 (x0 : Int), .int .i16 x1, .int .i16 x2, .int .i16 x3, .int .i16 x4] 66)).alloc (.cells #[.int .u8 (y0 : Int), .int .i16 y1, .int .i16 y2, .int .i16 y3, .int .i16 y4] 66)).cell? ⟨w.heap.size + 1, 2, none⟩ = some (.int .i16 y2) := by simp
 have b3 : ((w.alloc (.cells #[.int .u8 (x0 : Int), .int .i16 x1, .int .i16 x2, .int .i16 x3, .int .i16 x4] 66)).alloc (.cells #[.int .u8 (y0 : Int), .int .i16 y1, .int .i16 y2, .int .i16 y3, .int .i16 y4] 66)).cell? ⟨w.heap.size + 1, 3, none⟩ = some (.int .i16 y3) := by simp
 have b4 : ((w.alloc (.cells #[.int .u8 (x0 : Int), .int .i16 x1, .int .i16 x2, .int .i16 x3, .int .i16 x4] 66)).alloc (.cells #[.int .u8 (y0 : Int), .int .i16 y1, .int .i16 y2, .int .i16 y3, .int .i16 y4] 66)).cell? ⟨w.heap.size + 1, 4, none⟩ = some (.int .i16 y4) := by simp
 have HB : Hid (Below w.heap.size w ((w.alloc (.cells #[.int .u8 (x0 : Int), .int .i16 x1, .int .i16 x2, .int .i16 x3, .int .i16 x4] 66)).alloc (.cells #[.int .u8 (y0 : Int), .int .i16 y1, .int .i16 y2, .int .i16 y3, .int .i16 y4] 66))) := two_new w _ _
 have HZ : Hid (((w.alloc (.cells #[.int .u8 (x0 : Int), .int .i16 x1, .int .i16 x2, .int .i16 x3, .int .i16 x4] 66)).alloc (.cells #[.int .u8 (y0 : Int), .int .i16 y1, .int .i16 y2, .int .i16 y3, .int .i16 y4] 66)).heap.size = w.heap.size + 2) := by show _ = _; simp
 generalize ((w.alloc (.cells #[.int .u8 (x0 : Int), .int .i16 x1, .int .i16 x2, .int .i16 x3, .int .i16 x4] 66)).alloc (.cells #[.int .u8 (y0 : Int), .int .i16 y1, .int .i16 y2, .int .i16 y3, .int .i16 y4] 66)) = W at *
 have hwz := HZ.out
 cases hE : ((x0 : Int) != (y0 : Int))
 ·have hxy : Hid (x0 = y0) := by (have : (x0 : Int) = (y0 : Int) := by simpa using hE); show _ = _; omega
  go_wp2_with fail
  go_loopw [5] (fun v5 wr => ∃ i : Nat, i ≤ 4 ∧ v5 = .int .i64 (i : Int) ∧ Hid (Below W.heap.size W wr ∧ (1 ≤ i → x1 = y1) ∧ (2 ≤ i → x2 = y2) ∧ (3 ≤ i → x3 = y3) ∧ (4 ≤ i → x4 = y4))) (fun v5 _ => 4 - (intOf v5).toNat)
  case atStart => exact ⟨0, by omega, rfl, (show Hid _ from ⟨Below.refl _ _, by omega, by omega, by omega, by omega⟩)⟩
  case round =>
   obtain ⟨i, hi4, rfl, H1⟩ := hrel
   have : i = 0 ∨ i = 1 ∨ i = 2 ∨ i = 3 ∨ i = 4 := by omega
   rcases this with rfl | rfl | rfl | rfl | rfl
   ·have a1' := (H1.out.1.cell (p := ⟨w.heap.size, 1, none⟩) (by show w.heap.size < W.heap.size; omega)).trans a1
    have b1' := (H1.out.1.cell (p := ⟨w.heap.size + 1, 1, none⟩) (by show w.heap.size + 1 < W.heap.size; omega)).trans b1
    cases hc : (x1 != y1)
    ·have HQ : Hid (x1 = y1) := by show _ = _; simpa using hc
     go_upto_region 6 with fail
     go_quiet (fail)
     go_wp2
     go_roundw
     case rel => exact ⟨1, by omega, rfl, (show Hid _ from ⟨below_drewN H1.out.1 _, fun _ => HQ.out, fun h => by omega, fun h => by omega, fun h => by omega⟩)⟩
     case measure => simp [intOf]
    ·have HQ : Hid (x1 ≠ y1) := by show _ ≠ _; simpa using hc
     go_upto_region 6 with fail
     go_quiet (fail)
     go_upto_region 7 with fail
     go_quiet (fail)
     go_wp2
     go_ret
     exact ⟨by rw [HV1.out hxy.out  HQ.out]; simp, HB.out.trans ((below_drewN (below_drewN H1.out.1 _) _).mono HB.out.size)⟩
   ·have a2' := (H1.out.1.cell (p := ⟨w.heap.size, 2, none⟩) (by show w.heap.size < W.heap.size; omega)).trans a2
    have b2' := (H1.out.1.cell (p := ⟨w.heap.size + 1, 2, none⟩) (by show w.heap.size + 1 < W.heap.size; omega)).trans b2
    cases hc : (x2 != y2)
    ·have HQ : Hid (x2 = y2) := by show _ = _; simpa using hc
     go_upto_region 6 with fail
     go_quiet (fail)
     go_wp2
     go_roundw
     case rel => exact ⟨2, by omega, rfl, (show Hid _ from ⟨below_drewN H1.out.1 _, fun _ => H1.out.2.1 (by omega), fun _ => HQ.out, fun h => by omega, fun h => by omega⟩)⟩
     case measure => simp [intOf]
    ·have HQ : Hid (x2 ≠ y2) := by show _ ≠ _; simpa using hc
     go_upto_region 6 with fail
     go_quiet (fail)
     go_upto_region 7 with fail
     go_quiet (fail)
     go_wp2
     go_ret
     exact ⟨by rw [HV2.out hxy.out (H1.out.2.1 (by omega)) HQ.out]; simp, HB.out.trans ((below_drewN (below_drewN H1.out.1 _) _).mono HB.out.size)⟩
   ·have a3' := (H1.out.1.cell (p := ⟨w.heap.size, 3, none⟩) (by show w.heap.size < W.heap.size; omega)).trans a3
    have b3' := (H1.out.1.cell (p := ⟨w.heap.size + 1, 3, none⟩) (by show w.heap.size + 1 < W.heap.size; omega)).trans b3
    cases hc : (x3 != y3)
    ·have HQ : Hid (x3 = y3) := by show _ = _; simpa using hc
     go_upto_region 6 with fail
     go_quiet (fail)
     go_wp2
     go_roundw
     case rel => exact ⟨3, by omega, rfl, (show Hid _ from ⟨below_drewN H1.out.1 _, fun _ => H1.out.2.1 (by omega), fun _ => H1.out.2.2.1 (by omega), fun _ => HQ.out, fun h => by omega⟩)⟩
     case measure => simp [intOf]
    ·have HQ : Hid (x3 ≠ y3) := by show _ ≠ _; simpa using hc
     go_upto_region 6 with fail
     go_quiet (fail)
     go_upto_region 7 with fail
     go_quiet (fail)
     go_wp2
     go_ret
     exact ⟨by rw [HV3.out hxy.out (H1.out.2.1 (by omega)) (H1.out.2.2.1 (by omega)) HQ.out]; simp, HB.out.trans ((below_drewN (below_drewN H1.out.1 _) _).mono HB.out.size)⟩
   ·have a4' := (H1.out.1.cell (p := ⟨w.heap.size, 4, none⟩) (by show w.heap.size < W.heap.size; omega)).trans a4
    have b4' := (H1.out.1.cell (p := ⟨w.heap.size + 1, 4, none⟩) (by show w.heap.size + 1 < W.heap.size; omega)).trans b4
    cases hc : (x4 != y4)
    ·have HQ : Hid (x4 = y4) := by show _ = _; simpa using hc
     go_upto_region 6 with fail
     go_quiet (fail)
     go_wp2
     go_roundw
     case rel => exact ⟨4, by omega, rfl, (show Hid _ from ⟨below_drewN H1.out.1 _, fun _ => H1.out.2.1 (by omega), fun _ => H1.out.2.2.1 (by omega), fun _ => H1.out.2.2.2.1 (by omega), fun _ => HQ.out⟩)⟩
     case measure => simp [intOf]
    ·have HQ : Hid (x4 ≠ y4) := by show _ ≠ _; simpa using hc
     go_upto_region 6 with fail
     go_quiet (fail)
     go_upto_region 7 with fail
     go_quiet (fail)
     go_wp2
     go_ret
     exact ⟨by rw [HV4.out hxy.out (H1.out.2.1 (by omega)) (H1.out.2.2.1 (by omega)) (H1.out.2.2.2.1 (by omega)) HQ.out]; simp, HB.out.trans ((below_drewN (below_drewN H1.out.1 _) _).mono HB.out.size)⟩
   ·go_wp2
    go_ret
    exact ⟨by rw [HV5.out hxy.out (H1.out.2.1 (by omega)) (H1.out.2.2.1 (by omega)) (H1.out.2.2.2.1 (by omega)) (H1.out.2.2.2.2 (by omega))]; rfl, HB.out.trans (H1.out.1.mono HB.out.size)⟩
 ·have HQ : Hid (x0 ≠ y0) := by
   show _ ≠ _
   rintro rfl
   simp at hE
  go_wp2
  go_ret
  exact ⟨by rw [HV0.out HQ.out]; simp, HB.out⟩

end Go.Proofs.YtfdafcnfefbcbabGreat
