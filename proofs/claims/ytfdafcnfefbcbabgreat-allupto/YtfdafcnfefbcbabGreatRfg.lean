/-
 Several texts of ours in one: RefStep, RefPlay.
-/
import Derived.Test.YtfdafcnfefbcbabGreatRefStepR
import Derived.Test.YtfdafcnfefbcbabGreatRefStepW
import Derived.Test.YtfdafcnfefbcbabGreatRefStepL
import Derived.Test.YtfdafcnfefbcbabGreatRefStepU
import Derived.Test.YtfdafcnfefbcbabGreatRefStepF
import Derived.Test.YtfdafcnfefbcbabGreatRff
import Derived.Test.YtfdafcnfefbcbabGreatFol
import Derived.Test.YtfdafcnfefbcbabGreatPla
/-
 The contract of the reference's Step.
-/
namespace Go.Proofs.YtfdafcnfefbcbabGreat
open Go.RowKit
set_option linter.unusedVariables false
set_option maxRecDepth 100000
set_option maxHeartbeats 4000000

theorem refStep_any {w : World} {b tb bY la tcap lcap : Nat} {p : List (List Pl.POp)} {S S' : St} {ev : Ev} (h : RR w b tb bY la tcap lcap p S) (hok : StOk S p) (hlo : ∀ n : Nat, n < 4 → (S.th n).h0 ≤ 1000 ∧ (S.th n).h1 ≤ 1000) (n : Nat) (hst : step S p (n : Int) = some (S', ev)) :
  Calls Tryz.prog 36 #[.pointer (some ⟨b, 0, none⟩), .int .i64 (n : Int)] w
   fun e w' => e = .returned ev.val ∧ Kept b tb w w' ∧ RR w' b tb bY la tcap lcap p S' := by
 obtain ⟨o, hop⟩ : ∃ o, stOp S p (n : Int) = some o := by
  unfold step at hst
  split at hst
  ·cases hst
  ·rename_i o ho; exact ⟨o, ho⟩
 obtain ⟨n', hnn, hn4, hopa⟩ := stOp_some hop
 obtain rfl : n = n' := by omega
 have hsh : Pl.isShared o.kind = true := (hok n hn4).stands o hopa
 have hkinds : o.kind = 114 ∨ o.kind = 119 ∨ o.kind = 108 ∨ o.kind = 117 := by simp only [Pl.isShared, Bool.or_eq_true, beq_iff_eq] at hsh; omega
 rcases hkinds with hk | hk | hk | hk
 ·exact refStep_r h hok hlo n hst o hop hk
 ·exact refStep_w h hok hlo n hst o hop hk
 ·exact refStep_l h hok hlo n hst o hop hk
 ·rcases Nat.eq_zero_or_pos ((S.th n).held (lockOf o.name)) with hz | hz
  ·exact refStep_f h hok hlo n hst o hop hk hz
  ·exact refStep_u h hok hlo n hst o hop hk hz

/-- A list of numbers behind a slice. -/
def SeqIn (w : World) (a : Option Addr) (l : List Int) : Prop :=
 0 < l.length → ∃ g o, a = some ⟨g, o, none⟩ ∧ g < w.heap.size ∧ ∀ (i : Nat) (x : Int), l[i]? = some x → w.cell? ⟨g, o + i, none⟩ = some (.int .i64 x)

theorem SeqIn.below {w w' : World} {a : Option Addr} {l : List Int} (h : SeqIn w a l) (hb : Below w.heap.size w w') : SeqIn w' a l := fun h0 => by
 obtain ⟨g, o, e, hg, hc⟩ := h h0
 exact ⟨g, o, e, Nat.lt_of_lt_of_le hg hb.size, fun i x hx => (hb.cell (p := ⟨g, o + i, none⟩) hg).trans (hc i x hx)⟩

theorem IntsIn.seq {w : World} {a : Option Addr} {l : List Int} (h : IntsIn w a l) : SeqIn w a l := fun h0 => by
 obtain ⟨g, e, hg, hc⟩ := h h0
 exact ⟨g, 0, e, hg, fun i x hx => by rw [Nat.zero_add]; exact hc i x hx⟩

/-- The last group told of a thread's block. -/
def lastGrp (t b : Int) : List Ev → Int → Int
 | [], x => x
 | e :: r, x => lastGrp t b r (if e.thread = t ∧ e.block = b then e.group else x)

theorem last_cases (t b : Int) : ∀ (l : List Ev) (x : Int), (lastGrp t b l x = x ∧ ∀ e ∈ l, ¬ (e.thread = t ∧ e.block = b)) ∨ ∃ y ∈ l, y.thread = t ∧ y.block = b ∧ lastGrp t b l x = y.group
 | [], x => .inl ⟨rfl, fun e he => by cases he⟩
 | e :: r, x => by
  unfold lastGrp
  by_cases h : e.thread = t ∧ e.block = b
  ·rw [if_pos h]
   rcases last_cases t b r e.group with ⟨h1, h2⟩ | ⟨y, h1, h2⟩
   ·exact .inr ⟨e, by simp, h.1, h.2, h1⟩
   ·exact .inr ⟨y, by simp [h1], h2⟩
  ·rw [if_neg h]
   rcases last_cases t b r x with ⟨h1, h2⟩ | ⟨y, h1, h2⟩
   ·exact .inl ⟨h1, fun z hz => by
       rcases List.mem_cons.1 hz with rfl | hz
       · exact h
       · exact h2 z hz⟩
   ·exact .inr ⟨y, by simp [h1], h2⟩

theorem last_is {es : List Ev} {g : Nat} (h : GrpOk es g) (hn : ∀ e ∈ es, 0 ≤ e.group) (t : Int) {b : Int} (hb : b ≠ -1) :
  (lastGrp t b es (-1) = -1 ∧ groupOf es t b g = g) ∨ (0 ≤ lastGrp t b es (-1) ∧ groupOf es t b g = lastGrp t b es (-1) ∧ lastGrp t b es (-1) < (g : Int)) := by
 rcases last_cases t b es (-1) with ⟨h1, h2⟩ | ⟨y, h1, h2, h3, h4⟩
 ·rcases groupOf_cases t b g hb es with ⟨g1, -⟩ | ⟨x, g1, g2, g3, -⟩
  ·exact .inl ⟨h1, g1⟩
  ·exact absurd ⟨g2, g3⟩ (h2 x g1)
 ·rcases groupOf_cases t b g hb es with ⟨-, g2⟩ | ⟨x, g1, g2, g3, g4⟩
  ·exact absurd ⟨h2, h3⟩ (g2 y h1)
  ·refine .inr ⟨by rw [h4]; exact hn y h1, ?_, by rw [h4]; exact h.lt y h1⟩
   rw [g4, h4]
   have hs : SameG x y := ⟨by rw [g2, h2], by rw [g3, h3], by rw [g3]; exact hb⟩
   rcases two_mem g1 h1 with e | e | e
   ·rw [e]
   ·exact (h.same _ _ e).2 hs
   ·exact ((h.same _ _ e).2 hs.symm).symm

theorem len_text : ∀ r : List Pl.POp, r.length ≤ (textOf r).length
 | [] => Nat.le_refl _
 | o :: r => by
  have := len_text r
  have := opSize_pos o.kind
  rw [textOf_cons, List.length_append, opBytes_length, List.length_cons]
  omega

theorem RR.short {w : World} {b tb bY la tcap lcap : Nat} {p : List (List Pl.POp)} {S : St} (h : RR w b tb bY la tcap lcap p S) (n : Nat) : (rowOf p n).length ≤ 1000 := by
 by_cases hn : n < p.length
 ·obtain ⟨s, -, h2, h3⟩ := h.ls n hn
  have := len_text (rowOf p n)
  rw [← h2, bytesOf_length] at this
  omega
 ·rw [rowOf_past (by omega)]; simp

theorem RR.low {w : World} {b tb bY la tcap lcap : Nat} {p : List (List Pl.POp)} {S : St} (h : RR w b tb bY la tcap lcap p S) (hok : StOk S p) : (∀ n : Nat, n < 4 → (S.th n).h0 ≤ 1000 ∧ (S.th n).h1 ≤ 1000) ∧ posSum S ≤ 4000 := by
 have h0 := h.short 0
 have h1 := h.short 1
 have h2 := h.short 2
 have h3 := h.short 3
 have g0 := (hok 0 (by omega)).pos
 have g1 := (hok 1 (by omega)).pos
 have g2 := (hok 2 (by omega)).pos
 have g3 := (hok 3 (by omega)).pos
 refine ⟨fun n hn => ?_, by unfold posSum; omega⟩
 have a := (hok n hn).pos
 have b := (hok n hn).holds
 have c := h.short n
 omega

structure PlInv (p : List (List Pl.POp)) (ms : List Int) (w wr : World) (b tb bY la lcap B : Nat) (i : Nat) (S : St) (es : List Ev) (g : Nat) (ea : Option Addr) (ecap : Nat) : Prop where
 rr : RR wr b tb bY la p.length lcap p S
 bl : Below w.heap.size w wr
 own : wr.ownsRow B 59 6 (.slice ea es.length ecap) es.length (evCells es)
 sz : B ≤ wr.heap.size
 ok : StOk S p
 grp : GrpOk es g
 nn : ∀ e ∈ es, 0 ≤ e.group
 len : es.length = i
 gle : g ≤ i
 pos : es.length ≤ posSum S
 fol : follow p (beginTo p 4) [] 0 ms = follow p S es g (ms.drop i)

theorem EvAt.putG {w : World} {e : Nat} {t : Int} {k n : Nat} {v : Int} {bk g : Int} (h : EvAt w e t k n v bk g) (x : Int) : EvAt (w.setCell ⟨e, 5, none⟩ (.int .i64 x)) e t k n v bk x := by
 have far : ∀ i, i ≠ 5 → (w.setCell ⟨e, 5, none⟩ (.int .i64 x)).cell? ⟨e, i, none⟩ = w.cell? ⟨e, i, none⟩ := fun i hi => World.cell?_setCell_other _ _ _ _ (fun e' => hi (by simpa using (congrArg Addr.off e').symm))
 exact ⟨(far 0 (by omega)).trans h.c0, (far 1 (by omega)).trans h.c1, (far 2 (by omega)).trans h.c2, (far 3 (by omega)).trans h.c3, (far 4 (by omega)).trans h.c4, World.cell?_setCell_same _ _ _ h.c5, fun i => by rw [World.frozen?_setCell]; exact h.f i⟩

theorem EvAt.drewN {w : World} {e : Nat} {t : Int} {k n : Nat} {v : Int} {bk g : Int} (h : EvAt w e t k n v bk g) (q : Nat) : EvAt (w.drewN q) e t k n v bk g := ⟨h.c0, h.c1, h.c2, h.c3, h.c4, h.c5, h.f⟩
theorem Off.drewN {c : Nat} {w w' : World} (h : Off c w w') (q : Nat) : Off c w (w'.drewN q) := ⟨h.os, h.tape, h.output, h.size, h.block, h.frozen⟩

/-- How Play stands with its event told. -/
structure PlZ (p : List (List Pl.POp)) (w Z : World) (b tb bY la lcap B : Nat) (S' : St) (es : List Ev) (ea : Option Addr) (ecap c : Nat) (t : Int) (k nm : Nat) (vv bk x : Int) : Prop where
 ev : EvAt Z c t k nm vv bk x
 rr : RR Z b tb bY la p.length lcap p S'
 bl : Below w.heap.size w Z
 own : Z.ownsRow B 59 6 (.slice ea es.length ecap) es.length (evCells es)
 row : ∀ g, (Value.slice ea es.length ecap).ownBlock = some g → g < c
 bc : B ≤ c
 wB : w.heap.size ≤ B
 bb : b < B ∧ tb < B
 ap : bY < B ∧ la < B

theorem PlZ.off {p : List (List Pl.POp)} {w V Z : World} {b tb bY la lcap B : Nat} {S' : St} {es : List Ev} {ea : Option Addr} {ecap c : Nat} {t : Int} {k nm : Nat} {vv bk x y : Int} (h : PlZ p w V b tb bY la lcap B S' es ea ecap c t k nm vv bk x) (ho : Off c V Z) (he : EvAt Z c t k nm vv bk y) : PlZ p w Z b tb bY la lcap B S' es ea ecap c t k nm vv bk y := by
 have h1 := h.bc
 have h2 := h.bb
 have h3 := h.ap
 have h4 := h.wB
 refine ⟨he, h.rr.of fun k hk => ho.block k (by omega), ho.below h.bl (by omega), ownsRow_of_block h.own (fun g hg => ho.block g (by have := h.row g hg; omega)), h.row, h.bc, h.wB, h.bb, h.ap⟩

theorem PlZ.next {p : List (List Pl.POp)} {ms : List Int} {w wr Z w5 : World} {b tb bY la lcap B i : Nat} {S S' : St} {es : List Ev} {g : Nat} {ea : Option Addr} {ecap c n : Nat} {t : Int} {k nm : Nat} {vv bk gr x : Int} {gg cap1 g2 : Nat}
  (hI : PlInv p ms w wr b tb bY la lcap B i S es g ea ecap) (hst : step S p (n : Int) = some (S', ⟨t, k, nm, vv, bk, gr⟩)) (hD : ms.drop i = (n : Int) :: ms.drop (i + 1)) (h : PlZ p w Z b tb bY la lcap B S' es ea ecap c t k nm vv bk x) (hg : groupOf es t bk g = x) (hx : 0 ≤ x) (hg2 : g2 = if x = (g : Int) then g + 1 else g)
  (hown : w5.ownsRow B 59 6 (.slice (some ⟨gg, 0, none⟩) (es.length + 1) cap1) (es.length + 1) (evCells es ++ [Value.int .i64 t, .int .u8 (k : Int), .int .u8 (nm : Int), .int .i16 vv, .int .i64 bk, .int .i64 x]))
  (hgrow : (Z.alloc (.cells #[Value.int .i64 t, .int .u8 (k : Int), .int .u8 (nm : Int), .int .i16 vv, .int .i64 bk, .int .i64 x] 59)).grownBy w5 (Value.slice ea es.length ecap).ownBlock) :
  PlInv p ms w w5 b tb bY la lcap B (i + 1) S' (es ++ [⟨t, k, nm, vv, bk, x⟩]) g2 (some ⟨gg, 0, none⟩) cap1 := by
 have hcz : c < Z.heap.size := World.block_lt_of_cell? Z ⟨c, 0, none⟩ h.ev.c0
 have h1 := h.bc
 have h2 := h.bb
 have h3 := h.ap
 have h4 := h.wB
 have hb5 : Below B Z w5 := Below.grown ((Below.refl B Z).alloc (by omega) _) hgrow (by simp; omega) (fun x hx => (h.own.lt x hx).1)
 have hr5 : RR w5 b tb bY la p.length lcap p S' := h.rr.of fun q hq => hb5.block q (by omega)
 have hs := hI.grp.snoc ⟨t, k, nm, vv, bk, gr⟩
 simp only [Ev.inGroup, hg] at hs
 have hps := step_pos hst
 have hpo := hI.pos
 refine ⟨hr5, h.bl.trans (hb5.mono h4), by simpa [evCells_append, evCells, Ev.cells] using hown, by have := hb5.size; omega, step_ok hI.ok hst, by rw [hg2]; exact hs, fun e he => ?_, by simp; exact hI.len, by rw [hg2]; have := hI.gle; split <;> omega, by simp; omega, ?_⟩
 ·rcases List.mem_append.1 he with he | he
  ·exact hI.nn e he
  ·rw [List.mem_singleton.1 he]; exact hx
 ·rw [hI.fol, hD, follow, hst, hg2, ← hg]

def RefPlaySays (p : List (List Pl.POp)) (ms : List Int) (bY la lcap : Nat) (w : World) (e : Ending) (w' : World) : Prop :=
 Below w.heap.size w w' ∧ match follow p (beginTo p 4) [] 0 ms with
 | none => e = .returned (.tuple #[.pointer none, .slice none 0 0, .bool false])
 | some (S, es) => ∃ b tb ea ecap, e = .returned (.tuple #[.pointer (some ⟨b, 0, none⟩), .slice ea es.length ecap, .bool true]) ∧ RR w' b tb bY la p.length lcap p S ∧ StOk S p ∧ w.heap.size ≤ b ∧ w.heap.size ≤ tb ∧ w'.ownsRow w.heap.size 59 6 (.slice ea es.length ecap) es.length (evCells es)

theorem refPlay_any {w : World} {lo hi bY la lcap : Nat} {p : List (List Pl.POp)} (hy : YAt w lo hi bY la lcap p) (hh : hi ≤ w.heap.size) (ms : List Int) (sa : Option Addr) (scap : Nat) (hm : SeqIn w sa ms) (hlen : ms.length ≤ maxLen) :
  Calls Tryz.prog 16 #[.pointer (some ⟨bY, 0, none⟩), .slice sa ms.length scap] w fun e w' => RefPlaySays p ms bY la lcap w e w' := by
 have HM : Hid (SeqIn w sa ms) := hm
 clear hm
 unfold maxLen at hlen
 obtain ⟨i0, hi0, hz0, hz1, hz2⟩ := info_parts Tryz.info59
 go_enter Tryz.func16, Tryz.ntmps16
 go_wp2_with fail
 refine (refBegin_any hy hh).mono ?_
 rintro e w1 ⟨b, tb, rfl, hb0, ht0, hb1, hr1⟩
 have HB1 : Hid (Below w.heap.size w w1) := hb1
 have HR1 : Hid (RR w1 b tb bY la p.length lcap p (beginTo p 4)) := hr1
 have HLT : Hid (b < w1.heap.size ∧ tb < w1.heap.size) := ⟨hr1.lt.1, hr1.lt.2.1⟩
 have HAP : Hid (bY < w1.heap.size ∧ la < w1.heap.size) := ⟨hr1.lt.2.2.1, hr1.lt.2.2.2⟩
 clear hb1 hr1 hy
 go_wp2_with fail
 go_loopw [8, 9, 10] (fun e' g' t' wr => ∃ (i : Nat) (S : St) (es : List Ev) (g : Nat) (ea : Option Addr) (ecap : Nat), i ≤ ms.length ∧ t' = .int .i64 (i : Int) ∧ g' = .int .i64 (g : Int) ∧ e' = .slice ea es.length ecap ∧ Hid (PlInv p ms w wr b tb bY la lcap w1.heap.size i S es g ea ecap)) (fun _ _ t' _ => ms.length - (intOf t').toNat)
 case atStart => exact ⟨0, beginTo p 4, [], 0, none, 0, Nat.zero_le _, rfl, rfl, rfl, (show Hid _ from ⟨HR1.out, HB1.out, World.ownsRow_nil _ _ _ _, Nat.le_refl _, begin_ok p, grpOk_nil, (fun e he => by cases he), rfl, Nat.le_refl _, Nat.zero_le _, rfl⟩)⟩
 case round =>
  obtain ⟨i, S, es, g, ea, ecap, hil, rfl, rfl, rfl, HH⟩ := hrel
  by_cases hlt : i < ms.length
  ·have hlt' : (i : Int) < (ms.length : Int) := by omega
   obtain ⟨gb, go, rfl, hgb, hgc⟩ := HM.out (by omega)
   have c0 : wr.cell? ⟨gb, go + i, none⟩ = some (.int .i64 ms[i]) := (HH.out.bl.cell (p := ⟨gb, go + i, none⟩) hgb).trans (hgc i _ (List.getElem?_eq_getElem hlt))
   have HD : Hid (ms.drop i = ms[i] :: ms.drop (i + 1)) := List.drop_eq_getElem_cons hlt
   have HGB : Hid (gb < wr.heap.size) := Nat.lt_of_lt_of_le hgb HH.out.bl.size
   clear hgb hgc
   generalize ms[i] = m at *
   have HST : Hid (∀ o m, stOp S p m = some o → Pl.isShared o.kind = true) := fun o m hm => by
    obtain ⟨n, rfl, hn, ho⟩ := stOp_some hm
    exact (HH.out.ok n hn).stands o ho
   go_wp2_with fail
   refine (can_any HH.out.rr HH.out.ok.posOk HST.out m).mono ?_
   rintro e w2 ⟨rfl, hb2⟩
   have c0' : w2.cell? ⟨gb, go + i, none⟩ = some (.int .i64 m) := (hb2.cell (p := ⟨gb, go + i, none⟩) HGB.out).trans c0
   have HB2 : Hid (Below wr.heap.size wr w2) := hb2
   clear hb2 c0
   cases hc : canStep S p m
   ·have HN : Hid (follow p (beginTo p 4) [] 0 ms = none) := by
     show _ = _
     have := step_iff S p m
     rw [hc] at this
     rw [HH.out.fol, HD.out, follow]
     cases hs : step S p m with
     | none => rfl
     | some x => rw [hs] at this; cases this
    clear hc
    go_wp2
    go_ret3
    refine ⟨HH.out.bl.trans (HB2.out.mono HH.out.bl.size), ?_⟩
    rw [HN.out]
    rfl
   ·obtain ⟨n, rfl, hnp⟩ : ∃ n : Nat, m = (n : Int) ∧ n < p.length := by
     have := can_bound hc
     exact ⟨m.toNat, by omega, by omega⟩
    obtain ⟨S', ev, hst⟩ : ∃ S' ev, step S p (n : Int) = some (S', ev) := by
     have := step_iff S p (n : Int)
     rw [hc] at this
     cases hs : step S p (n : Int) with
     | none => rw [hs] at this; cases this
     | some x => exact ⟨x.1, x.2, rfl⟩
    have HS : Hid (step S p (n : Int) = some (S', ev)) := hst
    clear hst hc
    go_wp2_with fail
    refine (refStep_any (HH.out.rr.below HB2.out) HH.out.ok ((HH.out.rr.low HH.out.ok).1) n HS.out).mono ?_
    rintro e w3 ⟨rfl, hk3, hr3⟩
    obtain ⟨t, k, nm, vv, bk, gr⟩ := ev
    unfold Ev.val
    go_upto_region 12 with fail
    have HV : Hid (PlZ p w (w3.alloc (.cells #[Value.int .i64 t, .int .u8 (k : Int), .int .u8 (nm : Int), .int .i16 vv, .int .i64 bk, .int .i64 (-1)] 59)) b tb bY la lcap w1.heap.size S' es ea ecap w3.heap.size t k nm vv bk (-1)) := by
     have q1 := HLT.out
     have q2 := HAP.out
     have q3 := HB1.out.size
     have q4 := HH.out.sz
     have q5 := HB2.out.size
     have q6 := hk3.size
     have hbl : Below w1.heap.size w2 (w3.alloc (.cells #[Value.int .i64 t, .int .u8 (k : Int), .int .u8 (nm : Int), .int .i16 vv, .int .i64 bk, .int .i64 (-1)] 59)) ∨ True := .inr trivial
     have ho2 := ((ownsRow_in HH.out.own).below HB2.out).1
     have hlt2 : ∀ g, (Value.slice ea es.length ecap).ownBlock = some g → w1.heap.size ≤ g ∧ g < w2.heap.size := fun g hg => ho2.lt g hg
     have ho3 : w3.ownsRow w1.heap.size 59 6 (.slice ea es.length ecap) es.length (evCells es) := ownsRow_of_block ho2 (fun g hg => hk3.block g (hlt2 g hg).2 (by have := hlt2 g hg; omega) (by have := hlt2 g hg; omega))
     refine ⟨⟨by simp, by simp, by simp, by simp, by simp, by simp, fun j => World.frozen?_alloc_at _ _ _ _ (by simp)⟩, hr3.new _, ((HH.out.bl.trans (HB2.out.mono HH.out.bl.size)).trans (hk3.below hb0 ht0 (by omega))).alloc (by omega) _, ho3.alloc _, fun g hg => by have := hlt2 g hg; omega, by omega, q3, q1, q2⟩
    have HLEN : Hid (es.length + 1 ≤ 4000) := by
     have h1 := (hr3.low (step_ok HH.out.ok HS.out)).2
     have h2 := step_pos HS.out
     have h3 := HH.out.pos
     show es.length + 1 ≤ 4000
     omega
    generalize (w3.alloc (.cells #[Value.int .i64 t, .int .u8 (k : Int), .int .u8 (nm : Int), .int .i16 vv, .int .i64 bk, .int .i64 (-1)] 59)) = V at *
    clear hk3 hr3 c0'
    have hes : es.length ≤ 4000 := by have := HLEN.out; omega
    have hgs : g ≤ 4000 := by have := HH.out.gle; have := HH.out.len; omega
    go_wp2_with fail
    go_loopw [13] (fun t' wq => ∃ (j : Nat) (x : Int), j ≤ es.length ∧ t' = .int .i64 (j : Int) ∧ Hid (EvAt wq w3.heap.size t k nm vv bk x ∧ Off w3.heap.size V wq ∧ lastGrp t bk es (-1) = lastGrp t bk (es.drop j) x ∧ (bk = -1 → x = -1))) (fun t' _ => es.length - (intOf t').toNat)
    case atStart => exact ⟨0, -1, Nat.zero_le _, rfl, (show Hid _ from ⟨HV.out.ev, Off.refl _ _, rfl, fun _ => rfl⟩)⟩
    case round =>
     obtain ⟨j, x, hj, rfl, HQ⟩ := hrel
     have d0 := HQ.out.1.c0
     have d4 := HQ.out.1.c4
     by_cases hbk : bk = -1
     ·have hd : (bk != -1) = false := by simp [hbk]
      have hxx : x = -1 := HQ.out.2.2.2 hbk
      subst hxx
      have HGR : Hid (groupOf es t bk g = (g : Int)) := by show _ = _; unfold groupOf; rw [if_pos hbk]
      clear hbk
      by_cases hjl : j < es.length
      ·have hjl' : (j : Int) < (es.length : Int) := by omega
       have c5 := HQ.out.1.c5
       have cf := HQ.out.1.f
       go_upto_region 20 with fail
       have HZ : Hid (PlZ p w (wr.setCell ⟨w3.heap.size, 5, none⟩ (.int .i64 (g : Int))) b tb bY la lcap w1.heap.size S' es ea ecap w3.heap.size t k nm vv bk (g : Int)) := HV.out.off (HQ.out.2.1.setCell 5 _) (HQ.out.1.putG _)
       generalize wr.setCell ⟨w3.heap.size, 5, none⟩ (.int .i64 (g : Int)) = Z at *
       clear c5 cf
       have z0 := HZ.out.ev.c0
       have z1 := HZ.out.ev.c1
       have z2 := HZ.out.ev.c2
       have z3 := HZ.out.ev.c3
       have z4 := HZ.out.ev.c4
       have z5 := HZ.out.ev.c5
       have zw := HZ.out.wB
       have zb := HZ.out.bc
       have zc := World.block_lt_of_cell? Z ⟨w3.heap.size, 0, none⟩ z0
       simp only at zc
       go_wp2_with (first | (refine wpList_append_lies _ rfl _ _ _ rfl w1.heap.size 59 i0 _ 6 32 Tryz.underlying53 hi0 hz0 hz1 hz2 rfl (by omega) (.slice ea es.length ecap) es.length (evCells es) rfl (HZ.out.own.alloc _) ⟨Z.heap.size, 0, none⟩ 1 1 [Value.int .i64 t, .int .u8 (k : Int), .int .u8 (nm : Int), .int .i16 vv, .int .i64 bk, .int .i64 (g : Int)] rfl rfl (World.news_of_block (cs := #[Value.int .i64 t, .int .u8 (k : Int), .int .u8 (nm : Int), .int .i16 vv, .int .i64 bk, .int .i64 (g : Int)]) (t := 59) (fr := (0, 0)) (heap_alloc_new Z _)) (by simp [Value.oneCell']) (by omega) (by have := HLEN.out; unfold maxLen; omega) (by have := HLEN.out; omega) (by simp; omega) (Z.heap.size + 1) (by simp) ?_; intro gg cap1 w5 hown hgrow hat hlt5))
       go_roundw
       case rel => exact ⟨i + 1, S', es ++ [Ev.mk t k nm vv bk (g : Int)], g + 1, some ⟨gg, 0, none⟩, cap1, by omega, by go_num, by go_num, by simp, (show Hid _ from PlZ.next HH.out HS.out HD.out HZ.out HGR.out (by omega) ((if_pos rfl).symm) hown hgrow)⟩
       case measure => simp [intOf]; omega
      ·have hjl' : ¬ (j : Int) < (es.length : Int) := by omega
       have c5 := HQ.out.1.c5
       have cf := HQ.out.1.f
       go_upto_region 20 with fail
       have HZ : Hid (PlZ p w (wr.setCell ⟨w3.heap.size, 5, none⟩ (.int .i64 (g : Int))) b tb bY la lcap w1.heap.size S' es ea ecap w3.heap.size t k nm vv bk (g : Int)) := HV.out.off (HQ.out.2.1.setCell 5 _) (HQ.out.1.putG _)
       generalize wr.setCell ⟨w3.heap.size, 5, none⟩ (.int .i64 (g : Int)) = Z at *
       clear c5 cf
       have z0 := HZ.out.ev.c0
       have z1 := HZ.out.ev.c1
       have z2 := HZ.out.ev.c2
       have z3 := HZ.out.ev.c3
       have z4 := HZ.out.ev.c4
       have z5 := HZ.out.ev.c5
       have zw := HZ.out.wB
       have zb := HZ.out.bc
       have zc := World.block_lt_of_cell? Z ⟨w3.heap.size, 0, none⟩ z0
       simp only at zc
       go_wp2_with (first | (refine wpList_append_lies _ rfl _ _ _ rfl w1.heap.size 59 i0 _ 6 32 Tryz.underlying53 hi0 hz0 hz1 hz2 rfl (by omega) (.slice ea es.length ecap) es.length (evCells es) rfl (HZ.out.own.alloc _) ⟨Z.heap.size, 0, none⟩ 1 1 [Value.int .i64 t, .int .u8 (k : Int), .int .u8 (nm : Int), .int .i16 vv, .int .i64 bk, .int .i64 (g : Int)] rfl rfl (World.news_of_block (cs := #[Value.int .i64 t, .int .u8 (k : Int), .int .u8 (nm : Int), .int .i16 vv, .int .i64 bk, .int .i64 (g : Int)]) (t := 59) (fr := (0, 0)) (heap_alloc_new Z _)) (by simp [Value.oneCell']) (by omega) (by have := HLEN.out; unfold maxLen; omega) (by have := HLEN.out; omega) (by simp; omega) (Z.heap.size + 1) (by simp) ?_; intro gg cap1 w5 hown hgrow hat hlt5))
       go_roundw
       case rel => exact ⟨i + 1, S', es ++ [Ev.mk t k nm vv bk (g : Int)], g + 1, some ⟨gg, 0, none⟩, cap1, by omega, by go_num, by go_num, by simp, (show Hid _ from PlZ.next HH.out HS.out HD.out HZ.out HGR.out (by omega) ((if_pos rfl).symm) hown hgrow)⟩
       case measure => simp [intOf]; omega
     ·have hd : (bk != -1) = true := by simpa using hbk
      by_cases hjl : j < es.length
      ·have hjl' : (j : Int) < (es.length : Int) := by omega
       have HOW : Hid (wr.ownsRow w1.heap.size 59 6 (.slice ea es.length ecap) es.length (evCells es)) := (HV.out.off HQ.out.2.1 HQ.out.1).own
       obtain ⟨gq, rfl, hg0, hg1, hnc, hcm, hcell, hfz⟩ := owns_cells HOW.out (by omega)
       have hne : gq ≠ w3.heap.size := by have := HV.out.row gq rfl; omega
       obtain ⟨x0, x1, x2, x3, x4, x5⟩ := evCells_at es j es[j] (by simp [hjl])
       have y0 := hcell _ _ x0
       have y4 := hcell _ _ x4
       have y5 := hcell _ _ x5
       have HL : Hid (lastGrp t bk es (-1) = lastGrp t bk (es.drop (j + 1)) (if es[j].thread = t ∧ es[j].block = bk then es[j].group else x)) := by
        show _ = _
        rw [HQ.out.2.2.1, List.drop_eq_getElem_cons hjl]; rfl
       have HBK : Hid (bk ≠ -1) := hbk
       clear hcell hfz x0 x1 x2 x3 x4 x5 hbk HOW hg0
       generalize es[j] = ev at *
       by_cases h1 : ev.thread = t
       ·by_cases h2 : ev.block = bk
        ·have e1 : (ev.thread == t) = true := by simpa using h1
         have e2 : (ev.block == bk) = true := by simpa using h2
         have HL2 : Hid _ := HL.out.trans (by rw [if_pos ⟨h1, h2⟩])
         clear h1 h2 HL
         have d5 := HQ.out.1.c5
         have df := HQ.out.1.f
         go_upto_region 15 with fail
         go_quiet (fail)
         go_wp2
         go_roundw
         case rel => exact ⟨j + 1, ev.group, by omega, by go_num, (show Hid _ from ⟨(HQ.out.1.drewN _).putG _, (HQ.out.2.1.drewN _).setCell 5 _, HL2.out, fun h => absurd h HBK.out⟩)⟩
         case measure => simp [intOf]; omega
        ·have e1 : (ev.thread == t) = true := by simpa using h1
         have e2 : (ev.block == bk) = false := by simpa using h2
         have HL2 : Hid (lastGrp t bk es (-1) = lastGrp t bk (es.drop (j + 1)) x) := HL.out.trans (by rw [if_neg (fun h => h2 h.2)])
         clear h1 h2 HL
         go_upto_region 15 with fail
         go_quiet (fail)
         go_wp2
         go_roundw
         case rel => exact ⟨j + 1, x, by omega, by go_num, (show Hid _ from ⟨HQ.out.1.drewN _, HQ.out.2.1.drewN _, HL2.out, fun h => absurd h HBK.out⟩)⟩
         case measure => simp [intOf]; omega
       ·have e1 : (ev.thread == t) = false := by simpa using h1
        have HL2 : Hid (lastGrp t bk es (-1) = lastGrp t bk (es.drop (j + 1)) x) := HL.out.trans (by rw [if_neg (fun h => h1 h.1)])
        clear h1 HL
        go_upto_region 15 with fail
        go_quiet (fail)
        go_wp2
        go_roundw
        case rel => exact ⟨j + 1, x, by omega, by go_num, (show Hid _ from ⟨HQ.out.1.drewN _, HQ.out.2.1.drewN _, HL2.out, fun h => absurd h HBK.out⟩)⟩
        case measure => simp [intOf]; omega
      ·have hjl' : ¬ (j : Int) < (es.length : Int) := by omega
       have hx : lastGrp t bk es (-1) = x := by rw [HQ.out.2.2.1, List.drop_eq_nil_of_le (by omega)]; rfl
       rcases last_is HH.out.grp HH.out.nn t hbk with ⟨h1, h2⟩ | ⟨h1, h2, h3⟩
       ·have hxx : x = -1 := hx.symm.trans h1
        subst hxx
        have HGR : Hid (groupOf es t bk g = (g : Int)) := h2
        clear h1 h2 hx hbk
        have c5 := HQ.out.1.c5
        have cf := HQ.out.1.f
        go_upto_region 20 with fail
        have HZ : Hid (PlZ p w (wr.setCell ⟨w3.heap.size, 5, none⟩ (.int .i64 (g : Int))) b tb bY la lcap w1.heap.size S' es ea ecap w3.heap.size t k nm vv bk (g : Int)) := HV.out.off (HQ.out.2.1.setCell 5 _) (HQ.out.1.putG _)
        generalize wr.setCell ⟨w3.heap.size, 5, none⟩ (.int .i64 (g : Int)) = Z at *
        clear c5 cf
        have z0 := HZ.out.ev.c0
        have z1 := HZ.out.ev.c1
        have z2 := HZ.out.ev.c2
        have z3 := HZ.out.ev.c3
        have z4 := HZ.out.ev.c4
        have z5 := HZ.out.ev.c5
        have zw := HZ.out.wB
        have zb := HZ.out.bc
        have zc := World.block_lt_of_cell? Z ⟨w3.heap.size, 0, none⟩ z0
        simp only at zc
        go_wp2_with (first | (refine wpList_append_lies _ rfl _ _ _ rfl w1.heap.size 59 i0 _ 6 32 Tryz.underlying53 hi0 hz0 hz1 hz2 rfl (by omega) (.slice ea es.length ecap) es.length (evCells es) rfl (HZ.out.own.alloc _) ⟨Z.heap.size, 0, none⟩ 1 1 [Value.int .i64 t, .int .u8 (k : Int), .int .u8 (nm : Int), .int .i16 vv, .int .i64 bk, .int .i64 (g : Int)] rfl rfl (World.news_of_block (cs := #[Value.int .i64 t, .int .u8 (k : Int), .int .u8 (nm : Int), .int .i16 vv, .int .i64 bk, .int .i64 (g : Int)]) (t := 59) (fr := (0, 0)) (heap_alloc_new Z _)) (by simp [Value.oneCell']) (by omega) (by have := HLEN.out; unfold maxLen; omega) (by have := HLEN.out; omega) (by simp; omega) (Z.heap.size + 1) (by simp) ?_; intro gg cap1 w5 hown hgrow hat hlt5))
        go_roundw
        case rel => exact ⟨i + 1, S', es ++ [Ev.mk t k nm vv bk (g : Int)], g + 1, some ⟨gg, 0, none⟩, cap1, by omega, by go_num, by go_num, by simp, (show Hid _ from PlZ.next HH.out HS.out HD.out HZ.out HGR.out (by omega) ((if_pos rfl).symm) hown hgrow)⟩
        case measure => simp [intOf]; omega
       ·rw [hx] at h1 h2 h3
        have HGR : Hid (groupOf es t bk g = x) := h2
        have HGN : Hid (0 ≤ x ∧ x < (g : Int)) := ⟨h1, h3⟩
        have hxn : ¬ x < 0 := by omega
        clear h2 h3 hx hbk
        have c5 := HQ.out.1.c5
        go_upto_region 20 with fail
        have HZ : Hid (PlZ p w wr b tb bY la lcap w1.heap.size S' es ea ecap w3.heap.size t k nm vv bk x) := HV.out.off HQ.out.2.1 HQ.out.1
        generalize wr = Z at *
        clear c5
        have z0 := HZ.out.ev.c0
        have z1 := HZ.out.ev.c1
        have z2 := HZ.out.ev.c2
        have z3 := HZ.out.ev.c3
        have z4 := HZ.out.ev.c4
        have z5 := HZ.out.ev.c5
        have zw := HZ.out.wB
        have zb := HZ.out.bc
        have zc := World.block_lt_of_cell? Z ⟨w3.heap.size, 0, none⟩ z0
        simp only at zc
        go_wp2_with (first | (refine wpList_append_lies _ rfl _ _ _ rfl w1.heap.size 59 i0 _ 6 32 Tryz.underlying53 hi0 hz0 hz1 hz2 rfl (by omega) (.slice ea es.length ecap) es.length (evCells es) rfl (HZ.out.own.alloc _) ⟨Z.heap.size, 0, none⟩ 1 1 [Value.int .i64 t, .int .u8 (k : Int), .int .u8 (nm : Int), .int .i16 vv, .int .i64 bk, .int .i64 x] rfl rfl (World.news_of_block (cs := #[Value.int .i64 t, .int .u8 (k : Int), .int .u8 (nm : Int), .int .i16 vv, .int .i64 bk, .int .i64 x]) (t := 59) (fr := (0, 0)) (heap_alloc_new Z _)) (by simp [Value.oneCell']) (by omega) (by have := HLEN.out; unfold maxLen; omega) (by have := HLEN.out; omega) (by simp; omega) (Z.heap.size + 1) (by simp) ?_; intro gg cap1 w5 hown hgrow hat hlt5))
        go_roundw
        case rel => exact ⟨i + 1, S', es ++ [Ev.mk t k nm vv bk x], g, some ⟨gg, 0, none⟩, cap1, by omega, by go_num, by go_num, by simp, (show Hid _ from PlZ.next HH.out HS.out HD.out HZ.out HGR.out (HGN.out.1) ((if_neg (by have := HGN.out.2; omega)).symm) hown hgrow)⟩
        case measure => simp [intOf]; omega
  ·have HN : Hid (follow p (beginTo p 4) [] 0 ms = some (S, es)) := by
    show _ = _
    rw [HH.out.fol, List.drop_eq_nil_of_le (by omega)]; rfl
   go_wp2
   go_ret3
   refine ⟨HH.out.bl, ?_⟩
   rw [HN.out]
   exact ⟨b, tb, ea, ecap, rfl, HH.out.rr, HH.out.ok, hb0, ht0, ((ownsRow_in HH.out.own).mono HB1.out.size (Nat.le_refl _)).1⟩

end Go.Proofs.YtfdafcnfefbcbabGreat
