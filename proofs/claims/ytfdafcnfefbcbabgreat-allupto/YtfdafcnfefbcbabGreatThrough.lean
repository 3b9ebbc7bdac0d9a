/-
 The contract of the reference's through.
-/
import Derived.Test.YtfdafcnfefbcbabGreatRft
import Derived.Deep.QuietTactic
import Derived.BigQuiet
namespace Go.Proofs.YtfdafcnfefbcbabGreat
open Go.RowKit
set_option linter.unusedVariables false
set_option maxRecDepth 100000
set_option maxHeartbeats 8000000

/-- How through stands in a round, with its event told. -/
structure ThZ (p : List (List Pl.POp)) (w0 Z : World) (c tc bY la ccap lcap : Nat) (S' : St) (es : List Ev) (ea : Option Addr) (ecap el ec : Nat) (t : Int) (k nm : Nat) (vv bk x : Int) : Prop where
 ev : EvAt Z ec t k nm vv bk x
 rr : RR Z c tc bY la ccap lcap p S'
 bl : Below w0.heap.size w0 Z
 own : Z.ownsRow el 59 6 (.slice ea es.length ecap) es.length (evCells es)
 row : ∀ q, (Value.slice ea es.length ecap).ownBlock = some q → q < ec
 lt : c < ec ∧ tc < ec ∧ bY < ec ∧ la < ec
 ge : w0.heap.size ≤ ec
 sz : ec < Z.heap.size

theorem ThZ.off {p : List (List Pl.POp)} {w0 V Z : World} {c tc bY la ccap lcap : Nat} {S' : St} {es : List Ev} {ea : Option Addr} {ecap el ec : Nat} {t : Int} {k nm : Nat} {vv bk x y : Int} (h : ThZ p w0 V c tc bY la ccap lcap S' es ea ecap el ec t k nm vv bk x) (ho : Off ec V Z) (he : EvAt Z ec t k nm vv bk y) : ThZ p w0 Z c tc bY la ccap lcap S' es ea ecap el ec t k nm vv bk y := by
 have h1 := h.lt
 exact ⟨he, h.rr.of fun k hk => ho.block k (by omega), ho.below h.bl h.ge, ownsRow_of_block h.own (fun g hg => ho.block g (by have := h.row g hg; omega)), h.row, h.lt, h.ge, by rw [ho.size]; exact h.sz⟩

theorem ThZ.below {p : List (List Pl.POp)} {w0 V Z : World} {c tc bY la ccap lcap : Nat} {S' : St} {es : List Ev} {ea : Option Addr} {ecap el ec : Nat} {t : Int} {k nm : Nat} {vv bk x : Int} (h : ThZ p w0 V c tc bY la ccap lcap S' es ea ecap el ec t k nm vv bk x) (hb : Below V.heap.size V Z) : ThZ p w0 Z c tc bY la ccap lcap S' es ea ecap el ec t k nm vv bk x := by
 have h2 := h.sz
 have cc : ∀ j, Z.cell? ⟨ec, j, none⟩ = V.cell? ⟨ec, j, none⟩ := fun j => hb.cell (p := ⟨ec, j, none⟩) h2
 exact ⟨⟨(cc 0).trans h.ev.c0, (cc 1).trans h.ev.c1, (cc 2).trans h.ev.c2, (cc 3).trans h.ev.c3, (cc 4).trans h.ev.c4, (cc 5).trans h.ev.c5, fun j => (hb.frozen (p := ⟨ec, j, none⟩) h2).trans (h.ev.f j)⟩, h.rr.below hb, h.bl.trans (hb.mono h.bl.size), ((ownsRow_in h.own).below hb).1, h.row, h.lt, h.ge, Nat.lt_of_lt_of_le h2 hb.size⟩

/-- The row of results, one of them, and a result of its own. -/
structure LpTwo (ab g o b : Nat) (v : Value) (x m : Res) (w : World) : Prop where
 a1 : w.cell? ⟨ab, 1, none⟩ = some v
 a : w.rangeAt g o (resL x)
 b : w.rangeAt b 0 (resL m)

def ThruSays (p : List (List Pl.POp)) (ab : Nat) (A : Bool × List Res) (ra : Option Addr) (w : World) (e : Ending) (w' : World) : Prop :=
 e = .returned (.tuple #[]) ∧ ∃ ra' rcap', AllAt w' ab A ra' rcap' ∧ Thr ab w w' (ownOf ra) (ownOf ra')

theorem evCells_one : ∀ (es : List Ev), ∀ u ∈ evCells es, u.oneCell' = true
 | [], u, h => by cases h
 | e :: r, u, h => by
  have h' : u ∈ e.cells ++ evCells r := h
  rcases List.mem_append.1 h' with h | h
  ·simp [Ev.cells] at h
   rcases h with rfl | rfl | rfl | rfl | rfl | rfl <;> rfl
  ·exact evCells_one r u h

theorem lv_len {p : List (List Pl.POp)} {ms : List Int} {S : St} {es : List Ev} {g : Nat} (h : Reach p ms S es g) (h10 : Pl.countShared p ≤ 10) : es.length ≤ 10 := by
 obtain ⟨-, h1, h2⟩ := follow_len h.fol
 omega

theorem through_any (p : List (List Pl.POp)) (h10 : Pl.countShared p ≤ 10) (bY la lcap ab : Nat) : ∀ (k : Nat) (S : St) (es : List Ev) (g : Nat) (ms : List Int) (A0 : Bool × List Res) (ra : Option Addr) (rcap b tb tcap : Nat) (ea : Option Addr) (ecap el : Nat) (w : World), RR w b tb bY la tcap lcap p S → Reach p ms S es g → remS p S < k → AllAt w ab A0 ra rcap → w.ownsRow el 59 6 (.slice ea es.length ecap) es.length (evCells es) → 0 < es.length → (∀ q, q = b ∨ q = tb ∨ q = bY ∨ q = la → Clear ab (ownOf ra) q) → (∀ q, (Value.slice ea es.length ecap).ownBlock = some q → Clear ab (ownOf ra) q) → A0.2.length + 4 ^ k ≤ 1073741824 →
  Calls Tryz.prog 46 #[.pointer (some ⟨ab, 0, none⟩), .pointer (some ⟨b, 0, none⟩), .slice ea es.length ecap] w fun e w' => ThruSays p ab (thruGo p k S es g A0) ra w e w' := by
 intro k
 induction k with
 | zero => intro S es g ms A0 ra rcap b tb tcap ea ecap el w _ _ h; omega
 | succ k ih =>
  intro S es g ms A0 ra rcap b tb tcap ea ecap el w hr hR hk hA hE hes0 hcl hce hlen
  have H : Hid (RR w b tb bY la tcap lcap p S) := hr
  have HR : Hid (Reach p ms S es g) := hR
  have HK : Hid (remS p S < k + 1) := hk
  have HA : Hid (AllAt w ab A0 ra rcap) := hA
  have HE : Hid (w.ownsRow el 59 6 (.slice ea es.length ecap) es.length (evCells es)) := hE
  have HCL : Hid (∀ q, q = b ∨ q = tb ∨ q = bY ∨ q = la → Clear ab (ownOf ra) q) := hcl
  have HCE : Hid (∀ q, (Value.slice ea es.length ecap).ownBlock = some q → Clear ab (ownOf ra) q) := hce
  have HLEN : Hid (A0.2.length + 4 ^ (k + 1) ≤ 1073741824) := hlen
  have HIH : Hid _ := ih
  have hel : es.length ≤ 10 := lv_len hR h10
  have hgl : g ≤ 10 := Nat.le_trans hR.told.grp.le hel
  have HAB : Hid (ab < w.heap.size) := hA.lt
  have HLT : Hid (b < w.heap.size ∧ tb < w.heap.size ∧ bY < w.heap.size ∧ la < w.heap.size) := hr.lt
  clear hr hR hk hA hE hcl hce hlen ih
  obtain ⟨i0, hi0, hz0, hz1, hz2⟩ := info_parts Tryz.info59
  obtain ⟨i1, hi1, hy0, hy1, hy2⟩ := info_parts Tryz.resinfo66
  go_enter Tryz.func46, Tryz.ntmps46
  go_wp2_with fail
  refine (refReady_any H.out HR.out.ok).mono ?_
  rintro e w1 ⟨hb1, qa, qcap, rfl, ho1⟩
  have HB1 : Hid (Below w.heap.size w w1) := hb1
  have HA1 : Hid (AllAt w1 ab A0 ra rcap) := HA.out.below hb1
  have HO1 : Hid (w1.ownsRow w.heap.size 3 1 (.slice qa (readyTo S p 4).length qcap) (readyTo S p 4).length (intCells (readyTo S p 4))) := ho1
  have hz1' := hb1.size
  have hrl4 := readyTo_length S p 4
  have HRM : Hid (∀ m ∈ readyTo S p 4, ∃ (n : Nat) (S' : St) (e : Ev), m = (n : Int) ∧ n < p.length ∧ step S p m = some (S', e)) := fun m hm => by
   have hc := (mem_ready4 S p m).1 hm
   have hb := can_bound hc
   obtain ⟨x, hx⟩ := Option.isSome_iff_exists.1 ((step_iff S p m).trans hc)
   exact ⟨m.toNat, x.1, x.2, by omega, by omega, hx⟩
  have HTE : Hid (readyTo S p 4 = [] → thruGo p (k + 1) S es g A0 = (A0.1 && decide ((takeGroups es).2 = []), addRes A0.2 (resOf S p))) := thru_end
  have HTN : Hid (readyTo S p 4 ≠ [] → thruGo p (k + 1) S es g A0 = (readyTo S p 4).foldl (thruNext p k S es g) A0) := thru_next
  clear hb1 ho1
  generalize readyTo S p 4 = L at *
  go_wp2_with fail
  go_loopw [7] (fun v7 wr => ∃ (i : Nat) (A : Bool × List Res) (ra' : Option Addr) (rcap' : Nat), i ≤ L.length ∧ v7 = .int .i64 (i : Int) ∧ Hid (AllAt wr ab A ra' rcap' ∧ Thr ab w1 wr (ownOf ra) (ownOf ra') ∧ L.foldl (thruNext p k S es g) A0 = (L.drop i).foldl (thruNext p k S es g) A ∧ A.2.length ≤ A0.2.length + i * 4 ^ k ∧ (i = 0 → A = A0))) (fun v7 _ => L.length - (intOf v7).toNat)
  case atStart => exact ⟨0, A0, ra, rcap, Nat.zero_le _, rfl, (show Hid _ from ⟨HA1.out, Thr.refl _ _ _, rfl, by simp, fun _ => rfl⟩)⟩
  case round =>
   obtain ⟨i, A, ra', rcap', hil, rfl, H1⟩ := hrel
   have HRr : Hid (RR wr b tb bY la tcap lcap p S) := (H.out.below HB1.out).thr H1.out.2.1 HCL.out
   have HEr : Hid (wr.ownsRow el 59 6 (.slice ea es.length ecap) es.length (evCells es)) := owns_thr ((ownsRow_in HE.out).below HB1.out).1 H1.out.2.1 HCE.out
   have hwr : w1.heap.size ≤ wr.heap.size := H1.out.2.1.size
   by_cases hlt : i < L.length
   ·have hlt' : (i : Int) < (L.length : Int) := by omega
    generalize wr = w0 at *
    obtain ⟨rb, rfl, hrb0, hrb1, -, -, hrc, -⟩ := owns_cells HO1.out (by omega)
    have hrbc : Clear ab (ownOf ra) rb := ⟨by have := HAB.out; omega, fun e => by have := (HA.out.row e).2; omega⟩
    have c0 : w0.cell? ⟨rb, i, none⟩ = some (.int .i64 L[i]) := (World.cell?_of_block (w := w1) (a := ⟨rb, i, none⟩) (H1.out.2.1.block rb hrb1 hrbc.1 hrbc.2)).trans (hrc i _ (by simp [intCells, hlt]))
    obtain ⟨n, S', ev, hn, hnp, hst⟩ := HRM.out L[i] (List.getElem_mem hlt)
    have HD : Hid (L.foldl (thruNext p k S es g) A0 = (L.drop (i + 1)).foldl (thruNext p k S es g) (thruGo p k S' (es ++ [nextEv es g ev]) (nextG es g ev) A)) := by
     show _ = _
     have hnx : thruNext p k S es g A L[i] = thruGo p k S' (es ++ [nextEv es g ev]) (nextG es g ev) A := by unfold thruNext; rw [hst]
     rw [H1.out.2.2.1, List.drop_eq_getElem_cons hlt, List.foldl_cons, hnx]
    rw [hn] at c0 hst
    have HST : Hid (step S p (n : Int) = some (S', ev)) := hst
    have HHL : Hid (A.2.length + 4 ^ k ≤ 1073741824 ∧ (thruGo p k S' (es ++ [nextEv es g ev]) (nextG es g ev) A).2.length ≤ A0.2.length + (i + 1) * 4 ^ k) := by
     have h1 := H1.out.2.2.2.1
     have h2 := HLEN.out
     have h3 := thru_length p k S' (es ++ [nextEv es g ev]) (nextG es g ev) A
     rw [Nat.pow_succ] at h2
     have h4 : (i + 1) * 4 ^ k ≤ 4 * 4 ^ k := Nat.mul_le_mul_right _ (by omega)
     rw [Nat.add_mul, Nat.one_mul] at h4 ⊢
     show _ ∧ _
     generalize 4 ^ k = q at *
     generalize i * q = r at *
     constructor <;> omega
    have HNX : Hid (Reach p (ms ++ [(n : Int)]) S' (es ++ [nextEv es g ev]) (nextG es g ev)) := HR.out.next H.out.rows hst
    have hrem := step_rem HR.out.ok hst
    clear hst hn hrc hrbc
    go_wp2_with fail
    refine (refCopied_any HRr.out).mono ?_
    rintro e w2 ⟨c, tc, ccap, rfl, hc0, ht0, hb2, hr2⟩
    have c0' : w2.cell? ⟨rb, i, none⟩ = some (.int .i64 (n : Int)) := (hb2.cell (p := ⟨rb, i, none⟩) (by show rb < w0.heap.size; omega)).trans c0
    have HB2 : Hid (Below w0.heap.size w0 w2) := hb2
    have HR2 : Hid (RR w2 c tc bY la ccap lcap p S) := hr2
    clear hb2 hr2 c0
    go_wp2_with fail
    refine (refStep_any HR2.out HR.out.ok (HR2.out.low HR.out.ok).1 n HST.out).mono ?_
    rintro e w3 ⟨rfl, hk3, hr3⟩
    obtain ⟨t, kk, nm, vv, bk, gr⟩ := ev
    unfold Ev.val
    go_upto_region 6 with fail
    have HV : Hid (ThZ p w0 (w3.alloc (.cells #[Value.int .i64 t, .int .u8 (kk : Int), .int .u8 (nm : Int), .int .i16 vv, .int .i64 bk, .int .i64 gr] 59)) c tc bY la ccap lcap S' es ea ecap el w3.heap.size t kk nm vv bk gr) := by
     have q1 := hk3.size
     have q2 := HB2.out.size
     have q3 := HLT.out
     have hB : Below w0.heap.size w2 w3 := hk3.below hc0 ht0 q2
     have hb3 : Below w0.heap.size w0 w3 := HB2.out.trans hB
     have hl3 := hr3.lt
     have ho3 := ((ownsRow_in HEr.out).below hb3).1
     exact ⟨⟨by simp, by simp, by simp, by simp, by simp, by simp, fun j => World.frozen?_alloc_at _ _ _ _ (by simp)⟩, hr3.new _, hb3.alloc (by omega) _, ho3.alloc _, fun q hq => by have := (HEr.out.lt q hq).2; omega, by omega, by omega, by simp⟩
    generalize (w3.alloc (.cells #[Value.int .i64 t, .int .u8 (kk : Int), .int .u8 (nm : Int), .int .i16 vv, .int .i64 bk, .int .i64 gr] 59)) = V at *
    clear hk3 hr3 c0'
    go_wp2_with fail
    refine (refCount_any es ea ecap el _ HV.out.own (by omega) (fun e he => by have := HR.out.told.grp.in_ e he; omega)).mono ?_
    rintro e w4 ⟨rfl, hb4⟩
    rw [HR.out.told.grp.cnt]
    have HV4 : Hid (ThZ p w0 w4 c tc bY la ccap lcap S' es ea ecap el w3.heap.size t kk nm vv bk gr) := HV.out.below hb4
    have v5 := HV4.out.ev.c5
    have vf := HV4.out.ev.f
    clear hb4 HV
    go_upto_region 7 with fail
    have HV5 : Hid (ThZ p w0 (w4.setCell ⟨w3.heap.size, 5, none⟩ (.int .i64 (g : Int))) c tc bY la ccap lcap S' es ea ecap el w3.heap.size t kk nm vv bk (g : Int)) := HV4.out.off ((Off.refl _ _).setCell 5 _) (HV4.out.ev.putG _)
    generalize w4.setCell ⟨w3.heap.size, 5, none⟩ (.int .i64 (g : Int)) = V5 at *
    clear v5 vf HV4
    go_wp2_with fail
    go_loopw [10] (fun t' wq => ∃ (j : Nat) (x : Int), j ≤ es.length ∧ t' = .int .i64 (j : Int) ∧ Hid (EvAt wq w3.heap.size t kk nm vv bk x ∧ Off w3.heap.size V5 wq ∧ (bk ≠ -1 → lastGrp t bk es (g : Int) = lastGrp t bk (es.drop j) x) ∧ (bk = -1 → x = (g : Int)))) (fun t' _ => es.length - (intOf t').toNat)
    case atStart => exact ⟨0, (g : Int), Nat.zero_le _, rfl, (show Hid _ from ⟨HV5.out.ev, Off.refl _ _, fun _ => rfl, fun _ => rfl⟩)⟩
    case round =>
     obtain ⟨j, x, hj, rfl, HQ⟩ := hrel
     by_cases hjl : j < es.length
     ·have hjl' : (j : Int) < (es.length : Int) := by omega
      have d0 := HQ.out.1.c0
      have d4 := HQ.out.1.c4
      have HOW : Hid (wr.ownsRow el 59 6 (.slice ea es.length ecap) es.length (evCells es)) := (HV5.out.off HQ.out.2.1 HQ.out.1).own
      obtain ⟨gq, rfl, hg0, hg1, hnc, hcm, hcell, hfz⟩ := owns_cells HOW.out (by omega)
      have hne : gq ≠ w3.heap.size := by have := HV5.out.row gq rfl; omega
      obtain ⟨x0, x1, x2, x3, x4, x5⟩ := evCells_at es j es[j] (by simp [hjl])
      have y0 := hcell _ _ x0
      have y4 := hcell _ _ x4
      have y5 := hcell _ _ x5
      have HL : Hid (bk ≠ -1 → lastGrp t bk es (g : Int) = lastGrp t bk (es.drop (j + 1)) (if es[j].thread = t ∧ es[j].block = bk then es[j].group else x)) := fun h => by
       rw [HQ.out.2.2.1 h, List.drop_eq_getElem_cons hjl]; rfl
      clear hcell hfz x0 x1 x2 x3 x4 x5 HOW hg0
      generalize es[j] = ev at *
      by_cases h1 : ev.thread = t
      ·by_cases h2 : ev.block = bk
       ·have e1 : (ev.thread == t) = true := by simpa using h1
        have e2 : (ev.block == bk) = true := by simpa using h2
        by_cases hbk : bk = -1
        ·have e3 : (bk != -1) = false := by simp [hbk]
         have HX : Hid (bk = -1 → x = (g : Int)) := HQ.out.2.2.2
         have HBK : Hid (bk = -1) := hbk
         clear h1 h2 HL hbk
         go_upto_region 10 with fail
         go_quiet (fail)
         go_wp2
         go_roundw
         case rel => exact ⟨j + 1, x, by omega, by go_num, (show Hid _ from ⟨HQ.out.1.drewN _, HQ.out.2.1.drewN _, fun h => absurd HBK.out h, HX.out⟩)⟩
         case measure => simp [intOf]; omega
        ·have e3 : (bk != -1) = true := by simpa using hbk
         have HL2 : Hid (lastGrp t bk es (g : Int) = lastGrp t bk (es.drop (j + 1)) ev.group) := (HL.out hbk).trans (by rw [if_pos ⟨h1, h2⟩])
         have HBK : Hid (bk ≠ -1) := hbk
         clear h1 h2 HL hbk
         have d5 := HQ.out.1.c5
         have df := HQ.out.1.f
         go_upto_region 10 with fail
         go_quiet (fail)
         go_wp2
         go_roundw
         case rel => exact ⟨j + 1, ev.group, by omega, by go_num, (show Hid _ from ⟨(HQ.out.1.drewN _).putG _, (HQ.out.2.1.drewN _).setCell 5 _, fun _ => HL2.out, fun h => absurd h HBK.out⟩)⟩
         case measure => simp [intOf]; omega
       ·have e1 : (ev.thread == t) = true := by simpa using h1
        have e2 : (ev.block == bk) = false := by simpa using h2
        have HL2 : Hid (bk ≠ -1 → lastGrp t bk es (g : Int) = lastGrp t bk (es.drop (j + 1)) x) := fun h => (HL.out h).trans (by rw [if_neg (fun h => h2 h.2)])
        have HX : Hid (bk = -1 → x = (g : Int)) := HQ.out.2.2.2
        clear h1 h2 HL
        go_upto_region 10 with fail
        go_quiet (fail)
        go_wp2
        go_roundw
        case rel => exact ⟨j + 1, x, by omega, by go_num, (show Hid _ from ⟨HQ.out.1.drewN _, HQ.out.2.1.drewN _, HL2.out, HX.out⟩)⟩
        case measure => simp [intOf]; omega
      ·have e1 : (ev.thread == t) = false := by simpa using h1
       have HL2 : Hid (bk ≠ -1 → lastGrp t bk es (g : Int) = lastGrp t bk (es.drop (j + 1)) x) := fun h => (HL.out h).trans (by rw [if_neg (fun h => h1 h.1)])
       have HX : Hid (bk = -1 → x = (g : Int)) := HQ.out.2.2.2
       clear h1 HL
       go_upto_region 10 with fail
       go_quiet (fail)
       go_wp2
       go_roundw
       case rel => exact ⟨j + 1, x, by omega, by go_num, (show Hid _ from ⟨HQ.out.1.drewN _, HQ.out.2.1.drewN _, HL2.out, HX.out⟩)⟩
       case measure => simp [intOf]; omega
     ·have hjl' : ¬ (j : Int) < (es.length : Int) := by omega
      have hgx : groupOf es t bk g = x := by
       by_cases hbk : bk = -1
       ·rw [HQ.out.2.2.2 hbk]; unfold groupOf; rw [if_pos hbk]
       ·rw [← last_grp HR.out.gok t hbk, HQ.out.2.2.1 hbk, List.drop_eq_nil_of_le (by omega)]; rfl
      have HNE : Hid (nextEv es g ⟨t, kk, nm, vv, bk, gr⟩ = ⟨t, kk, nm, vv, bk, x⟩) := by show _ = _; unfold nextEv; simp only [Ev.inGroup]; rw [hgx]
      have HZ : Hid (ThZ p w0 wr c tc bY la ccap lcap S' es ea ecap el w3.heap.size t kk nm vv bk x) := HV5.out.off HQ.out.2.1 HQ.out.1
      have HH1 : Hid _ := H1
      clear H1 HQ HRr HEr HV5
      generalize wr = Z at *
      have hzs := HZ.out.sz
      have hzl : w0.heap.size ≤ Z.heap.size := HZ.out.bl.size
      obtain ⟨lb, rfl, -, hlb, -, -, hlc, -⟩ := owns_cells HZ.out.own (by omega)
      have HCC : Hid (∀ j u, (evCells es)[j]? = some u → Z.cell? ((⟨lb, 0, none⟩ : Addr).add j) = some u) := fun j u hu => by
       have hadd : (⟨lb, 0, none⟩ : Addr).add j = ⟨lb, j, none⟩ := by unfold Addr.add; split <;> simp_all
       rw [hadd]; exact hlc j u hu
      have hecl : (evCells es).length = es.length * 6 := HZ.out.own.1
      clear hlc
      go_upto_region 14 with (first | (refine wpList_append_lies _ rfl _ _ _ rfl Z.heap.size 59 i0 _ 6 32 Tryz.underlying53 hi0 hz0 hz1 hz2 rfl (by omega) (.slice none 0 0) 0 [] rfl (World.ownsRow_nil _ _ _ _) ⟨lb, 0, none⟩ es.length ecap (evCells es) rfl hecl (by exact HCC.out) (evCells_one es) hes0 (by unfold maxLen; omega) (by omega) (Nat.le_refl _) Z.heap.size rfl ?_; intro g1 cap1 w6 hown6 hgrow6 hat6 hlt6))
      simp only [Nat.zero_add, List.nil_append] at hown6 ⊢
      have HO6 : Hid (w6.ownsRow Z.heap.size 59 6 (.slice (some ⟨g1, 0, none⟩) es.length cap1) es.length (evCells es)) := hown6
      have HB6 : Hid (Below Z.heap.size Z w6) := (Below.refl _ _).grown hgrow6 (Nat.le_refl _) (fun y hy => by simp [Value.ownBlock] at hy)
      have hz6 : Z.heap.size ≤ w6.heap.size := HB6.out.size
      have HZ6 : Hid (ThZ p w0 w6 c tc bY la ccap lcap S' es (some ⟨lb, 0, none⟩) ecap el w3.heap.size t kk nm vv bk x) := HZ.out.below HB6.out
      have z0 := HZ6.out.ev.c0
      have z1 := HZ6.out.ev.c1
      have z2 := HZ6.out.ev.c2
      have z3 := HZ6.out.ev.c3
      have z4 := HZ6.out.ev.c4
      have z5 := HZ6.out.ev.c5
      clear hown6 hgrow6 hat6 HCC
      go_wp2_with (first | (refine wpList_append_lies _ rfl _ _ _ rfl Z.heap.size 59 i0 _ 6 32 Tryz.underlying53 hi0 hz0 hz1 hz2 rfl (by omega) (.slice (some ⟨g1, 0, none⟩) es.length cap1) es.length (evCells es) rfl (HO6.out.alloc _) ⟨w6.heap.size, 0, none⟩ 1 1 [Value.int .i64 t, .int .u8 (kk : Int), .int .u8 (nm : Int), .int .i16 vv, .int .i64 bk, .int .i64 x] rfl rfl (World.news_of_block (cs := #[Value.int .i64 t, .int .u8 (kk : Int), .int .u8 (nm : Int), .int .i16 vv, .int .i64 bk, .int .i64 x]) (t := 59) (fr := (0, 0)) (heap_alloc_new w6 _)) (by simp [Value.oneCell']) (by omega) (by unfold maxLen; omega) (by omega) (by simp; omega) (w6.heap.size + 1) (by simp) ?_; intro g2 cap2 w7 hown7 hgrow7 hat7 hlt7))
      have HB7 : Hid (Below Z.heap.size Z w7) := HB6.out.trans (Below.grown ((Below.refl Z.heap.size w6).alloc (by omega) _) hgrow7 (by simp; omega) (fun y hy => (HO6.out.lt y hy).1))
      have hO7 : w7.ownsRow Z.heap.size 59 6 (.slice (some ⟨g2, 0, none⟩) (es ++ [Ev.mk t kk nm vv bk x]).length cap2) (es ++ [Ev.mk t kk nm vv bk x]).length (evCells (es ++ [Ev.mk t kk nm vv bk x])) := by simpa [evCells_append, evCells, Ev.cells] using hown7
      have hg2 := (hO7.lt g2 rfl).1
      have HO7 : Hid (w7.ownsRow Z.heap.size 59 6 (.slice (some ⟨g2, 0, none⟩) (es ++ [Ev.mk t kk nm vv bk x]).length cap2) (es ++ [Ev.mk t kk nm vv bk x]).length (evCells (es ++ [Ev.mk t kk nm vv bk x]))) := hO7
      clear z0 z1 z2 z3 z4 z5 hown7 hgrow7 hat7 hO7
      have HBW : Hid (Below w0.heap.size w0 w7) := HZ.out.bl.trans (HB7.out.mono hzl)
      have HRW : Hid (RR w7 c tc bY la ccap lcap p S') := HZ.out.rr.below HB7.out
      have hcall := HIH.out S' (es ++ [nextEv es g ⟨t, kk, nm, vv, bk, gr⟩]) (nextG es g ⟨t, kk, nm, vv, bk, gr⟩) (ms ++ [(n : Int)]) A ra' rcap' c tc ccap (some ⟨g2, 0, none⟩) cap2 Z.heap.size w7 HRW.out HNX.out (by have := HK.out; omega) (HH1.out.1.below HBW.out) (by rw [HNE.out]; exact HO7.out) (by simp)
       (fun q hq => by
         have hrow : ∀ q, ownOf ra' = some q → q < w0.heap.size := fun q h => (HH1.out.1.row h).2
         have hab := HAB.out
         have hlt3 := HLT.out
         rcases hq with rfl | rfl | rfl | rfl
         · exact ⟨by omega, fun h => by have := hrow _ h; omega⟩
         · exact ⟨by omega, fun h => by have := hrow _ h; omega⟩
         · exact (HCL.out _ (by simp)).next HH1.out.2.1 (by omega)
         · exact (HCL.out _ (by simp)).next HH1.out.2.1 (by omega))
       (fun q hq => by
         have hab := HAB.out
         obtain rfl : g2 = q := by simpa [Value.ownBlock] using hq
         exact ⟨by omega, fun h => by have := (HH1.out.1.row h).2; omega⟩) HHL.out.1
      rw [show (es ++ [nextEv es g ⟨t, kk, nm, vv, bk, gr⟩]).length = (es.length + 1) by simp] at hcall
      have HCALL : Hid _ := hcall
      clear hcall
      refine Calls.mono HCALL.out ?_
      clear HCALL
      rintro e w8 ⟨rfl, ra2, rcap2, hA2, hT2⟩
      have HA2 : Hid _ := hA2
      have HT2 : Hid _ := hT2
      clear hA2 hT2
      go_wp2
      go_roundw
      case rel => exact ⟨i + 1, _, ra2, rcap2, by omega, by go_num, (show Hid _ from ⟨HA2.out, HH1.out.2.1.trans ((Thr.of HBW.out _).trans HT2.out), HD.out, HHL.out.2, fun h => by omega⟩)⟩
      case measure => simp [intOf]; omega
   ·have e : i = L.length := by omega
    have hlt' : ¬ (i : Int) < (L.length : Int) := by omega
    subst e
    by_cases hL : L = []
    ·have hLl : ¬ (L.length : Int) > 0 := by rw [hL]; simp
     have hi0' : L.length = 0 := by rw [hL]; rfl
     have HAA : Hid (A = A0) := H1.out.2.2.2.2 hi0'
     have HGO : Hid (thruGo p (k + 1) S es g A0 = (A.1 && decide ((takeGroups es).2 = []), addRes A.2 (resOf S p))) := by rw [HAA.out]; exact HTE.out hL
     have HT1 : Hid (Thr ab w wr (ownOf ra) (ownOf ra')) := (Thr.of HB1.out _).trans H1.out.2.1
     have HAr : Hid (AllAt wr ab A ra' rcap') := H1.out.1
     have HLA : Hid (A.2.length + 1 ≤ 1073741824) := by
      have h2 := HLEN.out
      have h3 : 1 ≤ 4 ^ (k + 1) := Nat.pos_of_ne_zero (by simp)
      rw [HAA.out]
      show _ ≤ _
      generalize 4 ^ (k + 1) = q at *
      omega
     have a0 := HAr.out.c0
     clear H1 HTE HTN HIH HLEN HAA hL
     obtain ⟨A1, A2⟩ := A
     simp only at a0 HGO HLA
     have hla : A2.length + 1 ≤ 1073741824 := HLA.out
     cases A1
     ·have HGO2 : Hid (thruGo p (k + 1) S es g A0 = (false, addRes A2 (resOf S p))) := HGO.out
      have HV : Hid (AllAt wr ab (false, A2) ra' rcap') := HAr.out
      have HTV : Hid (Thr ab w wr (ownOf ra) (ownOf ra')) := HT1.out
      have HRV : Hid (RR wr b tb bY la tcap lcap p S) := HRr.out
      clear HGO HAr HT1 HRr HEr
      go_upto_region 19 with fail
      clear a0
      generalize wr = V at *
      go_wp2_with fail
      refine (refResult_any HRV.out HR.out.ok).mono ?_
      rintro e w6 ⟨rfl, hb6⟩
      unfold resV
      have HA6 : Hid (AllAt w6 ab (false, A2) ra' rcap') := HV.out.below hb6
      have HT6 : Hid (Thr ab w w6 (ownOf ra) (ownOf ra')) := HTV.out.trans (Thr.of hb6 _)
      clear hb6 HV HTV HRV
      go_upto_region 20 with fail
      have HBX : Hid (Below w6.heap.size w6 (w6.alloc (.cells #[.int .u8 (endOf S p : Int), .int .i16 (S.var 0), .int .i16 (S.var 1), .int .i16 (S.var 2), .int .i16 (S.var 3)] 66))) := (Below.refl _ _).alloc (Nat.le_refl _) _
      have HMX : Hid ((w6.alloc (.cells #[.int .u8 (endOf S p : Int), .int .i16 (S.var 0), .int .i16 (S.var 1), .int .i16 (S.var 2), .int .i16 (S.var 3)] 66)).rangeAt w6.heap.size 0 (resL (resOf S p))) := fun j v hv => by
       rw [Nat.zero_add, cell_of_row _ w6.heap.size j _ 66 (0, 0) (heap_alloc_new w6 _)]
       show ((resL (resOf S p)).toArray)[j]? = some v
       simpa using hv
      have HZX : Hid ((w6.alloc (.cells #[.int .u8 (endOf S p : Int), .int .i16 (S.var 0), .int .i16 (S.var 1), .int .i16 (S.var 2), .int .i16 (S.var 3)] 66)).heap.size = w6.heap.size + 1) := by show _ = _; simp
      generalize w6.alloc (.cells #[.int .u8 (endOf S p : Int), .int .i16 (S.var 0), .int .i16 (S.var 1), .int .i16 (S.var 2), .int .i16 (S.var 3)] 66) = X at *
      have HAX : Hid (AllAt X ab (false, A2) ra' rcap') := HA6.out.below HBX.out
      have HTX : Hid (Thr ab w X (ownOf ra) (ownOf ra')) := HT6.out.trans (Thr.of HBX.out _)
      have hxz := HZX.out
      clear HA6 HT6 HBX HZX
      go_wp2_with fail
      go_loopw [13] (fun v13 wq => ∃ i : Nat, i ≤ A2.length ∧ v13 = .int .i64 (i : Int) ∧ Hid (Below X.heap.size X wq ∧ ∀ y ∈ A2.take i, y ≠ resOf S p)) (fun v13 _ => A2.length - (intOf v13).toNat)
      case atStart => exact ⟨0, Nat.zero_le _, rfl, (show Hid _ from ⟨Below.refl _ _, fun y hy => by simp at hy⟩)⟩
      case round =>
       obtain ⟨i, hi, rfl, H2⟩ := hrel
       have HA2 : Hid (AllAt wr ab (false, A2) ra' rcap') := HAX.out.below H2.out.1
       have HM2 : Hid (wr.rangeAt w6.heap.size 0 (resL (resOf S p))) := range_below HMX.out H2.out.1 (by omega)
       have a1 : wr.cell? ⟨ab, 1, none⟩ = some (.slice ra' A2.length rcap') := HA2.out.c1
       by_cases hil : i < A2.length
       ·have hil' : (i : Int) < (A2.length : Int) := by omega
        obtain ⟨rg, rfl, hrg, hrc⟩ := res_of_owns HA2.out.own (by show 0 < A2.length; omega)
        have HTW : Hid (LpTwo ab rg (i * 5) w6.heap.size (.slice (some ⟨rg, 0, none⟩) A2.length rcap') A2[i] (resOf S p) wr) := ⟨a1, hrc i _ (List.getElem?_eq_getElem hil), HM2.out⟩
        have HTK : Hid (A2.take (i + 1) = A2.take i ++ [A2[i]]) := by show _ = _; rw [List.take_add_one, List.getElem?_eq_getElem hil]; rfl
        have HMEM : Hid (A2[i] ∈ A2) := List.getElem_mem hil
        clear hrc
        generalize A2[i] = x at *
        have heq := eq_res x (resOf S p)
        go_upto_region 23 with fail
        refine wp_region_held_drew (S := LpTwo ab rg (i * 5) w6.heap.size (.slice (some ⟨rg, 0, none⟩) A2.length rcap') x (resOf S p)) (by kernel_rfl) ⟨HTW.out.a1, HTW.out.a, HTW.out.b⟩ (fun hHeld => ?_)
        refine takeR 0 (.pointer (some ⟨ab, 0, none⟩)) rfl hHeld ?_
        refine takeS 1 (.pointer (some ⟨ab, 0, none⟩)) rfl hHeld ?_
        refine takeS 2 (.pointer (some ⟨ab, 1, none⟩)) rfl hHeld ?_
        refine takeAt 3 (.slice (some ⟨rg, 0, none⟩) A2.length rcap') rfl (.inl ⟨by rfl, fun w hw => by have hwa := hw.a1; go_simp⟩) hHeld ?_
        refine takeR 4 (.int .i64 (i : Int)) rfl hHeld ?_
        refine takeAt 5 (.pointer (some ⟨rg, i * 5, none⟩)) rfl (.inl ⟨by rfl, fun w hw => by go_simp <;> (intro h; omega)⟩) hHeld ?_
        refine takeAt 6 (.agg (resL x).toArray) rfl (yieldsIf_load_mid (by rfl) _ _ rfl rg (i * 5) rfl (resL x) _ (fun w hw => hw.a) Tryz.underlying66 rfl Tryz.size66) hHeld ?_
        refine takeAt 7 (.agg (resL (resOf S p)).toArray) rfl (yieldsIf_load_mid (by rfl) _ _ rfl w6.heap.size 0 rfl (resL (resOf S p)) _ (fun w hw => hw.b) Tryz.underlying66 rfl Tryz.size66) hHeld ?_
        refine takeS 8 (.bool (decide (x = resOf S p))) rfl hHeld ?_
        refine wpAnyH_done (by kernel_rfl) ?_ _
        have HB3 : Hid (Below X.heap.size X wr.drew) := H2.out.1.drew
        have HAL : Hid (∀ y ∈ A2.take i, y ≠ resOf S p) := H2.out.2
        clear hHeld HTW a1 heq HA2 HM2 H2
        by_cases hxm : x = resOf S p
        ·rw [decide_eq_true hxm]
         have HRES : Hid (addRes A2 (resOf S p) = A2) := by show _ = _; unfold addRes; rw [if_pos (by rw [← hxm]; exact HMEM.out)]
         clear hxm
         go_wp2
         go_end0
         rw [HGO2.out, HRES.out]
         exact ⟨rfl, _, rcap', HAX.out.below HB3.out, HTX.out.trans (Thr.of HB3.out _)⟩
        ·rw [decide_eq_false hxm]
         have HAL2 : Hid (∀ y ∈ A2.take (i + 1), y ≠ resOf S p) := fun y hy => by
          rw [HTK.out] at hy
          rcases List.mem_append.1 hy with hy | hy
          ·exact HAL.out y hy
          ·rw [List.mem_singleton] at hy; subst hy; exact hxm
         clear hxm
         go_wp2
         go_roundw
         case rel => exact ⟨i + 1, by omega, by go_num, (show Hid _ from ⟨HB3.out, HAL2.out⟩)⟩
         case measure => simp [intOf]; omega
       ·have hil' : ¬ (i : Int) < (A2.length : Int) := by omega
        have HRES : Hid (addRes A2 (resOf S p) = A2 ++ [resOf S p]) := by
         show _ = _
         unfold addRes
         rw [if_neg (fun hm => H2.out.2 _ (by rw [List.take_of_length_le (by omega)]; exact hm) rfl)]
        have m0 : wr.cell? ⟨w6.heap.size, 0, none⟩ = some (.int .u8 (endOf S p : Int)) := HM2.out 0 _ rfl
        have m1 : wr.cell? ⟨w6.heap.size, 1, none⟩ = some (.int .i16 (S.var 0)) := HM2.out 1 _ rfl
        have m2 : wr.cell? ⟨w6.heap.size, 2, none⟩ = some (.int .i16 (S.var 1)) := HM2.out 2 _ rfl
        have m3 : wr.cell? ⟨w6.heap.size, 3, none⟩ = some (.int .i16 (S.var 2)) := HM2.out 3 _ rfl
        have m4 : wr.cell? ⟨w6.heap.size, 4, none⟩ = some (.int .i16 (S.var 3)) := HM2.out 4 _ rfl
        have HBR : Hid (Below X.heap.size X wr) := H2.out.1
        have hablt : ab < wr.heap.size := HA2.out.lt
        have hne : (Value.slice ra' A2.length rcap').ownBlock ≠ some ab := fun e => by have := (HA2.out.own.lt _ e).1; omega
        have af := HA2.out.fz
        clear HM2 H2
        go_upto_region 24 with fail
        go_region_law
         ((refine step_append_lies _ (by rfl) _ _ _ (by rfl) (ab + 1) 66 i1 _ 5 10 Tryz.underlying60 hi1 hy0 hy1 hy2 rfl (by omega) (.slice ra' A2.length rcap') A2.length (resCells A2) (by rfl) ((HA2.out.own.alloc _).drew)
             ⟨wr.heap.size, 0, none⟩ 1 1 [.int .u8 (endOf S p : Int), .int .i16 (S.var 0), .int .i16 (S.var 1), .int .i16 (S.var 2), .int .i16 (S.var 3)] (by rfl) (by rfl) (World.news_of_block (cs := #[.int .u8 (endOf S p : Int), .int .i16 (S.var 0), .int .i16 (S.var 1), .int .i16 (S.var 2), .int .i16 (S.var 3)]) (t := 66) (fr := (0, 0)) (heap_alloc_new wr _)) (by simp [Value.oneCell'])
             (by omega) (by unfold maxLen; omega) (by omega) (by simp; omega) (wr.heap.size + 1) (by simp) ?_; intro gg cap1 w7 hown7 hgrow7 hat7 hlt7
           have k1 := grow_cell hgrow7 a1 hne
           have kf := grow_frozen hgrow7 hablt (af 1) hne))
        all_goals go_wp2
        all_goals go_end0
        all_goals
         have hp := AllAt.putR (x := resOf S p) HA2.out (.cells #[.int .u8 (endOf S p : Int), .int .i16 (S.var 0), .int .i16 (S.var 1), .int .i16 (S.var 2), .int .i16 (S.var 3)] 66) (gg := gg) (cap1 := cap1) (w2 := w7) (by rw [← own_of ra' A2.length rcap']; exact ⟨hgrow7.os, hgrow7.tape, hgrow7.output, hgrow7.size, hgrow7.block⟩) (by rw [resCells_append]; exact hown7) (by rw [← own_of ra' A2.length rcap']; simpa using hat7)
         rw [HGO2.out, HRES.out]
         exact ⟨rfl, _, cap1, hp.1, (HTX.out.trans (Thr.of HBR.out _)).trans hp.2⟩
     ·go_wp2_with fail
      refine (refAtomic_any es ea ecap el g _ HEr.out (by omega) HR.out.told).mono ?_
      rintro e w5 ⟨rfl, hb5⟩
      have HA5 : Hid (AllAt w5 ab (true, A2) ra' rcap') := HAr.out.below hb5
      have HGO2 : Hid (thruGo p (k + 1) S es g A0 = (decide ((takeGroups es).2 = []), addRes A2 (resOf S p))) := by have h := HGO.out; rw [Bool.true_and] at h; exact h
      have HT5 : Hid (Thr ab w w5 (ownOf ra) (ownOf ra')) := HT1.out.trans (Thr.of hb5 _)
      have HR5 : Hid (RR w5 b tb bY la tcap lcap p S) := HRr.out.below hb5
      clear HGO HAr HT1 HRr HEr hb5 a0
      generalize decide ((takeGroups es).2 = []) = at_ at *
      have v0 := HA5.out.c0
      have vf := HA5.out.fz
      go_upto_region 19 with fail
      have HV : Hid (AllAt (w5.setCell ⟨ab, 0, none⟩ (.bool at_)) ab (at_, A2) ra' rcap') := HA5.out.putA at_
      have HTV : Hid (Thr ab w (w5.setCell ⟨ab, 0, none⟩ (.bool at_)) (ownOf ra) (ownOf ra')) := HT5.out.trans (Thr.setA ab w5 _ 0 _)
      have HRV : Hid (RR (w5.setCell ⟨ab, 0, none⟩ (.bool at_)) b tb bY la tcap lcap p S) := HR5.out.thr (Thr.setA ab w5 (ownOf ra) 0 _) HCL.out
      clear v0 vf HA5 HT5 HR5
      generalize w5.setCell ⟨ab, 0, none⟩ (.bool at_) = V at *
      go_wp2_with fail
      refine (refResult_any HRV.out HR.out.ok).mono ?_
      rintro e w6 ⟨rfl, hb6⟩
      unfold resV
      have HA6 : Hid (AllAt w6 ab (at_, A2) ra' rcap') := HV.out.below hb6
      have HT6 : Hid (Thr ab w w6 (ownOf ra) (ownOf ra')) := HTV.out.trans (Thr.of hb6 _)
      clear hb6 HV HTV HRV
      go_upto_region 20 with fail
      have HBX : Hid (Below w6.heap.size w6 (w6.alloc (.cells #[.int .u8 (endOf S p : Int), .int .i16 (S.var 0), .int .i16 (S.var 1), .int .i16 (S.var 2), .int .i16 (S.var 3)] 66))) := (Below.refl _ _).alloc (Nat.le_refl _) _
      have HMX : Hid ((w6.alloc (.cells #[.int .u8 (endOf S p : Int), .int .i16 (S.var 0), .int .i16 (S.var 1), .int .i16 (S.var 2), .int .i16 (S.var 3)] 66)).rangeAt w6.heap.size 0 (resL (resOf S p))) := fun j v hv => by
       rw [Nat.zero_add, cell_of_row _ w6.heap.size j _ 66 (0, 0) (heap_alloc_new w6 _)]
       show ((resL (resOf S p)).toArray)[j]? = some v
       simpa using hv
      have HZX : Hid ((w6.alloc (.cells #[.int .u8 (endOf S p : Int), .int .i16 (S.var 0), .int .i16 (S.var 1), .int .i16 (S.var 2), .int .i16 (S.var 3)] 66)).heap.size = w6.heap.size + 1) := by show _ = _; simp
      generalize w6.alloc (.cells #[.int .u8 (endOf S p : Int), .int .i16 (S.var 0), .int .i16 (S.var 1), .int .i16 (S.var 2), .int .i16 (S.var 3)] 66) = X at *
      have HAX : Hid (AllAt X ab (at_, A2) ra' rcap') := HA6.out.below HBX.out
      have HTX : Hid (Thr ab w X (ownOf ra) (ownOf ra')) := HT6.out.trans (Thr.of HBX.out _)
      have hxz := HZX.out
      clear HA6 HT6 HBX HZX
      go_wp2_with fail
      go_loopw [13] (fun v13 wq => ∃ i : Nat, i ≤ A2.length ∧ v13 = .int .i64 (i : Int) ∧ Hid (Below X.heap.size X wq ∧ ∀ y ∈ A2.take i, y ≠ resOf S p)) (fun v13 _ => A2.length - (intOf v13).toNat)
      case atStart => exact ⟨0, Nat.zero_le _, rfl, (show Hid _ from ⟨Below.refl _ _, fun y hy => by simp at hy⟩)⟩
      case round =>
       obtain ⟨i, hi, rfl, H2⟩ := hrel
       have HA2 : Hid (AllAt wr ab (at_, A2) ra' rcap') := HAX.out.below H2.out.1
       have HM2 : Hid (wr.rangeAt w6.heap.size 0 (resL (resOf S p))) := range_below HMX.out H2.out.1 (by omega)
       have a1 : wr.cell? ⟨ab, 1, none⟩ = some (.slice ra' A2.length rcap') := HA2.out.c1
       by_cases hil : i < A2.length
       ·have hil' : (i : Int) < (A2.length : Int) := by omega
        obtain ⟨rg, rfl, hrg, hrc⟩ := res_of_owns HA2.out.own (by show 0 < A2.length; omega)
        have HTW : Hid (LpTwo ab rg (i * 5) w6.heap.size (.slice (some ⟨rg, 0, none⟩) A2.length rcap') A2[i] (resOf S p) wr) := ⟨a1, hrc i _ (List.getElem?_eq_getElem hil), HM2.out⟩
        have HTK : Hid (A2.take (i + 1) = A2.take i ++ [A2[i]]) := by show _ = _; rw [List.take_add_one, List.getElem?_eq_getElem hil]; rfl
        have HMEM : Hid (A2[i] ∈ A2) := List.getElem_mem hil
        clear hrc
        generalize A2[i] = x at *
        have heq := eq_res x (resOf S p)
        go_upto_region 23 with fail
        refine wp_region_held_drew (S := LpTwo ab rg (i * 5) w6.heap.size (.slice (some ⟨rg, 0, none⟩) A2.length rcap') x (resOf S p)) (by kernel_rfl) ⟨HTW.out.a1, HTW.out.a, HTW.out.b⟩ (fun hHeld => ?_)
        refine takeR 0 (.pointer (some ⟨ab, 0, none⟩)) rfl hHeld ?_
        refine takeS 1 (.pointer (some ⟨ab, 0, none⟩)) rfl hHeld ?_
        refine takeS 2 (.pointer (some ⟨ab, 1, none⟩)) rfl hHeld ?_
        refine takeAt 3 (.slice (some ⟨rg, 0, none⟩) A2.length rcap') rfl (.inl ⟨by rfl, fun w hw => by have hwa := hw.a1; go_simp⟩) hHeld ?_
        refine takeR 4 (.int .i64 (i : Int)) rfl hHeld ?_
        refine takeAt 5 (.pointer (some ⟨rg, i * 5, none⟩)) rfl (.inl ⟨by rfl, fun w hw => by go_simp <;> (intro h; omega)⟩) hHeld ?_
        refine takeAt 6 (.agg (resL x).toArray) rfl (yieldsIf_load_mid (by rfl) _ _ rfl rg (i * 5) rfl (resL x) _ (fun w hw => hw.a) Tryz.underlying66 rfl Tryz.size66) hHeld ?_
        refine takeAt 7 (.agg (resL (resOf S p)).toArray) rfl (yieldsIf_load_mid (by rfl) _ _ rfl w6.heap.size 0 rfl (resL (resOf S p)) _ (fun w hw => hw.b) Tryz.underlying66 rfl Tryz.size66) hHeld ?_
        refine takeS 8 (.bool (decide (x = resOf S p))) rfl hHeld ?_
        refine wpAnyH_done (by kernel_rfl) ?_ _
        have HB3 : Hid (Below X.heap.size X wr.drew) := H2.out.1.drew
        have HAL : Hid (∀ y ∈ A2.take i, y ≠ resOf S p) := H2.out.2
        clear hHeld HTW a1 heq HA2 HM2 H2
        by_cases hxm : x = resOf S p
        ·rw [decide_eq_true hxm]
         have HRES : Hid (addRes A2 (resOf S p) = A2) := by show _ = _; unfold addRes; rw [if_pos (by rw [← hxm]; exact HMEM.out)]
         clear hxm
         go_wp2
         go_end0
         rw [HGO2.out, HRES.out]
         exact ⟨rfl, _, rcap', HAX.out.below HB3.out, HTX.out.trans (Thr.of HB3.out _)⟩
        ·rw [decide_eq_false hxm]
         have HAL2 : Hid (∀ y ∈ A2.take (i + 1), y ≠ resOf S p) := fun y hy => by
          rw [HTK.out] at hy
          rcases List.mem_append.1 hy with hy | hy
          ·exact HAL.out y hy
          ·rw [List.mem_singleton] at hy; subst hy; exact hxm
         clear hxm
         go_wp2
         go_roundw
         case rel => exact ⟨i + 1, by omega, by go_num, (show Hid _ from ⟨HB3.out, HAL2.out⟩)⟩
         case measure => simp [intOf]; omega
       ·have hil' : ¬ (i : Int) < (A2.length : Int) := by omega
        have HRES : Hid (addRes A2 (resOf S p) = A2 ++ [resOf S p]) := by
         show _ = _
         unfold addRes
         rw [if_neg (fun hm => H2.out.2 _ (by rw [List.take_of_length_le (by omega)]; exact hm) rfl)]
        have m0 : wr.cell? ⟨w6.heap.size, 0, none⟩ = some (.int .u8 (endOf S p : Int)) := HM2.out 0 _ rfl
        have m1 : wr.cell? ⟨w6.heap.size, 1, none⟩ = some (.int .i16 (S.var 0)) := HM2.out 1 _ rfl
        have m2 : wr.cell? ⟨w6.heap.size, 2, none⟩ = some (.int .i16 (S.var 1)) := HM2.out 2 _ rfl
        have m3 : wr.cell? ⟨w6.heap.size, 3, none⟩ = some (.int .i16 (S.var 2)) := HM2.out 3 _ rfl
        have m4 : wr.cell? ⟨w6.heap.size, 4, none⟩ = some (.int .i16 (S.var 3)) := HM2.out 4 _ rfl
        have HBR : Hid (Below X.heap.size X wr) := H2.out.1
        have hablt : ab < wr.heap.size := HA2.out.lt
        have hne : (Value.slice ra' A2.length rcap').ownBlock ≠ some ab := fun e => by have := (HA2.out.own.lt _ e).1; omega
        have af := HA2.out.fz
        clear HM2 H2
        go_upto_region 24 with fail
        go_region_law
         ((refine step_append_lies _ (by rfl) _ _ _ (by rfl) (ab + 1) 66 i1 _ 5 10 Tryz.underlying60 hi1 hy0 hy1 hy2 rfl (by omega) (.slice ra' A2.length rcap') A2.length (resCells A2) (by rfl) ((HA2.out.own.alloc _).drew)
             ⟨wr.heap.size, 0, none⟩ 1 1 [.int .u8 (endOf S p : Int), .int .i16 (S.var 0), .int .i16 (S.var 1), .int .i16 (S.var 2), .int .i16 (S.var 3)] (by rfl) (by rfl) (World.news_of_block (cs := #[.int .u8 (endOf S p : Int), .int .i16 (S.var 0), .int .i16 (S.var 1), .int .i16 (S.var 2), .int .i16 (S.var 3)]) (t := 66) (fr := (0, 0)) (heap_alloc_new wr _)) (by simp [Value.oneCell'])
             (by omega) (by unfold maxLen; omega) (by omega) (by simp; omega) (wr.heap.size + 1) (by simp) ?_; intro gg cap1 w7 hown7 hgrow7 hat7 hlt7
           have k1 := grow_cell hgrow7 a1 hne
           have kf := grow_frozen hgrow7 hablt (af 1) hne))
        all_goals go_wp2
        all_goals go_end0
        all_goals
         have hp := AllAt.putR (x := resOf S p) HA2.out (.cells #[.int .u8 (endOf S p : Int), .int .i16 (S.var 0), .int .i16 (S.var 1), .int .i16 (S.var 2), .int .i16 (S.var 3)] 66) (gg := gg) (cap1 := cap1) (w2 := w7) (by rw [← own_of ra' A2.length rcap']; exact ⟨hgrow7.os, hgrow7.tape, hgrow7.output, hgrow7.size, hgrow7.block⟩) (by rw [resCells_append]; exact hown7) (by rw [← own_of ra' A2.length rcap']; simpa using hat7)
         rw [HGO2.out, HRES.out]
         exact ⟨rfl, _, cap1, hp.1, (HTX.out.trans (Thr.of HBR.out _)).trans hp.2⟩
    ·have HD : Hid (thruGo p (k + 1) S es g A0 = A) := by
      show _ = _
      rw [HTN.out hL, H1.out.2.2.1, List.drop_eq_nil_of_le (by omega)]
      rfl
     have hlp : (L.length : Int) > 0 := by have := List.length_pos_iff.2 hL; omega
     go_wp2
     go_end0
     rw [HD.out]
     exact ⟨rfl, ra', rcap', H1.out.1, (Thr.of HB1.out _).trans H1.out.2.1⟩

end Go.Proofs.YtfdafcnfefbcbabGreat
