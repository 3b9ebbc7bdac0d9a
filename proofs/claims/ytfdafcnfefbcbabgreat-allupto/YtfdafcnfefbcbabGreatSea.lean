/-
 Several texts of ours in one: Search1, Search2, Search3, Search4, Search5, Search6.
-/
import Derived.Test.YtfdafcnfefbcbabGreatOrf
import Derived.Test.YtfdafcnfefbcbabGreatPla
import Derived.WalkSpells
import Derived.Deep.QuietTactic
import Derived.BigQuiet
import Derived.Test.YtfdafcnfefbcbabGreatBas
import Derived.Deep.CutBlock
/-
 Package search: the contracts of behind and knotOf.
-/
namespace Go.Proofs.YtfdafcnfefbcbabGreat
open Go.RowKit
set_option linter.unusedVariables false
set_option maxRecDepth 100000
set_option maxHeartbeats 4000000
attribute [local go_sem ↓] Go.wp_at_zero Go.wp_at_succ exec_load_state
attribute [local go_sem] ptrB isPtr0 aggL

theorem behind_any (ms : List Int) (n : Int) (sa : Option Addr) (scap lo : Nat) (w : World) (h : w.ownsRow lo 3 1 (.slice sa ms.length scap) ms.length (intCells ms)) (hl : ms.length ≤ 4000) :
  Calls Tryz.prog 100 #[.slice sa ms.length scap, .int .i64 n] w fun e w' => Below w.heap.size w w' ∧ ∃ ba bcap, e = .returned (.slice ba (ms.length + 1) bcap) ∧ w'.ownsRow w.heap.size 3 1 (.slice ba (ms ++ [n]).length bcap) (ms ++ [n]).length (intCells (ms ++ [n])) := by
 obtain ⟨i0, hi0, hz0, hz1, hz2⟩ := info_parts Tryz.info3
 by_cases hm0 : 0 < ms.length
 ·obtain ⟨mb, rfl, -, hmb, -, -, hmc, -⟩ := owns_cells h hm0
  have HCC : Hid (∀ j u, (intCells ms)[j]? = some u → w.cell? ((⟨mb, 0, none⟩ : Addr).add j) = some u) := fun j u hu => by
   have hadd : (⟨mb, 0, none⟩ : Addr).add j = ⟨mb, j, none⟩ := by unfold Addr.add; split <;> simp_all
   rw [hadd]; exact hmc j u hu
  clear hmc h
  go_enter Tryz.func100, Tryz.ntmps100
  go_upto_region 3 with (first | (refine wpList_append_lies _ rfl _ _ _ rfl w.heap.size 3 i0 _ 1 8 Tryz.underlying31 hi0 hz0 hz1 hz2 rfl (by omega) (.slice none 0 0) 0 [] rfl (World.ownsRow_nil _ _ _ _) ⟨mb, 0, none⟩ ms.length scap (intCells ms) rfl (by simp [intCells]) (by exact HCC.out) (by simp [intCells, Value.oneCell']) hm0 (by unfold maxLen; omega) (by omega) (Nat.le_refl _) w.heap.size rfl ?_; intro g1 cap1 w6 hown6 hgrow6 hat6 hlt6))
  simp only [Nat.zero_add, List.nil_append] at hown6 ⊢
  have HO6 : Hid (w6.ownsRow w.heap.size 3 1 (.slice (some ⟨g1, 0, none⟩) ms.length cap1) ms.length (intCells ms)) := hown6
  have HB6 : Hid (Below w.heap.size w w6) := (Below.refl _ _).grown hgrow6 (Nat.le_refl _) (fun y hy => by simp [Value.ownBlock] at hy)
  have hz6 : w.heap.size ≤ w6.heap.size := HB6.out.size
  clear hown6 hgrow6 hat6 HCC
  go_wp2_with (first | (refine wpList_append_lies _ rfl _ _ _ rfl w.heap.size 3 i0 _ 1 8 Tryz.underlying31 hi0 hz0 hz1 hz2 rfl (by omega) (.slice (some ⟨g1, 0, none⟩) ms.length cap1) ms.length (intCells ms) rfl (HO6.out.alloc _) ⟨w6.heap.size, 0, none⟩ 1 1 [Value.int .i64 n] rfl rfl (World.news_of_block (cs := #[Value.int .i64 n]) (t := 3) (fr := (0, 0)) (heap_alloc_new w6 _)) (by simp [Value.oneCell']) (by omega) (by unfold maxLen; omega) (by omega) (by simp; omega) (w6.heap.size + 1) (by simp) ?_; intro g2 cap2 w7 hown7 hgrow7 hat7 hlt7))
  go_ret
  exact ⟨HB6.out.trans (Below.grown ((Below.refl w.heap.size w6).alloc (by omega) _) hgrow7 (by simp; omega) (fun y hy => (HO6.out.lt y hy).1)), _, _, rfl, by simpa [intCells] using hown7⟩
 ·obtain rfl : ms = [] := List.length_eq_zero_iff.1 (by omega)
  clear h hm0 hl
  simp only [List.length_nil]
  cases sa with
  | none =>
   go_enter Tryz.func100, Tryz.ntmps100
   go_upto_region 3 with fail
   go_wp2_with (first | (refine wpList_append_lies _ rfl _ _ _ rfl w.heap.size 3 i0 _ 1 8 Tryz.underlying31 hi0 hz0 hz1 hz2 rfl (by omega) (.slice none 0 0) 0 [] rfl (World.ownsRow_nil _ _ _ _) ⟨w.heap.size, 0, none⟩ 1 1 [Value.int .i64 n] rfl rfl (World.news_of_block (cs := #[Value.int .i64 n]) (t := 3) (fr := (0, 0)) (heap_alloc_new w _)) (by simp [Value.oneCell']) (by omega) (by unfold maxLen; omega) (by omega) (by simp) (w.heap.size + 1) (by simp) ?_; intro g2 cap2 w7 hown7 hgrow7 hat7 hlt7))
   go_ret
   exact ⟨Below.grown ((Below.refl w.heap.size w).alloc (by omega) _) hgrow7 (by simp) (fun y hy => by simp [Value.ownBlock] at hy), _, _, rfl, by simpa [intCells] using hown7⟩
  | some ad =>
   go_enter Tryz.func100, Tryz.ntmps100
   go_upto_region 3 with fail
   go_wp2_with (first | (refine wpList_append_lies _ rfl _ _ _ rfl w.heap.size 3 i0 _ 1 8 Tryz.underlying31 hi0 hz0 hz1 hz2 rfl (by omega) (.slice none 0 0) 0 [] rfl (World.ownsRow_nil _ _ _ _) ⟨w.heap.size, 0, none⟩ 1 1 [Value.int .i64 n] rfl rfl (World.news_of_block (cs := #[Value.int .i64 n]) (t := 3) (fr := (0, 0)) (heap_alloc_new w _)) (by simp [Value.oneCell']) (by omega) (by unfold maxLen; omega) (by omega) (by simp) (w.heap.size + 1) (by simp) ?_; intro g2 cap2 w7 hown7 hgrow7 hat7 hlt7))
   go_ret
   exact ⟨Below.grown ((Below.refl w.heap.size w).alloc (by omega) _) hgrow7 (by simp) (fun y hy => by simp [Value.ownBlock] at hy), _, _, rfl, by simpa [intCells] using hown7⟩

theorem eq_nil (w : World) (a : Option Addr) (n c : Nat) : (binOp .eql 31 (.slice a n c) (.slice none 0 0)).run Tryz.prog w = .ok (.bool a.isNone) w := Lib.run_eql_slice_nil w _ _ a n c 0 0 Tryz.underlying31
theorem ne_nil (w : World) (a : Option Addr) (n c : Nat) : (binOp .neq 31 (.slice a n c) (.slice none 0 0)).run Tryz.prog w = .ok (.bool (!a.isNone)) w := run_neq_slice_nil_any w _ _ a n c 0 0 Tryz.underlying31

/-- What knotOf and knotFrom answer: nothing, or a schedule and a cycle, in two blocks. -/
def KnotSays (lo : Nat) (q : Option (List Int × List Int)) (w : World) (e : Ending) (w' : World) : Prop :=
 Below w.heap.size w w' ∧ match q with
 | none => e = .returned (.tuple #[.slice none 0 0, .slice none 0 0])
 | some (sch, c) => c ≠ [] ∧ ∃ sa scap ca ccap, e = .returned (.tuple #[.slice sa sch.length scap, .slice (some ca) c.length ccap]) ∧ w'.ownsRow lo 3 1 (.slice sa sch.length scap) sch.length (intCells sch) ∧ w'.ownsRow lo 3 1 (.slice (some ca) c.length ccap) c.length (intCells c) ∧ ∀ g, (Value.slice sa sch.length scap).ownBlock = some g → (Value.slice (some ca) c.length ccap).ownBlock ≠ some g

theorem KnotSays.mono {lo lo' : Nat} {q : Option (List Int × List Int)} {w w1 : World} {e : Ending} {w' : World} (h : KnotSays lo q w1 e w') (hl : lo' ≤ lo) (hb : Below w.heap.size w w1) : KnotSays lo' q w e w' := by
 refine ⟨hb.trans (h.1.mono hb.size), ?_⟩
 have h2 := h.2
 match q, h2 with
 | none, h2 => exact h2
 | some (sch, c), ⟨h3, sa, scap, ca, ccap, h4, h5, h6, h7⟩ => exact ⟨h3, sa, scap, ca, ccap, h4, ((ownsRow_in h5).mono hl (Nat.le_refl _)).1, ((ownsRow_in h6).mono hl (Nat.le_refl _)).1, h7⟩

theorem knotOf_any (p : List (List Pl.POp)) (a : Option Addr) (cap lo hi : Nat) (ms : List Int) (sa : Option Addr) (scap sl : Nat) (S : St) (es : List Ev) (w : World) (hp : ProgOk w lo hi a cap p) (hm : w.ownsRow sl 3 1 (.slice sa ms.length scap) ms.length (intCells ms)) (hsl : sl ≤ w.heap.size) (hlen : ms.length ≤ 4000) (hf : follow p (beginTo p 4) [] 0 ms = some (S, es)) :
  Calls Tryz.prog 99 #[.agg #[.slice a p.length cap], .slice sa ms.length scap] w fun e w' => KnotSays sl (knotOf p ms) w e w' := by
 have hqn := eq_nil
 have HOK : Hid _ := hp
 have HM : Hid (w.ownsRow sl 3 1 (.slice sa ms.length scap) ms.length (intCells ms)) := hm
 have HF : Hid _ := hf
 have HKN : Hid (knotOf p ms = if cycleOf es = [] then none else some (ms, cycleOf es)) := by show _ = _; unfold knotOf; rw [hf]
 clear hp hm hf
 go_enter Tryz.func99, Tryz.ntmps99
 go_wp2_with fail
 have HB0 : Hid (Below w.heap.size w (w.alloc (.cells #[.slice a p.length cap] 71))) := (Below.refl _ _).alloc (Nat.le_refl _) _
 generalize w.alloc (.cells #[.slice a p.length cap] 71) = W at *
 have HO0 : Hid (W.ownsRow sl 3 1 (.slice sa ms.length scap) ms.length (intCells ms)) := ((ownsRow_in HM.out).below HB0.out).1
 refine (follow_any p a cap lo hi ms sa scap _ (HOK.out.below HB0.out HOK.out.size) (ints_of_owns HO0.out) (by unfold maxLen; omega)).mono ?_
 rintro e w1 hfs
 unfold FollowSays at hfs
 rw [HF.out] at hfs
 obtain ⟨hb1, ea, ecap, rfl, ho1⟩ := hfs
 have HXT : Hid ((w1.alloc (.cells z24 108)).there w1.heap.size 0 (stL S).toArray.size) := new_there w1
 have HXB : Hid (Below w1.heap.size w1 ((w1.alloc (.cells z24 108)).setCells w1.heap.size 0 (stL S).toArray.toList)) := new_below w1 _
 have HO1 : Hid (w1.ownsRow W.heap.size 59 6 (.slice ea es.length ecap) es.length (evCells es)) := ho1
 clear ho1
 go_upto_region 2 with (first | (refine wpList_store_mid rfl 108 _ _ rfl w1.heap.size 0 (stL S).toArray rfl rfl (by exact HXT.out) Tryz.size108 (all_oneCell_toArray (stL_one _)) ?_; generalize ((w1.alloc (.cells z24 108)).setCells w1.heap.size 0 (stL S).toArray.toList) = X at *))
 have HBX : Hid (Below w.heap.size w X) := (HB0.out.trans (hb1.mono HB0.out.size)).trans (HXB.out.mono (Nat.le_trans HB0.out.size hb1.size))
 have HOX : Hid (X.ownsRow W.heap.size 59 6 (.slice ea es.length ecap) es.length (evCells es)) := ((ownsRow_in HO1.out).below HXB.out).1
 have HEL : Hid (es.length ≤ 4000) := follow_short HOK.out HF.out
 clear HO1 hb1 HXT
 go_wp2_with fail
 refine (cycle_any es ea ecap W.heap.size _ HOX.out HEL.out).mono ?_
 rintro e w3 ⟨hb3, v, rfl, ca, ccap, rfl, ho3, hn3⟩
 have HB3 : Hid (Below w.heap.size w w3) := HBX.out.trans (hb3.mono HBX.out.size)
 have HOM : Hid (w3.ownsRow sl 3 1 (.slice sa ms.length scap) ms.length (intCells ms)) := ((ownsRow_in HM.out).below HB3.out).1
 have HO3 : Hid (w3.ownsRow X.heap.size 3 1 (.slice ca (cycleOf es).length ccap) (cycleOf es).length (intCells (cycleOf es))) := ho3
 by_cases hc : cycleOf es = []
 ·obtain ⟨rfl, rfl⟩ := hn3 hc
  rw [if_pos hc] at HKN
  rw [hc]
  clear ho3 hn3 hc
  simp only [List.length_nil]
  go_wp2
  go_ret2
  rw [HKN.out]
  exact ⟨HB3.out, rfl⟩
 ·rw [if_neg hc] at HKN
  have HCN : Hid _ := hc
  have hpos : 0 < (cycleOf es).length := List.length_pos_iff.2 hc
  obtain ⟨cb, rfl, hc0, hc1, -, -, -, -⟩ := owns_cells ho3 hpos
  have HCL : Hid (X.heap.size ≤ cb) := hc0
  clear ho3 hn3 hc hc0 hc1
  go_wp2
  go_ret2
  rw [HKN.out]
  refine ⟨HB3.out, HCN.out, sa, scap, ⟨cb, 0, none⟩, ccap, rfl, HOM.out, ((ownsRow_in HO3.out).mono (Nat.le_trans hsl HBX.out.size) (Nat.le_refl _)).1, fun g hg e => ?_⟩
  have h1 := (HM.out.lt g hg).2
  have h2 := (HO3.out.lt g e).1
  have h3 := HBX.out.size
  omega

attribute [local go_sem ↓] Go.wp_at_zero Go.wp_at_succ exec_load_state
attribute [local go_sem] ptrB isPtr0 aggL

/-- What knotFrom and gather rest on: the program's box, the state's box. -/
structure KfAt (w wr : World) (S : St) (v : Value) : Prop where
 pr : wr.cell? ⟨w.heap.size, 0, none⟩ = some v
 st : ∀ j, wr.cell? ⟨w.heap.size + 1, j, none⟩ = (stL S)[j]?
 bl : Below w.heap.size w wr
 size : w.heap.size + 2 ≤ wr.heap.size

theorem KfAt.below {w wr wr' : World} {S : St} {v : Value} (h : KfAt w wr S v) (hb : Below wr.heap.size wr wr') : KfAt w wr' S v := by
 have hz := h.size
 exact ⟨(hb.cell (p := ⟨w.heap.size, 0, none⟩) (show w.heap.size < wr.heap.size by omega)).trans h.pr, fun j => (hb.cell (p := ⟨w.heap.size + 1, j, none⟩) (show w.heap.size + 1 < wr.heap.size by omega)).trans (h.st j), h.bl.trans (hb.mono h.bl.size), Nat.le_trans h.size hb.size⟩

theorem kf_new (w : World) (S : St) (v : Value) : KfAt w ((w.alloc (.cells #[v] 71)).alloc (.cells (stL S).toArray 108)) S v := by
 refine ⟨?_, fun j => ?_, two_new w _ _, by simp⟩
 ·rw [World.cell?_alloc_past _ _ _ (by simp)]; simp
 ·have := box_cell (w.alloc (.cells #[v] 71)) S j
  rw [World.size_alloc] at this
  exact this

theorem KnotSays.form {lo : Nat} {q : Option (List Int × List Int)} {w : World} {e : Ending} {w' : World} (h : KnotSays lo q w e w') : ∃ v1 v2, e = .returned (.tuple #[v1, v2]) := by
 have h2 := h.2
 match q, h2 with
 | none, h2 => exact ⟨_, _, h2⟩
 | some (sch, c), ⟨h3, sa, scap, ca, ccap, h4, _⟩ => exact ⟨_, _, h4⟩

def knotNext (p : List (List Pl.POp)) (k : Nat) (S : St) (ms : List Int) (n : Int) : Option (List Int × List Int) := match step S p n with
 | none => none
 | some (S', _) => knotGo p k S' (ms ++ [n])

theorem knotGo_next {p : List (List Pl.POp)} {k : Nat} {S : St} {ms : List Int} (h : readyTo S p 4 ≠ []) : knotGo p (k + 1) S ms = (readyTo S p 4).findSome? (knotNext p k S ms) := by
 rw [knotGo, if_neg h]; rfl

theorem knotFrom_any (p : List (List Pl.POp)) (a : Option Addr) (cap lo hi : Nat) : ∀ (k : Nat) (S : St) (ms : List Int) (es : List Ev) (sa : Option Addr) (scap sl : Nat) (w : World), ProgOk w lo hi a cap p → StOk S p → remS p S < k → w.ownsRow sl 3 1 (.slice sa ms.length scap) ms.length (intCells ms) → sl ≤ w.heap.size → follow p (beginTo p 4) [] 0 ms = some (S, es) →
  Calls Tryz.prog 90 #[.agg #[.slice a p.length cap], .agg (stL S).toArray, .slice sa ms.length scap] w fun e w' => KnotSays sl (knotGo p k S ms) w e w' := by
 intro k
 induction k with
 | zero => intro S ms es sa scap sl w _ _ h; omega
 | succ k ih =>
  intro S ms es sa scap sl w hp hS hk hm hsl hf
  have hqn := ne_nil
  have HOK : Hid _ := hp
  have HS : Hid _ := hS
  have HK : Hid _ := hk
  have HM : Hid (w.ownsRow sl 3 1 (.slice sa ms.length scap) ms.length (intCells ms)) := hm
  have HF : Hid _ := hf
  have HIH : Hid _ := ih
  have hlen : ms.length ≤ 4000 := by have h1 := follow_short hp hf; have h2 := (follow_len hf).2.1; omega
  clear hp hS hk hm hf ih
  go_enter Tryz.func90, Tryz.ntmps90
  go_upto_region 1 with fail
  have HW : Hid (KfAt w ((w.alloc (.cells #[.slice a p.length cap] 71)).alloc (.cells (stL S).toArray 108)) S (.slice a p.length cap)) := kf_new w S _
  generalize ((w.alloc (.cells #[.slice a p.length cap] 71)).alloc (.cells (stL S).toArray 108)) = W at *
  have pr := HW.out.pr
  have hr := range_of_all HW.out.st
  go_wp2_with (first | refine wpList_load_mid rfl 108 _ rfl (w.heap.size + 1) 0 rfl (stL S) _ hr Tryz.underlying108 rfl Tryz.size108 ?_)
  refine (ready_any S p a cap lo hi _ (HOK.out.below HW.out.bl HOK.out.size)).mono ?_
  rintro e w1 ⟨⟨ra, rcap, rfl, ho1⟩, hb1⟩
  have HW1 : Hid (KfAt w w1 S (.slice a p.length cap)) := HW.out.below hb1
  have HR1 : Hid (w1.ownsRow W.heap.size 3 1 (.slice ra (readyTo S p 4).length rcap) (readyTo S p 4).length (intCells (readyTo S p 4))) := ho1
  have HZ1 : Hid (W.heap.size ≤ w1.heap.size) := hb1.size
  clear pr hr ho1 hb1
  by_cases hrd : readyTo S p 4 = []
  ·have HKG : Hid (knotGo p (k + 1) S ms = knotOf p ms) := by show _ = _; rw [knotGo, if_pos hrd]
   rw [hrd]
   clear hrd HR1
   simp only [List.length_nil]
   have pr := HW1.out.pr
   go_wp2_with fail
   refine (knotOf_any p a cap lo hi ms sa scap sl S es _ (HOK.out.below HW1.out.bl HOK.out.size) ((ownsRow_in HM.out).below HW1.out.bl).1 (Nat.le_trans hsl HW1.out.bl.size) hlen HF.out).mono ?_
   rintro e w3 hks
   have HKS : Hid (KnotSays sl (knotOf p ms) w e w3) := hks.mono (Nat.le_refl _) HW1.out.bl
   obtain ⟨v1, v2, rfl⟩ := hks.form
   clear hks pr
   go_wp2
   go_ret2
   rw [HKG.out]
   exact HKS.out
  ·have HKG : Hid _ := knotGo_next (k := k) (ms := ms) hrd
   have hrl : 0 < (readyTo S p 4).length := List.length_pos_iff.2 hrd
   have hrl4 := readyTo_length S p 4
   have hrl' : (((readyTo S p 4).length : Int) == 0) = false := by rw [beq_eq_false_iff_ne]; omega
   obtain ⟨rb, rfl, -, hrb, -, -, hrc, -⟩ := owns_cells HR1.out hrl
   have HRC : Hid (∀ j m, (readyTo S p 4)[j]? = some m → w1.cell? ⟨rb, j, none⟩ = some (.int .i64 m)) := fun j m hm => hrc j _ (by simp [intCells, hm])
   have HRM : Hid (∀ m ∈ readyTo S p 4, ∃ S' e, step S p m = some (S', e)) := fun m hm => by
    have := (step_iff S p m).trans ((mem_ready4 S p m).1 hm)
    obtain ⟨x, hx⟩ := Option.isSome_iff_exists.1 this
    exact ⟨x.1, x.2, hx⟩
   clear hrc hrd HR1
   generalize readyTo S p 4 = L at *
   go_wp2_with fail
   go_loopw [30] (fun v30 wr => ∃ i : Nat, i ≤ L.length ∧ v30 = .int .i64 (i : Int) ∧ Hid (Below w1.heap.size w1 wr ∧ knotGo p (k + 1) S ms = (L.drop i).findSome? (knotNext p k S ms))) (fun v30 _ => L.length - (intOf v30).toNat)
   case atStart => exact ⟨0, Nat.zero_le _, rfl, (show Hid _ from ⟨Below.refl _ _, HKG.out⟩)⟩
   case round =>
    obtain ⟨i, hil, rfl, H1⟩ := hrel
    by_cases hlt : i < L.length
    ·have hlt' : (i : Int) < (L.length : Int) := by omega
     have c0 : wr.cell? ⟨rb, i, none⟩ = some (.int .i64 L[i]) := (H1.out.1.cell (p := ⟨rb, i, none⟩) hrb).trans (HRC.out i _ (List.getElem?_eq_getElem hlt))
     obtain ⟨S', ev, hst⟩ := HRM.out L[i] (List.getElem_mem hlt)
     have HD : Hid (knotGo p (k + 1) S ms = match knotGo p k S' (ms ++ [L[i]]) with | some x => some x | none => (L.drop (i + 1)).findSome? (knotNext p k S ms)) := by
      show _ = _
      have hnx : knotNext p k S ms L[i] = knotGo p k S' (ms ++ [L[i]]) := by unfold knotNext; rw [hst]
      rw [H1.out.2, List.drop_eq_getElem_cons hlt, List.findSome?_cons, hnx]
      cases knotGo p k S' (ms ++ [L[i]]) <;> rfl
     have HST : Hid _ := hst
     have HWR : Hid (KfAt w wr S (.slice a p.length cap)) := HW1.out.below H1.out.1
     have HB1 : Hid (Below w1.heap.size w1 wr) := H1.out.1
     clear hst H1
     generalize L[i] = m at *
     have pr := HWR.out.pr
     have hr := range_of_all HWR.out.st
     go_wp2_with (first | refine wpList_load_mid rfl 108 _ rfl (w.heap.size + 1) 0 rfl (stL S) _ hr Tryz.underlying108 rfl Tryz.size108 ?_)
     refine (step_any S p a cap lo hi m _ (HOK.out.below HWR.out.bl HOK.out.size) HS.out).mono ?_
     rintro e w2 ⟨rfl, hb2⟩
     obtain ⟨t, kk, n, vv, bk, gr⟩ := ev
     rw [HST.out]
     rw [show stepV (some (S', (⟨t, kk, n, vv, bk, gr⟩ : Ev))) = .tuple #[.agg (stL S').toArray, .agg #[.int .i64 t, .int .u8 (kk : Int), .int .u8 (n : Int), .int .i16 vv, .int .i64 bk, .int .i64 gr], .bool true] from rfl]
     have HB2 : Hid (Below wr.heap.size wr w2) := hb2
     clear pr hr c0 hb2
     have HTH : Hid (World.there ((w2.alloc (.cells z24 108)).alloc (.cells #[.int .i64 0, .int .u8 0, .int .u8 0, .int .i16 0, .int .i64 0, .int .i64 0] 59)) w2.heap.size 0 (stL S').toArray.size) := outW_there w2 S'
     have HTE : Hid (World.there (((w2.alloc (.cells z24 108)).alloc (.cells #[.int .i64 0, .int .u8 0, .int .u8 0, .int .i16 0, .int .i64 0, .int .i64 0] 59)).setCells w2.heap.size 0 (stL S').toArray.toList) (w2.heap.size + 1) 0 #[Value.int .i64 t, .int .u8 (kk : Int), .int .u8 (n : Int), .int .i16 vv, .int .i64 bk, .int .i64 gr].size) := outW_there2 w2 S'
     have HY : Hid (_ ∧ _) := outE_facts w2 S' #[Value.int .i64 t, .int .u8 (kk : Int), .int .u8 (n : Int), .int .i16 vv, .int .i64 bk, .int .i64 gr].toList rfl
     unfold outW at HY
     go_upto_region 8 with (first | (refine wpList_store_mid rfl 108 _ _ rfl w2.heap.size 0 (stL S').toArray rfl rfl (by exact HTH.out) Tryz.size108 (all_oneCell_toArray (stL_one _)) ?_; refine wpList_store_mid rfl 59 _ _ rfl (w2.heap.size + 1) 0 #[Value.int .i64 t, .int .u8 (kk : Int), .int .u8 (n : Int), .int .i16 vv, .int .i64 bk, .int .i64 gr] rfl rfl (by exact HTE.out) Tryz.size59 (by simp [Value.oneCell']) ?_; generalize (((w2.alloc (.cells z24 108)).alloc (.cells #[.int .i64 0, .int .u8 0, .int .u8 0, .int .i16 0, .int .i64 0, .int .i64 0] 59)).setCells w2.heap.size 0 (stL S').toArray.toList).setCells (w2.heap.size + 1) 0 #[Value.int .i64 t, .int .u8 (kk : Int), .int .u8 (n : Int), .int .i16 vv, .int .i64 bk, .int .i64 gr].toList = Y at *))
     obtain ⟨ys, ye, yf, yb, yz⟩ := HY.out
     have HYS : Hid _ := ys
     have HRY : Hid (Below wr.heap.size wr Y) := HB2.out.trans (yb.mono HB2.out.size)
     have HYZ : Hid _ := yz
     clear ys ye yf yb yz HY HTH HTE HB2
     have HWY : Hid (KfAt w Y S (.slice a p.length cap)) := HWR.out.below HRY.out
     have HMY : Hid (Y.ownsRow sl 3 1 (.slice sa ms.length scap) ms.length (intCells ms)) := ((ownsRow_in HM.out).below HWY.out.bl).1
     go_wp2_with fail
     refine (behind_any ms m sa scap sl _ HMY.out hlen).mono ?_
     rintro e w3 ⟨hb3, ba, bcap, rfl, ho3⟩
     have HO3 : Hid (w3.ownsRow Y.heap.size 3 1 (.slice ba (ms ++ [m]).length bcap) (ms ++ [m]).length (intCells (ms ++ [m]))) := ho3
     have HW3 : Hid (KfAt w w3 S (.slice a p.length cap)) := HWY.out.below hb3
     have HR3 : Hid (Below wr.heap.size wr w3) := HRY.out.trans (hb3.mono HRY.out.size)
     have HS3 : Hid (∀ j, w3.cell? ⟨w2.heap.size, j, none⟩ = (stL S')[j]?) := all_below HYS.out hb3 (by have := HYZ.out; omega)
     have pr := HW3.out.pr
     have hr := range_of_all HS3.out
     obtain ⟨gr2, hf2⟩ := (follow_snoc HF.out m).2 S' _ HST.out
     have hcall := HIH.out S' (ms ++ [m]) _ ba bcap Y.heap.size w3 (HOK.out.below HW3.out.bl HOK.out.size) (step_ok HS.out HST.out) (by have h1 := step_rem HS.out HST.out; have h2 := HK.out; omega) HO3.out hb3.size hf2
     rw [show (ms ++ [m]).length = ms.length + 1 by simp] at hcall
     have HCALL : Hid _ := hcall
     have HBW3 : Hid (Below w.heap.size w w3) := HW3.out.bl
     have HB3 : Hid (Below w1.heap.size w1 w3) := HB1.out.trans (HR3.out.mono HB1.out.size)
     have HSLY : Hid (sl ≤ Y.heap.size) := Nat.le_trans hsl HWY.out.bl.size
     clear ho3 hb3 hf2 hcall HWY HMY HRY HYS HYZ HO3 HWR HW3 HR3 HS3
     go_wp2_with (first | refine wpList_load_mid rfl 108 _ rfl w2.heap.size 0 rfl (stL S') _ hr Tryz.underlying108 rfl Tryz.size108 ?_)
     refine Calls.mono HCALL.out ?_
     clear HCALL pr hr
     rintro e w4 hks
     cases hq : knotGo p k S' (ms ++ [m]) with
     | none =>
      rw [hq] at hks HD
      obtain ⟨hb4, rfl⟩ := hks
      have HD2 : Hid (knotGo p (k + 1) S ms = (L.drop (i + 1)).findSome? (knotNext p k S ms)) := HD.out
      clear hq HD
      go_wp2
      go_roundw
      case rel => exact ⟨i + 1, by omega, by go_num, (show Hid _ from ⟨HB3.out.trans (hb4.mono HB3.out.size), HD2.out⟩)⟩
      case measure => simp [intOf]; omega
     | some x =>
      obtain ⟨sch, c⟩ := x
      rw [hq] at hks HD
      have HKS : Hid (KnotSays sl (some (sch, c)) w e w4) := hks.mono HSLY.out HBW3.out
      have HD2 : Hid (knotGo p (k + 1) S ms = some (sch, c)) := HD.out
      obtain ⟨hb4, hcn, sa4, scap4, ca4, ccap4, rfl, -, -, -⟩ := hks
      clear hq HD hcn
      go_wp2
      go_ret2
      rw [HD2.out]
      exact HKS.out
    ·have hlt' : ¬ (i : Int) < (L.length : Int) := by omega
     have HD : Hid (knotGo p (k + 1) S ms = none) := by
      show _ = _
      rw [H1.out.2, List.drop_eq_nil_of_le (by omega)]
      rfl
     go_wp2
     go_ret2
     rw [HD.out]
     exact ⟨HW1.out.bl.trans (H1.out.1.mono HW1.out.bl.size), rfl⟩

theorem knot_any (p : List (List Pl.POp)) (a : Option Addr) (cap lo hi : Nat) (w : World) (hp : ProgOk w lo hi a cap p) :
  Calls Tryz.prog 67 #[.agg #[.slice a p.length cap]] w fun e w' => KnotSays w.heap.size (checkOf p) w e w' := by
 have HOK : Hid _ := hp
 clear hp
 go_enter Tryz.func67, Tryz.ntmps67
 go_wp2_with fail
 have HB0 : Hid (Below w.heap.size w (w.alloc (.cells #[.slice a p.length cap] 71))) := (Below.refl _ _).alloc (Nat.le_refl _) _
 have HC0 : Hid ((w.alloc (.cells #[.slice a p.length cap] 71)).cell? ⟨w.heap.size, 0, none⟩ = some (.slice a p.length cap)) := by show _ = _; simp
 have HZ0 : Hid ((w.alloc (.cells #[.slice a p.length cap] 71)).heap.size = w.heap.size + 1) := by show _ = _; simp
 generalize w.alloc (.cells #[.slice a p.length cap] 71) = W at *
 refine (begin_any p a cap lo hi _ (HOK.out.below HB0.out HOK.out.size)).mono ?_
 rintro e w1 ⟨rfl, hb1⟩
 have HXT : Hid ((w1.alloc (.cells z24 108)).there w1.heap.size 0 (stL (beginTo p 4)).toArray.size) := new_there w1
 have HX : Hid (∀ j, ((w1.alloc (.cells z24 108)).setCells w1.heap.size 0 (stL (beginTo p 4)).toArray.toList).cell? ⟨w1.heap.size, j, none⟩ = (stL (beginTo p 4))[j]?) := new_all w1 _
 have HXB : Hid (Below w1.heap.size w1 ((w1.alloc (.cells z24 108)).setCells w1.heap.size 0 (stL (beginTo p 4)).toArray.toList)) := new_below w1 _
 go_upto_region 2 with (first | (refine wpList_store_mid rfl 108 _ _ rfl w1.heap.size 0 (stL (beginTo p 4)).toArray rfl rfl (by exact HXT.out) Tryz.size108 (all_oneCell_toArray (stL_one _)) ?_; generalize ((w1.alloc (.cells z24 108)).setCells w1.heap.size 0 (stL (beginTo p 4)).toArray.toList) = X at *))
 have HWX : Hid (Below W.heap.size W X) := hb1.trans (HXB.out.mono hb1.size)
 have HBX : Hid (Below w.heap.size w X) := HB0.out.trans (HWX.out.mono HB0.out.size)
 have pr : X.cell? ⟨w.heap.size, 0, none⟩ = some (.slice a p.length cap) := (HWX.out.cell (p := ⟨w.heap.size, 0, none⟩) (by have := HZ0.out; show w.heap.size < _; omega)).trans HC0.out
 have hr := range_of_all HX.out
 have hcall := knotFrom_any p a cap lo hi (remS p (beginTo p 4) + 1) (beginTo p 4) [] [] none 0 w.heap.size X (HOK.out.below HBX.out HOK.out.size) (begin_ok p) (by omega) (World.ownsRow_nil _ _ _ _) HBX.out.size rfl
 have HCALL : Hid _ := hcall
 clear hcall HXT HX HXB hb1
 go_wp2_with (first | refine wpList_load_mid rfl 108 _ rfl w1.heap.size 0 rfl (stL (beginTo p 4)) _ hr Tryz.underlying108 rfl Tryz.size108 ?_)
 refine Calls.mono HCALL.out ?_
 clear HCALL pr hr
 rintro e w3 hks
 have HKS : Hid (KnotSays w.heap.size (checkOf p) w e w3) := hks.mono (Nat.le_refl _) HBX.out
 obtain ⟨v1, v2, rfl⟩ := hks.form
 clear hks
 go_wp2
 go_ret2
 exact HKS.out

def resL (x : Res) : List Value := [.int .u8 (x.1 : Int), .int .i16 x.2.1, .int .i16 x.2.2.1, .int .i16 x.2.2.2.1, .int .i16 x.2.2.2.2]
def resA (x : Res) : Value := .agg (resL x).toArray

def resCells : List Res → List Value
 | [] => []
 | x :: r => resL x ++ resCells r

theorem resCells_append (a b : List Res) : resCells (a ++ b) = resCells a ++ resCells b := by
 induction a with
 | nil => rfl
 | cons x xs ih => simp [resCells, ih]
theorem resCells_length (a : List Res) : (resCells a).length = a.length * 5 := by
 induction a with
 | nil => rfl
 | cons x xs ih => simp [resCells, ih, resL]; omega
theorem resCells_at : ∀ (a : List Res) (i : Nat) (x : Res), a[i]? = some x → ∀ j v, (resL x)[j]? = some v → (resCells a)[i * 5 + j]? = some v
 | [], i, x, h => by simp at h
 | y :: ys, 0, x, h => by
  intro j v hv
  simp at h; subst h
  have hj : j < 5 := by simpa [resL] using (List.getElem?_eq_some_iff.1 hv).1
  rw [resCells, Nat.zero_mul, Nat.zero_add, List.getElem?_append_left (by simp [resL]; omega)]
  exact hv
 | y :: ys, i + 1, x, h => by
  intro j v hv
  have := resCells_at ys i x (by simpa using h) j v hv
  rw [resCells, show (i + 1) * 5 + j = i * 5 + j + 5 by omega, List.getElem?_append_right (by simp [resL])]
  simpa [resL] using this
theorem resCells_take (a : List Res) (i : Nat) (h : i ≤ a.length) : resCells (a.take i) = (resCells a).take (i * 5) := by
 have e : resCells a = resCells (a.take i) ++ resCells (a.drop i) := by rw [← resCells_append, List.take_append_drop]
 rw [e, List.take_left' (by rw [resCells_length]; simp; omega)]
theorem resCells_drop (a : List Res) (i : Nat) (h : i ≤ a.length) : resCells (a.drop i) = (resCells a).drop (i * 5) := by
 have e : resCells a = resCells (a.take i) ++ resCells (a.drop i) := by rw [← resCells_append, List.take_append_drop]
 rw [e, List.drop_left' (by rw [resCells_length]; simp; omega)]
theorem resCells_one : ∀ (a : List Res), ∀ v ∈ resCells a, v.oneCell' = true
 | [], v, h => by simp [resCells] at h
 | x :: r, v, h => by
  rcases List.mem_append.1 h with h | h
  ·simp only [resL, List.mem_cons, List.not_mem_nil, or_false] at h
   rcases h with rfl | rfl | rfl | rfl | rfl <;> rfl
  ·exact resCells_one r v h

theorem eq_store_any (a b c d a' b' c' d' : Int) (w : World) : (Op.equalIn 9999 64 (.agg #[.int .i16 a, .int .i16 b, .int .i16 c, .int .i16 d]) (.agg #[.int .i16 a', .int .i16 b', .int .i16 c', .int .i16 d'])).run Tryz.prog w = .ok (decide (a = a' ∧ b = b' ∧ c = c' ∧ d = d')) w := by
 have u3 := Tryz.underlying57
 have a3 := Tryz.isAgg57
 have z3 := Tryz.sizeOf57
 rw [show (9999 : Nat) = 9998 + 1 from rfl, Op.equalIn]
 simp only [Sem.run_bind, run_underlying Tryz.underlying64, Result.andThen_ok]
 simp only [Std.Legacy.Range.forIn_eq_forIn_range', Std.Legacy.Range.size, Nat.sub_zero, Nat.add_sub_cancel, Nat.div_one, List.range'_succ, List.range'_zero, List.forIn_cons, List.forIn_nil]
 by_cases h1 : a = a'
 ·by_cases h2 : b = b'
  ·by_cases h3 : c = c'
   ·by_cases h4 : d = d'
    ·subst h1 h2 h3 h4
     rw [decide_eq_true ⟨rfl, rfl, rfl, rfl⟩]
     go_simp
    ·subst h1 h2 h3
     rw [decide_eq_false (by simp [h4])]
     go_simp
   ·subst h1 h2
    rw [decide_eq_false (by simp [h3])]
    go_simp
  ·subst h1
   rw [decide_eq_false (by simp [h2])]
   go_simp
 ·rw [decide_eq_false (by simp [h1])]
  go_simp

theorem store_0 (a b c d : Value) (w : World) : (Instr.index 64 (.agg #[a, b, c, d]) (.int .i64 0)).run Tryz.prog w = .ok a w := by kernel_rfl
theorem store_1 (a b c d : Value) (w : World) : (Instr.index 64 (.agg #[a, b, c, d]) (.int .i64 1)).run Tryz.prog w = .ok b w := by kernel_rfl
theorem store_2 (a b c d : Value) (w : World) : (Instr.index 64 (.agg #[a, b, c, d]) (.int .i64 2)).run Tryz.prog w = .ok c w := by kernel_rfl
theorem store_3 (a b c d : Value) (w : World) : (Instr.index 64 (.agg #[a, b, c, d]) (.int .i64 3)).run Tryz.prog w = .ok d w := by kernel_rfl

theorem comesBefore_any (x y : Res) (w : World) : Calls Tryz.prog 106 #[resA x, resA y] w fun e w' => e = .returned (.bool (before x y)) ∧ Below w.heap.size w w' := by
 obtain ⟨x0, x1, x2, x3, x4⟩ := x
 obtain ⟨y0, y1, y2, y3, y4⟩ := y
 have HV0 : Hid (x0 ≠ y0 → before (x0, x1, x2, x3, x4) (y0, y1, y2, y3, y4) = decide ((x0 : Int) < (y0 : Int))) := fun h => by simp [before, h]
 have HV1 : Hid (x0 = y0 → x1 ≠ y1 → before (x0, x1, x2, x3, x4) (y0, y1, y2, y3, y4) = decide (x1 < y1)) := fun h h1 => by simp [before, h, h1]
 have HV2 : Hid (x0 = y0 → x1 = y1 → x2 ≠ y2 → before (x0, x1, x2, x3, x4) (y0, y1, y2, y3, y4) = decide (x2 < y2)) := fun h h1 h2 => by simp [before, h, h1, h2]
 have HV3 : Hid (x0 = y0 → x1 = y1 → x2 = y2 → x3 ≠ y3 → before (x0, x1, x2, x3, x4) (y0, y1, y2, y3, y4) = decide (x3 < y3)) := fun h h1 h2 h3 => by simp [before, h, h1, h2, h3]
 have HV4 : Hid (x0 = y0 → x1 = y1 → x2 = y2 → x3 = y3 → x4 ≠ y4 → before (x0, x1, x2, x3, x4) (y0, y1, y2, y3, y4) = decide (x4 < y4)) := fun h h1 h2 h3 h4 => by simp [before, h, h1, h2, h3, h4]
 have HV5 : Hid (x0 = y0 → x1 = y1 → x2 = y2 → x3 = y3 → x4 = y4 → before (x0, x1, x2, x3, x4) (y0, y1, y2, y3, y4) = false) := fun h h1 h2 h3 h4 => by simp [before, h, h1, h2, h3, h4]
 generalize before (x0, x1, x2, x3, x4) (y0, y1, y2, y3, y4) = bb at *
 unfold resA resL
 simp only
 go_enter Tryz.func106, Tryz.ntmps106
 go_upto_region 1 with fail
 have a0 : ((w.alloc (.cells #[.int .u8 (x0 : Int), .int .i16 x1, .int .i16 x2, .int .i16 x3, .int .i16 x4] 66)).alloc (.cells #[.int .u8 (y0 : Int), .int .i16 y1, .int .i16 y2, .int .i16 y3, .int .i16 y4] 66)).cell? ⟨w.heap.size, 0, none⟩ = some (.int .u8 (x0 : Int)) := by rw [World.cell?_alloc_past _ _ _ (by simp)]; simp
 have a1 : ((w.alloc (.cells #[.int .u8 (x0 : Int), .int .i16 x1, .int .i16 x2, .int .i16 x3, .int .i16 x4] 66)).alloc (.cells #[.int .u8 (y0 : Int), .int .i16 y1, .int .i16 y2, .int .i16 y3, .int .i16 y4] 66)).cell? ⟨w.heap.size, 1, none⟩ = some (.int .i16 x1) := by rw [World.cell?_alloc_past _ _ _ (by simp)]; simp
 have a2 : ((w.alloc (.cells #[.int .u8 (x0 : Int), .int .i16 x1, .int .i16 x2, .int .i16 x3, .int .i16 x4] 66)).alloc (.cells #[.int .u8 (y0 : Int), .int .i16 y1, .int .i16 y2, .int .i16 y3, .int .i16 y4] 66)).cell? ⟨w.heap.size, 2, none⟩ = some (.int .i16 x2) := by rw [World.cell?_alloc_past _ _ _ (by simp)]; simp
 have a3 : ((w.alloc (.cells #[.int .u8 (x0 : Int), .int .i16 x1, .int .i16 x2, .int .i16 x3, .int .i16 x4] 66)).alloc (.cells #[.int .u8 (y0 : Int), .int .i16 y1, .int .i16 y2, .int .i16 y3, .int .i16 y4] 66)).cell? ⟨w.heap.size, 3, none⟩ = some (.int .i16 x3) := by rw [World.cell?_alloc_past _ _ _ (by simp)]; simp
 have a4 : ((w.alloc (.cells #[.int .u8 (x0 : Int), .int .i16 x1, .int .i16 x2, .int .i16 x3, .int .i16 x4] 66)).alloc (.cells #[.int .u8 (y0 : Int), .int .i16 y1, .int .i16 y2, .int .i16 y3, .int .i16 y4] 66)).cell? ⟨w.heap.size, 4, none⟩ = some (.int .i16 x4) := by rw [World.cell?_alloc_past _ _ _ (by simp)]; simp
 have b0 : ((w.alloc (.cells #[.int .u8 (x0 : Int), .int .i16 x1, .int .i16 x2, .int .i16 x3, .int .i16 x4] 66)).alloc (.cells #[.int .u8 (y0 : Int), .int .i16 y1, .int .i16 y2, .int .i16 y3, .int .i16 y4] 66)).cell? ⟨w.heap.size + 1, 0, none⟩ = some (.int .u8 (y0 : Int)) := by simp
 have b1 : ((w.alloc (.cells #[.int .u8 (x0 : Int), .int .i16 x1, .int .i16 x2, .int .i16 x3, .int .i16 x4] 66)).alloc (.cells #[.int .u8 (y0 : Int), .int .i16 y1, .int .i16 y2, .int .i16 y3, .int .i16 y4] 66)).cell? ⟨w.heap.size + 1, 1, none⟩ = some (.int .i16 y1) := by simp
 have b2 : ((w.alloc (.cells #[.int .u8 (x0 : Int), .int .i16 x1, .int .i16 x2, .int .i16 x3, .int .i16 x4] 66)).alloc (.cells #[.int .u8 (y0 : Int), .int .i16 y1, .int .i16 y2, .int .i16 y3, .int .i16 y4] 66)).cell? ⟨w.heap.size + 1, 2, none⟩ = some (.int .i16 y2) := by simp
 have b3 : ((w.alloc (.cells #[.int .u8 (x0 : Int), .int .i16 x1, .int .i16 x2, .int .i16 x3, .int .i16 x4] 66)).alloc (.cells #[.int .u8 (y0 : Int), .int .i16 y1, .int .i16 y2, .int .i16 y3, .int .i16 y4] 66)).cell? ⟨w.heap.size + 1, 3, none⟩ = some (.int .i16 y3) := by simp
 have b4 : ((w.alloc (.cells #[.int .u8 (x0 : Int), .int .i16 x1, .int .i16 x2, .int .i16 x3, .int .i16 x4] 66)).alloc (.cells #[.int .u8 (y0 : Int), .int .i16 y1, .int .i16 y2, .int .i16 y3, .int .i16 y4] 66)).cell? ⟨w.heap.size + 1, 4, none⟩ = some (.int .i16 y4) := by simp
 have HB : Hid (Below w.heap.size w ((w.alloc (.cells #[.int .u8 (x0 : Int), .int .i16 x1, .int .i16 x2, .int .i16 x3, .int .i16 x4] 66)).alloc (.cells #[.int .u8 (y0 : Int), .int .i16 y1, .int .i16 y2, .int .i16 y3, .int .i16 y4] 66))) := two_new w _ _
 generalize ((w.alloc (.cells #[.int .u8 (x0 : Int), .int .i16 x1, .int .i16 x2, .int .i16 x3, .int .i16 x4] 66)).alloc (.cells #[.int .u8 (y0 : Int), .int .i16 y1, .int .i16 y2, .int .i16 y3, .int .i16 y4] 66)) = W at *
 cases hE : ((x0 : Int) != (y0 : Int))
 ·have hxy : Hid (x0 = y0) := by (have : (x0 : Int) = (y0 : Int) := by simpa using hE); show _ = _; omega
  go_wp2_with fail
  go_loopw [19] (fun v19 wr => ∃ i : Nat, i ≤ 4 ∧ v19 = .int .i64 (i : Int) ∧ wr = W ∧ Hid ((1 ≤ i → x1 = y1) ∧ (2 ≤ i → x2 = y2) ∧ (3 ≤ i → x3 = y3) ∧ (4 ≤ i → x4 = y4))) (fun v19 _ => 4 - (intOf v19).toNat)
  case atStart => exact ⟨0, by omega, rfl, rfl, (show Hid _ from ⟨by omega, by omega, by omega, by omega⟩)⟩
  case round =>
   obtain ⟨i, hi4, rfl, rfl, H1⟩ := hrel
   have : i = 0 ∨ i = 1 ∨ i = 2 ∨ i = 3 ∨ i = 4 := by omega
   rcases this with rfl | rfl | rfl | rfl | rfl
   ·have hix := store_0 (.int .i16 x1) (.int .i16 x2) (.int .i16 x3) (.int .i16 x4)
    cases hc : (x1 != y1)
    ·have hq : x1 = y1 := by simpa using hc
     have HQ : Hid _ := hq
     clear hq
     go_wp2
     go_roundw
     case rel => exact ⟨1, by omega, rfl, trivial, (show Hid _ from ⟨fun _ => HQ.out, fun h => by have hh := H1.out; first | omega | exact hh.2.1 (by omega), fun h => by have hh := H1.out; first | omega | exact hh.2.2.1 (by omega), fun h => by have hh := H1.out; first | omega | exact hh.2.2.2 (by omega)⟩)⟩
     case measure => simp [intOf]
    ·have hq : x1 ≠ y1 := by simpa using hc
     have HQ : Hid (x1 ≠ y1) := hq
     clear hq
     go_wp2
     go_ret
     have hh := H1.out
     exact ⟨by rw [HV1.out hxy.out HQ.out]; simp, HB.out⟩
   ·have hix := store_1 (.int .i16 x1) (.int .i16 x2) (.int .i16 x3) (.int .i16 x4)
    cases hc : (x2 != y2)
    ·have hq : x2 = y2 := by simpa using hc
     have HQ : Hid _ := hq
     clear hq
     go_wp2
     go_roundw
     case rel => exact ⟨2, by omega, rfl, trivial, (show Hid _ from ⟨fun h => by have hh := H1.out; first | omega | exact hh.1 (by omega), fun _ => HQ.out, fun h => by have hh := H1.out; first | omega | exact hh.2.2.1 (by omega), fun h => by have hh := H1.out; first | omega | exact hh.2.2.2 (by omega)⟩)⟩
     case measure => simp [intOf]
    ·have hq : x2 ≠ y2 := by simpa using hc
     have HQ : Hid (x2 ≠ y2) := hq
     clear hq
     go_wp2
     go_ret
     have hh := H1.out
     exact ⟨by rw [HV2.out hxy.out (hh.1 (by omega)) HQ.out]; simp, HB.out⟩
   ·have hix := store_2 (.int .i16 x1) (.int .i16 x2) (.int .i16 x3) (.int .i16 x4)
    cases hc : (x3 != y3)
    ·have hq : x3 = y3 := by simpa using hc
     have HQ : Hid _ := hq
     clear hq
     go_wp2
     go_roundw
     case rel => exact ⟨3, by omega, rfl, trivial, (show Hid _ from ⟨fun h => by have hh := H1.out; first | omega | exact hh.1 (by omega), fun h => by have hh := H1.out; first | omega | exact hh.2.1 (by omega), fun _ => HQ.out, fun h => by have hh := H1.out; first | omega | exact hh.2.2.2 (by omega)⟩)⟩
     case measure => simp [intOf]
    ·have hq : x3 ≠ y3 := by simpa using hc
     have HQ : Hid (x3 ≠ y3) := hq
     clear hq
     go_wp2
     go_ret
     have hh := H1.out
     exact ⟨by rw [HV3.out hxy.out (hh.1 (by omega)) (hh.2.1 (by omega)) HQ.out]; simp, HB.out⟩
   ·have hix := store_3 (.int .i16 x1) (.int .i16 x2) (.int .i16 x3) (.int .i16 x4)
    cases hc : (x4 != y4)
    ·have hq : x4 = y4 := by simpa using hc
     have HQ : Hid _ := hq
     clear hq
     go_wp2
     go_roundw
     case rel => exact ⟨4, by omega, rfl, trivial, (show Hid _ from ⟨fun h => by have hh := H1.out; first | omega | exact hh.1 (by omega), fun h => by have hh := H1.out; first | omega | exact hh.2.1 (by omega), fun h => by have hh := H1.out; first | omega | exact hh.2.2.1 (by omega), fun _ => HQ.out⟩)⟩
     case measure => simp [intOf]
    ·have hq : x4 ≠ y4 := by simpa using hc
     have HQ : Hid (x4 ≠ y4) := hq
     clear hq
     go_wp2
     go_ret
     have hh := H1.out
     exact ⟨by rw [HV4.out hxy.out (hh.1 (by omega)) (hh.2.1 (by omega)) (hh.2.2.1 (by omega)) HQ.out]; simp, HB.out⟩
   ·go_wp2
    go_ret
    have hh := H1.out
    exact ⟨by rw [HV5.out hxy.out (hh.1 (by omega)) (hh.2.1 (by omega)) (hh.2.2.1 (by omega)) (hh.2.2.2 (by omega))]; rfl, HB.out⟩
 ·have hxy : x0 ≠ y0 := by (have : (x0 : Int) ≠ (y0 : Int) := by simpa using hE); omega
  have HXY : Hid (x0 ≠ y0) := hxy
  clear hxy
  go_wp2
  go_ret
  exact ⟨by rw [HV0.out HXY.out]; simp, HB.out⟩

theorem wpAnyH_callg {P : Program} {md : Region.Mode} {ops : Array Oper} {Q : Exit → Act → World → Prop} {S : World → Prop} {fuel : Nat} {listed : Array Bool} {a : Act} {w : World} (i : Nat) (o : Oper) (hr : Region.ready md ops listed = [i]) (ho : ops[i]? = some o) (hw : Region.wanted o (yielded ops a.tmps) = true)
  (f : FuncId) (args : Array Value) (hrun : (execOp a.eval o).run P w = .ok (.enter f args) w) (T : Ending → World → Prop) (hc : Calls P f args w T)
  (h : ∀ e w', T e w' → ∃ v, e = .returned v ∧ S w' ∧ wpAnyH P md ops Q S fuel (listed.setIfInBounds i true) (a.put o.dst v) w') : wpAnyH P md ops Q S (fuel + 1) listed a w := by
 refine wpAnyH_ready hr (by simp) (AllReadyH.cons ho (fun K' hK => ?_) AllReadyH.nil)
 rw [if_pos hw]
 unfold Oper.wp
 rw [hrun, Oper.upon_enter]
 refine hc.mono fun e w'' hh => ?_
 obtain ⟨v, rfl, hS, hn⟩ := h e w'' hh
 exact hK.out _ _ hS (fun _ => hn)

/-- Two results in memory. -/
structure ResTwo (g o b : Nat) (x m : Res) (w : World) : Prop where
 a : w.rangeAt g o (resL x)
 b : w.rangeAt b 0 (resL m)

theorem ResTwo.below {g o b : Nat} {x m : Res} {w w' : World} {B : Nat} (h : ResTwo g o b x m w) (hb : Below B w w') (h1 : g < B) (h2 : b < B) : ResTwo g o b x m w' :=
 ⟨range_below h.a hb h1, range_below h.b hb h2⟩

theorem Tryz.resinfo66 : (Tryz.prog.info? 66).map (fun i => (i.zero, i.size, i.bytes)) = some (some (.agg #[.int .u8 0, .int .i16 0, .int .i16 0, .int .i16 0, .int .i16 0]), 5, 10) := by kernel_rfl

theorem place_eq {rs : List Res} {m : Res} : ∀ {i : Nat}, i ≤ rs.length → (∀ x ∈ rs.take i, before x m = true) → (∀ x, rs[i]? = some x → before x m = false) → placeOf rs m = i := by
 unfold placeOf
 induction rs with
 | nil => intro i hi _ _; simp at hi; subst hi; rfl
 | cons y ys ih =>
  intro i hi h1 h2
  cases i with
  | zero =>
   have := h2 y rfl
   rw [List.takeWhile_cons_of_neg (by simp [this])]; rfl
  | succ i =>
   have hy := h1 y (by simp)
   rw [List.takeWhile_cons_of_pos (by simp [hy]), List.length_cons, ih (by simpa using hi) (fun x hx => h1 x (by simp [hx])) (fun x hx => h2 x (by simpa using hx))]

theorem eq_res (x m : Res) (w : World) : (binOp .eql 66 (.agg (resL x).toArray) (.agg (resL m).toArray)).run Tryz.prog w = .ok (.bool (decide (x = m))) w := by
 obtain ⟨x0, x1, x2, x3, x4⟩ := x
 obtain ⟨m0, m1, m2, m3, m4⟩ := m
 have heq := eq_store_any x1 x2 x3 x4 m1 m2 m3 m4
 unfold resL
 simp only
 have e : decide ((x0, x1, x2, x3, x4) = (m0, m1, m2, m3, m4)) = (((x0 : Int) == (m0 : Int)) && decide (x1 = m1 ∧ x2 = m2 ∧ x3 = m3 ∧ x4 = m4)) := by
  rw [Bool.eq_iff_iff]
  simp only [Prod.mk.injEq, decide_eq_true_eq, Bool.and_eq_true, beq_iff_eq]
  constructor
  ·rintro ⟨rfl, h⟩; exact ⟨rfl, h⟩
  ·rintro ⟨h, h2⟩; exact ⟨by omega, h2⟩
 rw [e]
 cases h0 : ((x0 : Int) == (m0 : Int))
 ·go_simp
 ·cases h1 : decide (x1 = m1 ∧ x2 = m2 ∧ x3 = m3 ∧ x4 = m4)
  ·rw [h1] at heq
   go_simp
  ·rw [h1] at heq
   go_simp

/-- Results in memory. -/
def ResIn (w : World) (a : Option Addr) (rs : List Res) : Prop := 0 < rs.length → ∃ g, a = some ⟨g, 0, none⟩ ∧ g < w.heap.size ∧ ∀ (i : Nat) x, rs[i]? = some x → w.rangeAt g (i * 5) (resL x)

theorem res_of_owns {w : World} {lo : Nat} {a : Option Addr} {cap : Nat} {rs : List Res} (h : w.ownsRow lo 66 5 (.slice a rs.length cap) rs.length (resCells rs)) : ResIn w a rs := fun h0 => by
 obtain ⟨g, rfl, -, hg, -, -, hc, -⟩ := owns_cells h h0
 exact ⟨g, rfl, hg, fun i x hx j v hv => hc _ _ (resCells_at rs i x hx j v hv)⟩

theorem with_any (rs : List Res) (m : Res) (ra : Option Addr) (rcap sl : Nat) (w : World) (h : w.ownsRow sl 66 5 (.slice ra rs.length rcap) rs.length (resCells rs)) (hsl : sl ≤ w.heap.size) (hl : rs.length ≤ 1073741824) :
  Calls Tryz.prog 101 #[.slice ra rs.length rcap, resA m] w fun e w' => Below w.heap.size w w' ∧ ∃ ba bcap, e = .returned (.slice ba (withRes rs m).length bcap) ∧ w'.ownsRow sl 66 5 (.slice ba (withRes rs m).length bcap) (withRes rs m).length (resCells (withRes rs m)) := by
 have H0 : Hid (w.ownsRow sl 66 5 (.slice ra rs.length rcap) rs.length (resCells rs)) := h
 have HI : Hid (ResIn w ra rs) := res_of_owns h
 have HCAP : Hid (rs.length ≤ rcap ∧ rcap ≤ maxLen) := owns_cap h
 clear h
 obtain ⟨i0, hi0, hz0, hz1, hz2⟩ := info_parts Tryz.resinfo66
 unfold resA
 go_enter Tryz.func101, Tryz.ntmps101
 go_upto_region 1 with fail
 have HB0 : Hid (Below w.heap.size w (w.alloc (.cells (resL m).toArray 66))) := (Below.refl _ _).alloc (Nat.le_refl _) _
 have HM0 : Hid ((w.alloc (.cells (resL m).toArray 66)).rangeAt w.heap.size 0 (resL m)) := fun j v hv => by
  rw [Nat.zero_add, cell_of_row _ w.heap.size j _ 66 (0, 0) (heap_alloc_new w _)]; simpa using hv
 have HZ0 : Hid ((w.alloc (.cells (resL m).toArray 66)).heap.size = w.heap.size + 1) := by show _ = _; simp
 generalize w.alloc (.cells (resL m).toArray 66) = W at *
 go_upto_block 0 with fail
 go_cut [5] from 7 (fun v5 wr => ∃ k : Nat, k ≤ rs.length ∧ v5 = .int .i64 (k : Int) ∧ Hid (Below W.heap.size W wr ∧ placeOf rs m = k))
 case first =>
  go_wp2_with fail
  go_loopw [5] (fun v5 wr => ∃ i : Nat, i ≤ rs.length ∧ v5 = .int .i64 (i : Int) ∧ Hid (Below W.heap.size W wr ∧ ∀ x ∈ rs.take i, before x m = true)) (fun v5 _ => rs.length - (intOf v5).toNat)
  case atStart => exact ⟨0, Nat.zero_le _, rfl, (show Hid _ from ⟨Below.refl _ _, fun x hx => by simp at hx⟩)⟩
  case round =>
   obtain ⟨i, hil, rfl, H1⟩ := hrel
   by_cases hlt : i < rs.length
   ·obtain ⟨g, rfl, hg, hgc⟩ := HI.out (by omega)
    have hlt' : (i : Int) < (rs.length : Int) := by omega
    have hi0' : (0 : Int) ≤ (i : Int) := by omega
    have hbw : Below w.heap.size w wr := HB0.out.trans (H1.out.1.mono HB0.out.size)
    have HTW : Hid (ResTwo g (i * 5) w.heap.size rs[i] m wr) := ⟨range_below (hgc i _ (List.getElem?_eq_getElem hlt)) hbw hg, range_below HM0.out H1.out.1 (by have := HZ0.out; omega)⟩
    have ltg : g < wr.heap.size := Nat.lt_of_lt_of_le hg hbw.size
    have ltw : w.heap.size < wr.heap.size := by have := HZ0.out; have := H1.out.1.size; omega
    have HTK : Hid (rs.take (i + 1) = rs.take i ++ [rs[i]]) := by show _ = _; rw [List.take_add_one, List.getElem?_eq_getElem hlt]; rfl
    have HIX : Hid (rs[i]? = some rs[i]) := List.getElem?_eq_getElem hlt
    clear hgc hbw
    generalize rs[i] = x at *
    go_upto_region 2 with fail
    refine wp_region_held_drew (S := ResTwo g (i * 5) w.heap.size x m) (by kernel_rfl) ⟨HTW.out.a, HTW.out.b⟩ (fun hHeld => ?_)
    refine takeR 0 (.int .i64 (i : Int)) rfl hHeld ?_
    refine takeR 1 (.slice (some ⟨g, 0, none⟩) rs.length rcap) rfl hHeld ?_
    refine takeS 2 (.int .i64 (rs.length : Int)) rfl hHeld ?_
    refine takeS 3 (.bool true) rfl hHeld ?_
    refine takeR 4 (.bool true) rfl hHeld ?_
    refine takeR 5 (.slice (some ⟨g, 0, none⟩) rs.length rcap) rfl hHeld ?_
    refine takeR 6 (.int .i64 (i : Int)) rfl hHeld ?_
    refine takeAt 7 (.pointer (some ⟨g, i * 5, none⟩)) rfl (.inl ⟨by rfl, fun w hw => by go_simp <;> (intro h; omega)⟩) hHeld ?_
    refine takeAt 8 (.agg (resL x).toArray) rfl (yieldsIf_load_mid (by rfl) _ _ rfl g (i * 5) rfl (resL x) _ (fun w hw => hw.a) Tryz.underlying66 rfl Tryz.size66) hHeld ?_
    refine takeAt 9 (.agg (resL m).toArray) rfl (yieldsIf_load_mid (by rfl) _ _ rfl w.heap.size 0 rfl (resL m) _ (fun w hw => hw.b) Tryz.underlying66 rfl Tryz.size66) hHeld ?_
    refine wpAnyH_callg 10 _ (by kernel_rfl) rfl (by rfl) 106 #[resA x, resA m] (by unfold resA; go_simp) _ (comesBefore_any x m _) ?_
    rintro e w6 ⟨rfl, hb6'⟩
    have hb6 : Below wr.heap.size wr w6 := (Below.refl _ _).drew.trans (hb6'.mono (Nat.le_refl _))
    have hS6 := HTW.out.below hb6 ltg ltw
    refine ⟨_, rfl, hS6, ?_⟩
    simp only [List.getElem_toArray, List.getElem_cons_zero, List.getElem_cons_succ, Act.put, List.setIfInBounds_toArray, List.set_cons_zero, List.set_cons_succ]
    refine takeR 11 (.bool (before x m)) rfl hS6 ?_
    refine wpAnyH_done (by kernel_rfl) ?_ _
    have HB6 : Hid (Below W.heap.size W w6) := H1.out.1.trans (hb6.mono H1.out.1.size)
    have HAL : Hid (∀ x ∈ rs.take i, before x m = true) := H1.out.2
    clear hb6 hb6' hS6 hHeld H1
    cases hbf : before x m
    ·have HPL : Hid (placeOf rs m = i) := place_eq (by omega) HAL.out (fun y hy => by rw [HIX.out] at hy; simp at hy; subst hy; exact hbf)
     clear hbf
     go_wp2
     go_meet
     exact ⟨i, by omega, rfl, (show Hid _ from ⟨HB6.out, HPL.out⟩)⟩
    ·have HAL2 : Hid (∀ x ∈ rs.take (i + 1), before x m = true) := fun y hy => by
      rw [HTK.out] at hy
      rcases List.mem_append.1 hy with hy | hy
      ·exact HAL.out y hy
      ·rw [List.mem_singleton] at hy; subst hy; exact hbf
     clear hbf
     go_wp2
     go_roundw
     case rel => exact ⟨i + 1, by omega, by go_num, (show Hid _ from ⟨HB6.out, HAL2.out⟩)⟩
     case measure => simp [intOf]; omega
   ·have hd : decide ((i : Int) < (rs.length : Int)) = false := by simp; omega
    have HPL : Hid (placeOf rs m = i) := place_eq (by omega) H1.out.2 (fun y hy => by have := (List.getElem?_eq_some_iff.1 hy).1; omega)
    go_upto_region 2 with fail
    go_quiet (fail)
    go_wp2
    go_meet
    exact ⟨i, by omega, rfl, (show Hid _ from ⟨below_drewN H1.out.1 _, HPL.out⟩)⟩
 case rest =>
  obtain ⟨k, hkl, rfl, HC⟩ := hcut
  have HBC : Hid (Below W.heap.size W wc) := HC.out.1
  have HPL : Hid (placeOf rs m = k) := HC.out.2
  clear HC
  go_upto_region 4 with fail
  go_cut [32] from 7 (fun v32 wr => v32 = .bool (decide (rs[k]? = some m)) ∧ Hid (Below W.heap.size W wr))
  case first =>
   by_cases hlt : k < rs.length
   ·obtain ⟨g, rfl, hg, hgc⟩ := HI.out (by omega)
    have hlt' : (k : Int) < (rs.length : Int) := by omega
    have hi0' : (0 : Int) ≤ (k : Int) := by omega
    have hbw : Below w.heap.size w wc := HB0.out.trans (HBC.out.mono HB0.out.size)
    have HTW : Hid (ResTwo g (k * 5) w.heap.size rs[k] m wc) := ⟨range_below (hgc k _ (List.getElem?_eq_getElem hlt)) hbw hg, range_below HM0.out HBC.out (by have := HZ0.out; omega)⟩
    have HIX : Hid (decide (rs[k]? = some m) = decide (rs[k] = m)) := by show _ = _; rw [List.getElem?_eq_getElem hlt]; simp
    clear hgc hbw
    generalize rs[k] = x at *
    have heq := eq_res x m
    refine wp_region_held_drew (S := ResTwo g (k * 5) w.heap.size x m) (by kernel_rfl) ⟨HTW.out.a, HTW.out.b⟩ (fun hHeld => ?_)
    refine takeR 0 (.int .i64 (k : Int)) rfl hHeld ?_
    refine takeR 1 (.slice (some ⟨g, 0, none⟩) rs.length rcap) rfl hHeld ?_
    refine takeS 2 (.int .i64 (rs.length : Int)) rfl hHeld ?_
    refine takeS 3 (.bool true) rfl hHeld ?_
    refine takeR 4 (.bool true) rfl hHeld ?_
    refine takeR 5 (.slice (some ⟨g, 0, none⟩) rs.length rcap) rfl hHeld ?_
    refine takeR 6 (.int .i64 (k : Int)) rfl hHeld ?_
    refine takeAt 7 (.pointer (some ⟨g, k * 5, none⟩)) rfl (.inl ⟨by rfl, fun w hw => by go_simp <;> (intro h; omega)⟩) hHeld ?_
    refine takeAt 8 (.agg (resL x).toArray) rfl (yieldsIf_load_mid (by rfl) _ _ rfl g (k * 5) rfl (resL x) _ (fun w hw => hw.a) Tryz.underlying66 rfl Tryz.size66) hHeld ?_
    refine takeAt 9 (.agg (resL m).toArray) rfl (yieldsIf_load_mid (by rfl) _ _ rfl w.heap.size 0 rfl (resL m) _ (fun w hw => hw.b) Tryz.underlying66 rfl Tryz.size66) hHeld ?_
    refine takeS 10 (.bool (decide (x = m))) rfl hHeld ?_
    refine takeR 11 (.bool (decide (x = m))) rfl hHeld ?_
    refine wpAnyH_done (by kernel_rfl) ?_ _
    clear hHeld
    go_wp2_with fail
    go_meet
    exact ⟨by rw [HIX.out], (show Hid _ from HBC.out.drew)⟩
   ·have hd : decide ((k : Int) < (rs.length : Int)) = false := by simp; omega
    have HIX : Hid (decide (rs[k]? = some m) = false) := by show _ = _; rw [List.getElem?_eq_none (by omega)]; rfl
    go_quiet (fail)
    go_wp2_with fail
    go_meet
    exact ⟨by rw [HIX.out], (show Hid _ from below_drewN HBC.out _)⟩
  case rest =>
   obtain ⟨rfl, HBD⟩ := hcut
   have HBW : Hid (Below w.heap.size w wc) := HB0.out.trans (HBD.out.mono HB0.out.size)
   by_cases hfd : rs[k]? = some m
   ·have hd : decide (rs[k]? = some m) = true := by simp [hfd]
    have HWR : Hid (withRes rs m = rs) := by show _ = _; unfold withRes; rw [HPL.out, if_pos hfd]
    rw [hd]
    clear hd hfd
    go_wp2
    go_ret
    rw [HWR.out]
    exact ⟨HBW.out, ra, rcap, rfl, ((ownsRow_in H0.out).below HBW.out).1⟩
   ·have hd : decide (rs[k]? = some m) = false := by simp [hfd]
    have HWR : Hid (withRes rs m = rs.take k ++ m :: rs.drop k) := by show _ = _; unfold withRes; rw [HPL.out, if_neg hfd]
    rw [hd]
    clear hd hfd HPL HBC
    have HZC : Hid (W.heap.size ≤ wc.heap.size) := HBD.out.size
    have HLT : Hid ((rs.take k).length = k) := by show _ = _; simp; omega
    have hkc : (k : Int) ≤ (rcap : Int) := by have := HCAP.out.1; omega
    have hk00 : (0 : Int) ≤ (k : Int) := by omega
    have hzc := HZC.out
    go_upto_region 7 with fail
    go_cut [6] from 7 (fun v6 wr => ∃ la lcap, v6 = .slice la k lcap ∧ Hid (Below W.heap.size W wr ∧ wr.ownsRow W.heap.size 66 5 (.slice la k lcap) k (resCells (rs.take k))))
    case first =>
     by_cases hk0 : k = 0
     ·subst hk0
      have HST : Hid (∃ la lcap, Value.slice none 0 0 = .slice la 0 lcap ∧ Hid (Below W.heap.size W wc ∧ wc.ownsRow W.heap.size 66 5 (.slice la 0 lcap) 0 (resCells (rs.take 0)))) := ⟨none, 0, rfl, (show Hid _ from ⟨HBD.out, World.ownsRow_nil _ _ _ _⟩)⟩
      cases ra with
      | none =>
       go_wp2_with fail
       go_meet
       exact HST.out
      | some ad =>
       go_wp2_with fail
       go_meet
       exact HST.out
     ·obtain ⟨g, rfl, -, hg, -, -, hmc, -⟩ := owns_cells H0.out (show 0 < rs.length by omega)
      have HCC : Hid (∀ j u, (resCells (rs.take k))[j]? = some u → wc.cell? ((⟨g, 0, none⟩ : Addr).add j) = some u) := fun j u hu => by
       have hadd : (⟨g, 0, none⟩ : Addr).add j = ⟨g, j, none⟩ := by unfold Addr.add; split <;> simp_all
       rw [hadd, HBW.out.cell (p := ⟨g, j, none⟩) hg]
       rw [resCells_take _ _ hkl, List.getElem?_take] at hu
       split at hu
       ·exact hmc j u hu
       ·cases hu
      clear hmc
      have hk0' : 0 < k := by omega
      go_wp2_with (first | (refine wpList_append_lies _ rfl _ _ _ rfl W.heap.size 66 i0 _ 5 10 Tryz.underlying60 hi0 hz0 hz1 hz2 rfl (by omega) (.slice none 0 0) 0 [] rfl (World.ownsRow_nil _ _ _ _) ⟨g, 0, none⟩ k rcap (resCells (rs.take k)) rfl (by rw [resCells_length, HLT.out]) (by exact HCC.out) (by exact resCells_one _) hk0' (by unfold maxLen; omega) (by omega) hzc wc.heap.size rfl ?_; intro g1 cap1 w6 hown6 hgrow6 hat6 hlt6))
      go_meet
      refine ⟨_, _, rfl, (show Hid _ from ⟨HBD.out.grown hgrow6 hzc (fun y hy => by simp [Value.ownBlock] at hy), ?_⟩)⟩
      have h6 := hown6
      rw [Nat.zero_add, List.nil_append] at h6
      exact h6
    case rest =>
     obtain ⟨la, lcap, rfl, HCU⟩ := hcut
     have HBE : Hid (Below W.heap.size W wc) := HCU.out.1
     have HOE : Hid (wc.ownsRow W.heap.size 66 5 (.slice la k lcap) k (resCells (rs.take k))) := HCU.out.2
     have HWE : Hid (Below w.heap.size w wc) := HB0.out.trans (HBE.out.mono HB0.out.size)
     have hze := HBE.out.size
     have ltw : w.heap.size < W.heap.size := by have := HZ0.out; omega
     have m0 : wc.cell? ⟨w.heap.size, 0, none⟩ = some (.int .u8 (m.1 : Int)) := range_below HM0.out HBE.out ltw 0 _ rfl
     have m1 : wc.cell? ⟨w.heap.size, 1, none⟩ = some (.int .i16 m.2.1) := range_below HM0.out HBE.out ltw 1 _ rfl
     have m2 : wc.cell? ⟨w.heap.size, 2, none⟩ = some (.int .i16 m.2.2.1) := range_below HM0.out HBE.out ltw 2 _ rfl
     have m3 : wc.cell? ⟨w.heap.size, 3, none⟩ = some (.int .i16 m.2.2.2.1) := range_below HM0.out HBE.out ltw 3 _ rfl
     have m4 : wc.cell? ⟨w.heap.size, 4, none⟩ = some (.int .i16 m.2.2.2.2) := range_below HM0.out HBE.out ltw 4 _ rfl
     clear HCU HBD hzc HZC HBW ltw
     go_upto_region 9 with (first | (refine wpList_append_lies _ rfl _ _ _ rfl W.heap.size 66 i0 _ 5 10 Tryz.underlying60 hi0 hz0 hz1 hz2 rfl (by omega) (.slice la k lcap) k (resCells (rs.take k)) rfl (HOE.out.alloc _) ⟨wc.heap.size, 0, none⟩ 1 1 [Value.int .u8 (m.1 : Int), .int .i16 m.2.1, .int .i16 m.2.2.1, .int .i16 m.2.2.2.1, .int .i16 m.2.2.2.2] rfl rfl (World.news_of_block (cs := #[Value.int .u8 (m.1 : Int), .int .i16 m.2.1, .int .i16 m.2.2.1, .int .i16 m.2.2.2.1, .int .i16 m.2.2.2.2]) (t := 66) (fr := (0, 0)) (heap_alloc_new wc _)) (by simp [Value.oneCell']) (by omega) (by unfold maxLen; omega) (by omega) (by simp; omega) (wc.heap.size + 1) (by simp) ?_; intro g2 cap2 w7 hown7 hgrow7 hat7 hlt7))
     have HO7 : Hid (w7.ownsRow W.heap.size 66 5 (.slice (some ⟨g2, 0, none⟩) (k + 1) cap2) (k + 1) (resCells (rs.take k ++ [m]))) := by
      show World.ownsRow _ _ _ _ _ _ _
      rw [resCells_append]
      exact hown7
     have HB7 : Hid (Below W.heap.size W w7) := HBE.out.trans (Below.grown ((Below.refl W.heap.size wc).alloc (by omega) _) hgrow7 (by simp; omega) (fun y hy => (HOE.out.lt y hy).1))
     have HW7 : Hid (Below w.heap.size w w7) := HB0.out.trans (HB7.out.mono HB0.out.size)
     have hz7 := HB7.out.size
     have HWL : Hid ((withRes rs m).length = rs.length + 1) := by show _ = _; rw [HWR.out]; simp; omega
     clear hown7 hgrow7 hat7 hlt7 m0 m1 m2 m3 m4 HOE HBE HWE hze
     have hkl' : (k : Int) ≤ (rs.length : Int) := by omega
     have hlc' : (rs.length : Int) ≤ (rcap : Int) := by have := HCAP.out.1; omega
     have hc2 : k + 1 ≤ cap2 := (owns_cap HO7.out).1
     by_cases hke : k = rs.length
     ·subst hke
      have HWR2 : Hid (withRes rs m = rs.take rs.length ++ [m]) := by show _ = _; rw [HWR.out]; simp
      have HFIN : Hid (Below w.heap.size w w7 ∧ ∃ ba bcap, Ending.returned (.slice (some ⟨g2, 0, none⟩) (rs.length + 1) cap2) = .returned (.slice ba (withRes rs m).length bcap) ∧ w7.ownsRow sl 66 5 (.slice ba (withRes rs m).length bcap) (withRes rs m).length (resCells (withRes rs m))) := by
       refine ⟨HW7.out, some ⟨g2, 0, none⟩, cap2, by rw [HWL.out], ?_⟩
       rw [HWL.out, HWR2.out]
       exact ((ownsRow_in HO7.out).mono (Nat.le_trans hsl HB0.out.size) (Nat.le_refl _)).1
      cases ra with
      | none =>
       go_wp2
       go_ret
       exact HFIN.out
      | some ad =>
       go_wp2
       all_goals go_ret
       all_goals exact HFIN.out
     ·have hklt : k < rs.length := by omega
      obtain ⟨g, rfl, -, hg, -, -, hmc, -⟩ := owns_cells H0.out (show 0 < rs.length by omega)
      have HCC : Hid (∀ j u, (resCells (rs.drop k))[j]? = some u → w7.cell? ((⟨g, k * 5, none⟩ : Addr).add j) = some u) := fun j u hu => by
       have hadd : (⟨g, k * 5, none⟩ : Addr).add j = ⟨g, k * 5 + j, none⟩ := by unfold Addr.add; split <;> simp_all
       rw [hadd, HW7.out.cell (p := ⟨g, k * 5 + j, none⟩) hg]
       rw [resCells_drop _ _ hkl, List.getElem?_drop] at hu
       exact hmc _ u hu
      clear hmc
      go_upto_region 99 with (first | (refine wpList_append_lies _ rfl _ _ _ rfl W.heap.size 66 i0 _ 5 10 Tryz.underlying60 hi0 hz0 hz1 hz2 rfl (by omega) (.slice (some ⟨g2, 0, none⟩) (k + 1) cap2) (k + 1) (resCells (rs.take k ++ [m])) rfl HO7.out ⟨g, k * 5, none⟩ (rs.length - k) (rcap - k) (resCells (rs.drop k)) rfl (by rw [resCells_length]; simp) (by exact HCC.out) (by exact resCells_one _) (by omega) (by unfold maxLen; omega) (by omega) hz7 w7.heap.size rfl ?_; intro g3 cap3 w8 hown8 hgrow8 hat8 hlt8))
      go_ret
      refine ⟨HW7.out.trans (Below.grown ((Below.refl W.heap.size w7)) hgrow8 hz7 (fun y hy => (HO7.out.lt y hy).1) |>.mono HB0.out.size), some ⟨g3, 0, none⟩, cap3, by rw [HWL.out]; simp; omega, ?_⟩
      have h8 := hown8
      rw [← resCells_append, List.append_assoc, List.singleton_append, ← HWR.out, show k + 1 + (rs.length - k) = (withRes rs m).length by rw [HWL.out]; omega] at h8
      exact ((ownsRow_in h8).mono (Nat.le_trans hsl HB0.out.size) (Nat.le_refl _)).1

attribute [local go_sem ↓] Go.wp_at_zero Go.wp_at_succ exec_load_state
attribute [local go_sem] ptrB isPtr0 aggL

theorem with_length (rs : List Res) (m : Res) : rs.length ≤ (withRes rs m).length ∧ (withRes rs m).length ≤ rs.length + 1 := by
 unfold withRes
 split
 ·omega
 ·have := place_le rs m
  simp
  omega

def gatherNext (p : List (List Pl.POp)) (k : Nat) (S : St) (f : List Res) (n : Int) : List Res := match step S p n with
 | none => f
 | some (S', _) => gatherGo p k S' f

theorem gather_next {p : List (List Pl.POp)} {k : Nat} {S : St} {f : List Res} (h : readyTo S p 4 ≠ []) : gatherGo p (k + 1) S f = (readyTo S p 4).foldl (gatherNext p k S) f := by
 rw [gatherGo, if_neg h]; rfl

theorem gather_length (p : List (List Pl.POp)) : ∀ (k : Nat) (S : St) (f : List Res), (gatherGo p k S f).length ≤ f.length + 4 ^ k
 | 0, S, f => by simp [gatherGo]
 | k + 1, S, f => by
  by_cases h : readyTo S p 4 = []
  ·rw [gatherGo, if_pos h]
   have := (with_length f (resOf S p)).2
   have : 0 < 4 ^ (k + 1) := Nat.pow_pos (by omega)
   omega
  ·rw [gather_next h]
   have key : ∀ (L : List Int) (f : List Res), (L.foldl (gatherNext p k S) f).length ≤ f.length + L.length * 4 ^ k := by
    intro L
    induction L with
    | nil => intro f; simp
    | cons n L ih =>
     intro f
     rw [List.foldl_cons]
     have h1 := ih (gatherNext p k S f n)
     have h2 : (gatherNext p k S f n).length ≤ f.length + 4 ^ k := by
      unfold gatherNext
      split
      ·exact Nat.le_add_right _ _
      ·exact gather_length p k _ _
     rw [List.length_cons, Nat.add_mul, Nat.one_mul]
     generalize 4 ^ k = q at *
     omega
   have h1 := key (readyTo S p 4) f
   have h2 := readyTo_length S p 4
   have h3 : (readyTo S p 4).length * 4 ^ k ≤ 4 * 4 ^ k := Nat.mul_le_mul_right _ h2
   rw [Nat.pow_succ]
   generalize 4 ^ k = q at *
   omega

def GatherSays (sl : Nat) (rs : List Res) (w : World) (e : Ending) (w' : World) : Prop :=
 Below w.heap.size w w' ∧ ∃ ba bcap, e = .returned (.slice ba rs.length bcap) ∧ w'.ownsRow sl 66 5 (.slice ba rs.length bcap) rs.length (resCells rs)

theorem gather_any (p : List (List Pl.POp)) (a : Option Addr) (cap lo hi : Nat) : ∀ (k : Nat) (S : St) (f : List Res) (fa : Option Addr) (fcap sl : Nat) (w : World), ProgOk w lo hi a cap p → StOk S p → remS p S < k → w.ownsRow sl 66 5 (.slice fa f.length fcap) f.length (resCells f) → sl ≤ w.heap.size → f.length + 4 ^ k ≤ 1073741824 →
  Calls Tryz.prog 91 #[.agg #[.slice a p.length cap], .agg (stL S).toArray, .slice fa f.length fcap] w fun e w' => GatherSays sl (gatherGo p k S f) w e w' := by
 intro k
 induction k with
 | zero => intro S f fa fcap sl w _ _ h; omega
 | succ k ih =>
  intro S f fa fcap sl w hp hS hk hm hsl hf
  have HOK : Hid _ := hp
  have HS : Hid _ := hS
  have HK : Hid _ := hk
  have HM : Hid (w.ownsRow sl 66 5 (.slice fa f.length fcap) f.length (resCells f)) := hm
  have HF : Hid (f.length + 4 ^ (k + 1) ≤ 1073741824) := hf
  have HIH : Hid _ := ih
  clear hp hS hk hm hf ih
  go_enter Tryz.func91, Tryz.ntmps91
  go_upto_region 1 with fail
  have HW : Hid (KfAt w ((w.alloc (.cells #[.slice a p.length cap] 71)).alloc (.cells (stL S).toArray 108)) S (.slice a p.length cap)) := kf_new w S _
  generalize ((w.alloc (.cells #[.slice a p.length cap] 71)).alloc (.cells (stL S).toArray 108)) = W at *
  have pr := HW.out.pr
  have hr := range_of_all HW.out.st
  go_wp2_with (first | refine wpList_load_mid rfl 108 _ rfl (w.heap.size + 1) 0 rfl (stL S) _ hr Tryz.underlying108 rfl Tryz.size108 ?_)
  refine (ready_any S p a cap lo hi _ (HOK.out.below HW.out.bl HOK.out.size)).mono ?_
  rintro e w1 ⟨⟨ra, rcap, rfl, ho1⟩, hb1⟩
  have HW1 : Hid (KfAt w w1 S (.slice a p.length cap)) := HW.out.below hb1
  have HR1 : Hid (w1.ownsRow W.heap.size 3 1 (.slice ra (readyTo S p 4).length rcap) (readyTo S p 4).length (intCells (readyTo S p 4))) := ho1
  clear pr hr ho1 hb1
  by_cases hrd : readyTo S p 4 = []
  ·have HKG : Hid (gatherGo p (k + 1) S f = withRes f (resOf S p)) := by show _ = _; rw [gatherGo, if_pos hrd]
   rw [hrd]
   clear hrd HR1
   simp only [List.length_nil]
   have pr := HW1.out.pr
   have hr := range_of_all HW1.out.st
   go_wp2_with (first | refine wpList_load_mid rfl 108 _ rfl (w.heap.size + 1) 0 rfl (stL S) _ hr Tryz.underlying108 rfl Tryz.size108 ?_)
   refine (result_any S p a cap lo hi _ (HOK.out.below HW1.out.bl HOK.out.size)).mono ?_
   rintro e w2 ⟨rfl, hb2⟩
   have HB2 : Hid (Below w.heap.size w w2) := HW1.out.bl.trans (hb2.mono HW1.out.bl.size)
   clear pr hr hb2
   unfold resV
   go_upto_region 4 with fail
   have HX : Hid (Below w.heap.size w (w2.alloc (.cells #[.int .u8 (endOf S p : Int), .int .i16 S.v0, .int .i16 S.v1, .int .i16 S.v2, .int .i16 S.v3] 66))) := HB2.out.alloc HB2.out.size _
   have c0 : (w2.alloc (.cells #[.int .u8 (endOf S p : Int), .int .i16 S.v0, .int .i16 S.v1, .int .i16 S.v2, .int .i16 S.v3] 66)).cell? ⟨w2.heap.size, 0, none⟩ = some (.int .u8 (endOf S p : Int)) := by simp
   have c1 : (w2.alloc (.cells #[.int .u8 (endOf S p : Int), .int .i16 S.v0, .int .i16 S.v1, .int .i16 S.v2, .int .i16 S.v3] 66)).cell? ⟨w2.heap.size, 1, none⟩ = some (.int .i16 S.v0) := by simp
   have c2 : (w2.alloc (.cells #[.int .u8 (endOf S p : Int), .int .i16 S.v0, .int .i16 S.v1, .int .i16 S.v2, .int .i16 S.v3] 66)).cell? ⟨w2.heap.size, 2, none⟩ = some (.int .i16 S.v1) := by simp
   have c3 : (w2.alloc (.cells #[.int .u8 (endOf S p : Int), .int .i16 S.v0, .int .i16 S.v1, .int .i16 S.v2, .int .i16 S.v3] 66)).cell? ⟨w2.heap.size, 3, none⟩ = some (.int .i16 S.v2) := by simp
   have c4 : (w2.alloc (.cells #[.int .u8 (endOf S p : Int), .int .i16 S.v0, .int .i16 S.v1, .int .i16 S.v2, .int .i16 S.v3] 66)).cell? ⟨w2.heap.size, 4, none⟩ = some (.int .i16 S.v3) := by simp
   generalize w2.alloc (.cells #[.int .u8 (endOf S p : Int), .int .i16 S.v0, .int .i16 S.v1, .int .i16 S.v2, .int .i16 S.v3] 66) = X at *
   have HPW : Hid (f.length ≤ 1073741824) := Nat.le_trans (Nat.le_add_right _ _) HF.out
   have hcall := with_any f (resOf S p) fa fcap sl X ((ownsRow_in HM.out).below HX.out).1 (Nat.le_trans hsl HX.out.size) HPW.out
   rw [show resA (resOf S p) = .agg #[.int .u8 (endOf S p : Int), .int .i16 S.v0, .int .i16 S.v1, .int .i16 S.v2, .int .i16 S.v3] from rfl] at hcall
   have HCALL : Hid _ := hcall
   clear hcall
   go_wp2_with fail
   refine Calls.mono HCALL.out ?_
   clear HCALL
   rintro e w3 ⟨hb3, ba, bcap, rfl, ho3⟩
   have HO3 : Hid (w3.ownsRow sl 66 5 (.slice ba (withRes f (resOf S p)).length bcap) (withRes f (resOf S p)).length (resCells (withRes f (resOf S p)))) := ho3
   clear ho3
   go_wp2
   go_ret
   rw [HKG.out]
   exact ⟨HX.out.trans (hb3.mono HX.out.size), ba, bcap, rfl, HO3.out⟩
  ·have HKG : Hid _ := gather_next (k := k) (f := f) hrd
   have hrl : 0 < (readyTo S p 4).length := List.length_pos_iff.2 hrd
   have hrl4 := readyTo_length S p 4
   have hrl' : (((readyTo S p 4).length : Int) == 0) = false := by rw [beq_eq_false_iff_ne]; omega
   obtain ⟨rb, rfl, -, hrb, -, -, hrc, -⟩ := owns_cells HR1.out hrl
   have HRC : Hid (∀ j m, (readyTo S p 4)[j]? = some m → w1.cell? ⟨rb, j, none⟩ = some (.int .i64 m)) := fun j m hm => hrc j _ (by simp [intCells, hm])
   have HRM : Hid (∀ m ∈ readyTo S p 4, ∃ S' e, step S p m = some (S', e)) := fun m hm => by
    have := (step_iff S p m).trans ((mem_ready4 S p m).1 hm)
    obtain ⟨x, hx⟩ := Option.isSome_iff_exists.1 this
    exact ⟨x.1, x.2, hx⟩
   clear hrc hrd HR1
   generalize readyTo S p 4 = L at *
   go_wp2_with fail
   go_loopw [2, 28] (fun v2 v28 wr => ∃ (i : Nat) (h : List Res) (ha : Option Addr) (hcap : Nat), i ≤ L.length ∧ v28 = .int .i64 (i : Int) ∧ v2 = .slice ha h.length hcap ∧ Hid (Below w1.heap.size w1 wr ∧ gatherGo p (k + 1) S f = (L.drop i).foldl (gatherNext p k S) h ∧ wr.ownsRow sl 66 5 (.slice ha h.length hcap) h.length (resCells h) ∧ h.length ≤ f.length + i * 4 ^ k)) (fun _ v28 _ => L.length - (intOf v28).toNat)
   case atStart => exact ⟨0, f, fa, fcap, Nat.zero_le _, rfl, rfl, (show Hid _ from ⟨Below.refl _ _, HKG.out, ((ownsRow_in HM.out).below HW1.out.bl).1, by simp⟩)⟩
   case round =>
    obtain ⟨i, h, ha, hcap, hil, rfl, rfl, H1⟩ := hrel
    by_cases hlt : i < L.length
    ·have hlt' : (i : Int) < (L.length : Int) := by omega
     have c0 : wr.cell? ⟨rb, i, none⟩ = some (.int .i64 L[i]) := (H1.out.1.cell (p := ⟨rb, i, none⟩) hrb).trans (HRC.out i _ (List.getElem?_eq_getElem hlt))
     obtain ⟨S', ev, hst⟩ := HRM.out L[i] (List.getElem_mem hlt)
     have HD : Hid (gatherGo p (k + 1) S f = (L.drop (i + 1)).foldl (gatherNext p k S) (gatherGo p k S' h)) := by
      show _ = _
      have hnx : gatherNext p k S h L[i] = gatherGo p k S' h := by unfold gatherNext; rw [hst]
      rw [H1.out.2.1, List.drop_eq_getElem_cons hlt, List.foldl_cons, hnx]
     have HST : Hid _ := hst
     have HWR : Hid (KfAt w wr S (.slice a p.length cap)) := HW1.out.below H1.out.1
     have HB1 : Hid (Below w1.heap.size w1 wr) := H1.out.1
     have HOH : Hid (wr.ownsRow sl 66 5 (.slice ha h.length hcap) h.length (resCells h)) := H1.out.2.2.1
     have HHL : Hid (h.length + 4 ^ k ≤ 1073741824 ∧ (gatherGo p k S' h).length ≤ f.length + (i + 1) * 4 ^ k) := by
      have h1 := H1.out.2.2.2
      have h2 := HF.out
      have h3 := gather_length p k S' h
      rw [Nat.pow_succ] at h2
      have h4 : (i + 1) * 4 ^ k ≤ 4 * 4 ^ k := Nat.mul_le_mul_right _ (by omega)
      rw [Nat.add_mul, Nat.one_mul] at h4 ⊢
      show _ ∧ _
      generalize 4 ^ k = q at *
      generalize i * q = r at *
      constructor <;> omega
     clear hst H1
     generalize L[i] = m at *
     have pr := HWR.out.pr
     have hr := range_of_all HWR.out.st
     go_wp2_with (first | refine wpList_load_mid rfl 108 _ rfl (w.heap.size + 1) 0 rfl (stL S) _ hr Tryz.underlying108 rfl Tryz.size108 ?_)
     refine (step_any S p a cap lo hi m _ (HOK.out.below HWR.out.bl HOK.out.size) HS.out).mono ?_
     rintro e w2 ⟨rfl, hb2⟩
     obtain ⟨t, kk, n, vv, bk, gr⟩ := ev
     rw [HST.out]
     rw [show stepV (some (S', (⟨t, kk, n, vv, bk, gr⟩ : Ev))) = .tuple #[.agg (stL S').toArray, .agg #[.int .i64 t, .int .u8 (kk : Int), .int .u8 (n : Int), .int .i16 vv, .int .i64 bk, .int .i64 gr], .bool true] from rfl]
     have HB2 : Hid (Below wr.heap.size wr w2) := hb2
     clear pr hr c0 hb2
     have HTH : Hid (World.there ((w2.alloc (.cells z24 108)).alloc (.cells #[.int .i64 0, .int .u8 0, .int .u8 0, .int .i16 0, .int .i64 0, .int .i64 0] 59)) w2.heap.size 0 (stL S').toArray.size) := outW_there w2 S'
     have HTE : Hid (World.there (((w2.alloc (.cells z24 108)).alloc (.cells #[.int .i64 0, .int .u8 0, .int .u8 0, .int .i16 0, .int .i64 0, .int .i64 0] 59)).setCells w2.heap.size 0 (stL S').toArray.toList) (w2.heap.size + 1) 0 #[Value.int .i64 t, .int .u8 (kk : Int), .int .u8 (n : Int), .int .i16 vv, .int .i64 bk, .int .i64 gr].size) := outW_there2 w2 S'
     have HY : Hid (_ ∧ _) := outE_facts w2 S' #[Value.int .i64 t, .int .u8 (kk : Int), .int .u8 (n : Int), .int .i16 vv, .int .i64 bk, .int .i64 gr].toList rfl
     unfold outW at HY
     go_upto_region 9 with (first | (refine wpList_store_mid rfl 108 _ _ rfl w2.heap.size 0 (stL S').toArray rfl rfl (by exact HTH.out) Tryz.size108 (all_oneCell_toArray (stL_one _)) ?_; refine wpList_store_mid rfl 59 _ _ rfl (w2.heap.size + 1) 0 #[Value.int .i64 t, .int .u8 (kk : Int), .int .u8 (n : Int), .int .i16 vv, .int .i64 bk, .int .i64 gr] rfl rfl (by exact HTE.out) Tryz.size59 (by simp [Value.oneCell']) ?_; generalize (((w2.alloc (.cells z24 108)).alloc (.cells #[.int .i64 0, .int .u8 0, .int .u8 0, .int .i16 0, .int .i64 0, .int .i64 0] 59)).setCells w2.heap.size 0 (stL S').toArray.toList).setCells (w2.heap.size + 1) 0 #[Value.int .i64 t, .int .u8 (kk : Int), .int .u8 (n : Int), .int .i16 vv, .int .i64 bk, .int .i64 gr].toList = Y at *))
     obtain ⟨ys, ye, yf, yb, yz⟩ := HY.out
     have hr := range_of_all ys
     have HRY : Hid (Below wr.heap.size wr Y) := HB2.out.trans (yb.mono HB2.out.size)
     clear ys ye yf yb yz HY HTH HTE HB2
     have HWY : Hid (KfAt w Y S (.slice a p.length cap)) := HWR.out.below HRY.out
     have pr := HWY.out.pr
     have hcall := HIH.out S' h ha hcap sl Y (HOK.out.below HWY.out.bl HOK.out.size) (step_ok HS.out HST.out) (by have h1 := step_rem HS.out HST.out; have h2 := HK.out; omega) ((ownsRow_in HOH.out).below HRY.out).1 (Nat.le_trans hsl HWY.out.bl.size) HHL.out.1
     have HCALL : Hid _ := hcall
     have HBY : Hid (Below w1.heap.size w1 Y) := HB1.out.trans (HRY.out.mono HB1.out.size)
     clear hcall HWY HRY HWR
     go_wp2_with (first | refine wpList_load_mid rfl 108 _ rfl w2.heap.size 0 rfl (stL S') _ hr Tryz.underlying108 rfl Tryz.size108 ?_)
     refine Calls.mono HCALL.out ?_
     clear HCALL pr hr
     rintro e w4 ⟨hb4, ba, bcap, rfl, ho4⟩
     have HO4 : Hid (w4.ownsRow sl 66 5 (.slice ba (gatherGo p k S' h).length bcap) (gatherGo p k S' h).length (resCells (gatherGo p k S' h))) := ho4
     clear ho4
     go_wp2
     go_roundw
     case rel => exact ⟨i + 1, gatherGo p k S' h, ba, bcap, by omega, by go_num, rfl, (show Hid _ from ⟨HBY.out.trans (hb4.mono HBY.out.size), HD.out, HO4.out, HHL.out.2⟩)⟩
     case measure => simp [intOf]; omega
    ·have hlt' : ¬ (i : Int) < (L.length : Int) := by omega
     have HD : Hid (gatherGo p (k + 1) S f = h) := by
      show _ = _
      rw [H1.out.2.1, List.drop_eq_nil_of_le (by omega)]
      rfl
     go_wp2
     go_ret
     rw [HD.out]
     exact ⟨HW1.out.bl.trans (H1.out.1.mono HW1.out.bl.size), ha, hcap, rfl, H1.out.2.2.1⟩

theorem outcomes_any (p : List (List Pl.POp)) (a : Option Addr) (cap lo hi : Nat) (w : World) (hp : ProgOk w lo hi a cap p) (h10 : Pl.countShared p ≤ 10) :
  Calls Tryz.prog 68 #[.agg #[.slice a p.length cap]] w fun e w' => GatherSays w.heap.size (outcomesOf p) w e w' := by
 have HOK : Hid _ := hp
 clear hp
 go_enter Tryz.func68, Tryz.ntmps68
 go_wp2_with fail
 have HB0 : Hid (Below w.heap.size w (w.alloc (.cells #[.slice a p.length cap] 71))) := (Below.refl _ _).alloc (Nat.le_refl _) _
 have HC0 : Hid ((w.alloc (.cells #[.slice a p.length cap] 71)).cell? ⟨w.heap.size, 0, none⟩ = some (.slice a p.length cap)) := by show _ = _; simp
 have HZ0 : Hid ((w.alloc (.cells #[.slice a p.length cap] 71)).heap.size = w.heap.size + 1) := by show _ = _; simp
 generalize w.alloc (.cells #[.slice a p.length cap] 71) = W at *
 refine (begin_any p a cap lo hi _ (HOK.out.below HB0.out HOK.out.size)).mono ?_
 rintro e w1 ⟨rfl, hb1⟩
 have HXT : Hid ((w1.alloc (.cells z24 108)).there w1.heap.size 0 (stL (beginTo p 4)).toArray.size) := new_there w1
 have HX : Hid (∀ j, ((w1.alloc (.cells z24 108)).setCells w1.heap.size 0 (stL (beginTo p 4)).toArray.toList).cell? ⟨w1.heap.size, j, none⟩ = (stL (beginTo p 4))[j]?) := new_all w1 _
 have HXB : Hid (Below w1.heap.size w1 ((w1.alloc (.cells z24 108)).setCells w1.heap.size 0 (stL (beginTo p 4)).toArray.toList)) := new_below w1 _
 go_upto_region 2 with (first | (refine wpList_store_mid rfl 108 _ _ rfl w1.heap.size 0 (stL (beginTo p 4)).toArray rfl rfl (by exact HXT.out) Tryz.size108 (all_oneCell_toArray (stL_one _)) ?_; generalize ((w1.alloc (.cells z24 108)).setCells w1.heap.size 0 (stL (beginTo p 4)).toArray.toList) = X at *))
 have HWX : Hid (Below W.heap.size W X) := hb1.trans (HXB.out.mono hb1.size)
 have HBX : Hid (Below w.heap.size w X) := HB0.out.trans (HWX.out.mono HB0.out.size)
 have pr : X.cell? ⟨w.heap.size, 0, none⟩ = some (.slice a p.length cap) := (HWX.out.cell (p := ⟨w.heap.size, 0, none⟩) (by have := HZ0.out; show w.heap.size < _; omega)).trans HC0.out
 have hr := range_of_all HX.out
 have hpw : ([] : List Res).length + 4 ^ (remS p (beginTo p 4) + 1) ≤ 1073741824 := by
  have h1 := rem_count p (beginTo p 4)
  have h2 : 4 ^ (remS p (beginTo p 4) + 1) ≤ 4 ^ 11 := Nat.pow_le_pow_right (by omega) (by omega)
  have h3 : (4 : Nat) ^ 11 = 4194304 := by decide
  simp only [List.length_nil]
  omega
 have hcall := gather_any p a cap lo hi (remS p (beginTo p 4) + 1) (beginTo p 4) [] none 0 w.heap.size X (HOK.out.below HBX.out HOK.out.size) (begin_ok p) (by omega) (World.ownsRow_nil _ _ _ _) HBX.out.size hpw
 have HCALL : Hid _ := hcall
 clear hcall HXT HX HXB hb1 hpw
 go_wp2_with (first | refine wpList_load_mid rfl 108 _ rfl w1.heap.size 0 rfl (stL (beginTo p 4)) _ hr Tryz.underlying108 rfl Tryz.size108 ?_)
 refine Calls.mono HCALL.out ?_
 clear HCALL pr hr
 rintro e w3 ⟨hb3, ba, bcap, rfl, ho3⟩
 have HO3 : Hid (w3.ownsRow w.heap.size 66 5 (.slice ba (outcomesOf p).length bcap) (outcomesOf p).length (resCells (outcomesOf p))) := ho3
 clear ho3
 go_wp2
 go_ret
 exact ⟨HBX.out.trans (hb3.mono HBX.out.size), ba, bcap, rfl, HO3.out⟩

attribute [local go_sem ↓] Go.wp_at_zero Go.wp_at_succ exec_load_state
attribute [local go_sem] ptrB isPtr0 aggL

theorem progOutcomes_any (p : List (List Pl.POp)) (lo hi b : Nat) (w : World) (hp : ProgIn w lo hi b p) (hs : Tiny p) (h10 : Pl.countShared p ≤ 10) (hh : hi ≤ w.heap.size) :
  Calls Tryz.prog 49 #[.pointer (some ⟨b, 0, none⟩)] w fun e w' => GatherSays w.heap.size (outcomesOf p) w e w' := by
 obtain ⟨a, cap, hbh, hc, hok⟩ := hp.ok hs hh
 have HOK : Hid _ := hok
 clear hok hp hs
 go_enter Tryz.func49, Tryz.ntmps49
 go_wp2_with fail
 refine (outcomes_any p a cap lo hi _ HOK.out h10).mono ?_
 rintro e w3 ⟨hb3, ba, bcap, rfl, ho3⟩
 have HO3 : Hid (w3.ownsRow w.heap.size 66 5 (.slice ba (outcomesOf p).length bcap) (outcomesOf p).length (resCells (outcomesOf p))) := ho3
 clear ho3
 go_wp2
 go_ret
 exact ⟨hb3, ba, bcap, rfl, HO3.out⟩

/-- What Check answers. -/
def CheckSays (q : Option (List Int × List Int)) (w : World) (e : Ending) (w' : World) : Prop :=
 Below w.heap.size w w' ∧ match q with
 | none => e = .returned (.agg #[.bool true, .slice none 0 0, .slice none 0 0])
 | some (sch, c) => c ≠ [] ∧ ∃ sa scap ca ccap, e = .returned (.agg #[.bool false, .slice sa sch.length scap, .slice (some ca) c.length ccap]) ∧ w'.ownsRow w.heap.size 3 1 (.slice sa sch.length scap) sch.length (intCells sch) ∧ w'.ownsRow w.heap.size 3 1 (.slice (some ca) c.length ccap) c.length (intCells c) ∧ ∀ g, (Value.slice sa sch.length scap).ownBlock = some g → (Value.slice (some ca) c.length ccap).ownBlock ≠ some g

theorem Tryz.size92 : (Tryz.prog.info? 92).map (·.size) = some 3 := by kernel_rfl

theorem progCheck_any (p : List (List Pl.POp)) (lo hi b : Nat) (w : World) (hp : ProgIn w lo hi b p) (hs : Tiny p) (hh : hi ≤ w.heap.size) :
  Calls Tryz.prog 48 #[.pointer (some ⟨b, 0, none⟩)] w fun e w' => CheckSays (checkOf p) w e w' := by
 have hqn := eq_nil
 obtain ⟨a, cap, hbh, hc, hok⟩ := hp.ok hs hh
 have HOK : Hid _ := hok
 clear hok hp hs
 go_enter Tryz.func48, Tryz.ntmps48
 go_upto_region 1 with fail
 have HB0 : Hid (Below w.heap.size w (w.alloc (.cells #[.bool false, .slice none 0 0, .slice none 0 0] 92))) := (Below.refl _ _).alloc (Nat.le_refl _) _
 have v0 : (w.alloc (.cells #[.bool false, .slice none 0 0, .slice none 0 0] 92)).cell? ⟨w.heap.size, 0, none⟩ = some (.bool false) := by simp
 have v1 : (w.alloc (.cells #[.bool false, .slice none 0 0, .slice none 0 0] 92)).cell? ⟨w.heap.size, 1, none⟩ = some (.slice none 0 0) := by simp
 have v2 : (w.alloc (.cells #[.bool false, .slice none 0 0, .slice none 0 0] 92)).cell? ⟨w.heap.size, 2, none⟩ = some (.slice none 0 0) := by simp
 have vf : ∀ j, (w.alloc (.cells #[.bool false, .slice none 0 0, .slice none 0 0] 92)).frozen? ⟨w.heap.size, j, none⟩ = false := fun j => World.frozen?_alloc_at _ _ _ _ rfl
 have hcW : (w.alloc (.cells #[.bool false, .slice none 0 0, .slice none 0 0] 92)).cell? ⟨b, 0, none⟩ = some (.slice a p.length cap) := alloc_cell hc _
 have HZ : Hid ((w.alloc (.cells #[.bool false, .slice none 0 0, .slice none 0 0] 92)).heap.size = w.heap.size + 1) := by show _ = _; simp
 generalize w.alloc (.cells #[.bool false, .slice none 0 0, .slice none 0 0] 92) = W at *
 clear hc
 go_wp2_with fail
 refine (knot_any p a cap lo hi _ (HOK.out.below HB0.out HOK.out.size)).mono ?_
 rintro e w1 hks
 have hb1 := hks.1
 have ltW : w.heap.size < W.heap.size := by have := HZ.out; omega
 have x0 := (hb1.cell (p := ⟨w.heap.size, 0, none⟩) ltW).trans v0
 have x1 := (hb1.cell (p := ⟨w.heap.size, 1, none⟩) ltW).trans v1
 have x2 := (hb1.cell (p := ⟨w.heap.size, 2, none⟩) ltW).trans v2
 have xf := fun j => (hb1.frozen (p := ⟨w.heap.size, j, none⟩) ltW).trans (vf j)
 have HB1 : Hid (Below w.heap.size w w1) := HB0.out.trans (hb1.mono HB0.out.size)
 clear v0 v1 v2 vf hcW hb1
 cases hq : checkOf p with
 | none =>
  rw [hq] at hks
  obtain ⟨-, rfl⟩ := hks
  have HQ : Hid _ := hq
  clear hq
  go_wp2
  refine bodyPost_ret (v := .agg #[.bool true, .slice none 0 0, .slice none 0 0]) (by simp [results, Tryz.results48, go_sem, x0, x1, x2]) rfl ⟨(((HB1.out.setCell (by simp) _).setCell (by simp) _).setCell (by simp) _), by rw [HQ.out]⟩
 | some x =>
  obtain ⟨sch, c⟩ := x
  rw [hq] at hks
  obtain ⟨-, hcn, sa, scap, ca, ccap, rfl, h1, h2, h3⟩ := hks
  have HQ : Hid _ := hq
  have HCN : Hid _ := hcn
  have HH1 : Hid (w1.ownsRow W.heap.size 3 1 (.slice sa sch.length scap) sch.length (intCells sch)) := h1
  have HH2 : Hid (w1.ownsRow W.heap.size 3 1 (.slice (some ca) c.length ccap) c.length (intCells c)) := h2
  have HH3 : Hid _ := h3
  clear hq hcn h1 h2 h3
  go_wp2
  refine bodyPost_ret (v := .agg #[.bool false, .slice sa sch.length scap, .slice (some ca) c.length ccap]) (by simp [results, Tryz.results48, go_sem, x0, x1, x2]) rfl ⟨(((HB1.out.setCell (by simp) _).setCell (by simp) _).setCell (by simp) _), ?_⟩
  rw [HQ.out]
  have hlo : w.heap.size + 1 ≤ W.heap.size := by have := HZ.out; omega
  have up : ∀ {v n xs}, w1.ownsRow W.heap.size 3 1 v n xs → ((((w1.setCell ⟨w.heap.size, 0, none⟩ (.bool false)).setCell ⟨w.heap.size, 1, none⟩ (.slice sa sch.length scap)).setCell ⟨w.heap.size, 2, none⟩ (.slice (some ca) c.length ccap)).ownsRow w.heap.size 3 1 v n xs) := fun {v n xs} h => ((ownsRow_in (ownsRow_setCell_below (ownsRow_setCell_below (ownsRow_setCell_below h (show w.heap.size < W.heap.size by omega) _) (show w.heap.size < W.heap.size by omega) _) (show w.heap.size < W.heap.size by omega) _)).mono (by omega) (Nat.le_refl _)).1
  exact ⟨HCN.out, sa, scap, ca, ccap, rfl, up HH1.out, up HH2.out, HH3.out⟩

end Go.Proofs.YtfdafcnfefbcbabGreat
