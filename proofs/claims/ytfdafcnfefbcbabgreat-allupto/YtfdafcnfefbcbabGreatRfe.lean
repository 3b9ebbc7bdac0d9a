/-
 Several texts of ours in one: RefCan, RefStepPl.
-/
import Derived.Test.YtfdafcnfefbcbabGreatRfa
import Derived.Test.YtfdafcnfefbcbabGreatHel
import Derived.Deep.QuietTactic
import Derived.BigQuiet
import Derived.Test.YtfdafcnfefbcbabGreatOrd
import Derived.Test.YtfdafcnfefbcbabGreatBas
import Derived.Test.YtfdafcnfefbcbabGreatRefOnA
import Derived.Deep.CutBlock
/-
 The contracts of the reference's there and Can.
-/
namespace Go.Proofs.YtfdafcnfefbcbabGreat
open Go.RowKit
set_option linter.unusedVariables false
set_option maxRecDepth 100000
set_option maxHeartbeats 2000000

/-- No thread stands beyond its row. -/
def PosOk (S : St) (p : List (List Pl.POp)) : Prop := ∀ n : Nat, n < 4 → (S.th n).pos ≤ (rowOf p n).length

theorem StOk.posOk {S : St} {p : List (List Pl.POp)} (h : StOk S p) : PosOk S p := fun n hn => (h n hn).pos

theorem stOp_nat {S : St} {p : List (List Pl.POp)} {n : Nat} (hn : n < 4) : stOp S p (n : Int) = opAt (S.th n) (rowOf p n) := by
 unfold stOp
 rw [if_neg (by omega)]
 rfl

theorem there_any {w : World} {b tb bY la tcap lcap : Nat} {p : List (List Pl.POp)} {S : St} (h : RR w b tb bY la tcap lcap p S) (hok : PosOk S p) (m : Int) :
  Calls Tryz.prog 37 #[.pointer (some ⟨b, 0, none⟩), .int .i64 m] w fun e w' => e = .returned (.bool (stOp S p m).isSome) ∧ Below w.heap.size w w' := by
 have H : Hid _ := h
 have c5 := h.ts
 have c0 := h.pp
 have y0 := h.y0
 by_cases hm0 : m < 0
 ·have hd : decide ((0 : Int) ≤ m) = false := by simp; omega
  have HV : Hid ((stOp S p m).isSome = false) := by show _ = _; unfold stOp; rw [if_pos (by omega)]; rfl
  clear hm0 h hok
  go_enter Tryz.func37, Tryz.ntmps37
  go_wp2_with fail
  go_quiet (fail)
  go_wp2
  go_ret
  exact ⟨by rw [HV.out]; rfl, below_drewN (Below.refl _ _) _⟩
 ·obtain ⟨n, rfl⟩ := Int.eq_ofNat_of_zero_le (show 0 ≤ m by omega)
  have hn0 : (0 : Int) ≤ (n : Int) := by omega
  by_cases hn : n < p.length
  ·have hn' : (n : Int) < (p.length : Int) := by omega
   have h4 := h.p4
   obtain ⟨s, l0, hs, hsz⟩ := h.ls n hn
   obtain ⟨a1, g1, f1⟩ := h.th n hn
   have hpos := hok n (by omega)
   have hle := offs_le (rowOf p (n : Int)) (S.th n).pos
   have hlen : (textOf (rowOf p (n : Int))).length = s.size := by rw [← hs]; exact bytesOf_length s
   have HV : Hid ((stOp S p (n : Int)).isSome = (opAt (S.th n) (rowOf p (n : Int))).isSome) := by show _ = _; rw [stOp_nat (by omega)]
   unfold atOf at a1
   cases hf : (S.th n).failed
   ·rw [hf] at a1
    simp only [Bool.false_eq_true, if_false] at a1
    have ha0 : (0 : Int) ≤ (offs (rowOf p (n : Int)) (S.th n).pos : Int) := by omega
    by_cases he : (S.th n).pos < (rowOf p (n : Int)).length
    ·have hl1 := offs_lt (List.getElem?_eq_getElem he)
     have hl2 := opSize_pos ((rowOf p (n : Int))[(S.th n).pos]).kind
     have hlt : (offs (rowOf p (n : Int)) (S.th n).pos : Int) < (s.size : Int) := by omega
     have HW : Hid ((opAt (S.th n) (rowOf p (n : Int))).isSome = true) := by show _ = _; unfold opAt; rw [hf]; simp [he]
     clear hf h hok hs hpos hle hlen he hl1 hl2
     go_enter Tryz.func37, Tryz.ntmps37
     go_wp2_with fail
     go_quiet (fail)
     go_wp2
     go_ret
     exact ⟨by rw [HV.out, HW.out]; rfl, below_drewN (Below.refl _ _) _⟩
    ·have hlt : decide ((offs (rowOf p (n : Int)) (S.th n).pos : Int) < (s.size : Int)) = false := by
      rw [offs_all _ _ (by omega), hlen]; simp
     have HW : Hid ((opAt (S.th n) (rowOf p (n : Int))).isSome = false) := by show _ = _; unfold opAt; rw [hf]; simp; omega
     have HLF : Hid (decide (offs (rowOf p (n : Int)) (S.th n).pos < s.size) = false) := by show _ = _; rw [offs_all _ _ (by omega), hlen]; simp
     clear hf h hok hs hpos hle hlen he
     go_enter Tryz.func37, Tryz.ntmps37
     go_wp2_with fail
     go_quiet (fail)
     go_wp2
     go_ret
     exact ⟨by rw [HV.out, HW.out]; exact congrArg (fun x => Ending.returned (Value.bool x)) HLF.out, below_drewN (Below.refl _ _) _⟩
   ·rw [hf] at a1
    simp only [if_true] at a1
    have HW : Hid ((opAt (S.th n) (rowOf p (n : Int))).isSome = false) := by show _ = _; unfold opAt; rw [hf]; rfl
    have hd1 : decide ((0 : Int) ≤ -1) = false := rfl
    clear hf h hok hs hpos hle hlen
    go_enter Tryz.func37, Tryz.ntmps37
    go_wp2_with fail
    go_quiet (fail)
    go_wp2
    go_ret
    exact ⟨by rw [HV.out, HW.out]; rfl, below_drewN (Below.refl _ _) _⟩
  ·have hd : decide ((n : Int) < (p.length : Int)) = false := by simp; omega
   have HV : Hid ((stOp S p (n : Int)).isSome = false) := by
    show _ = _
    unfold stOp
    split
    ·rfl
    ·rw [rowOf_past (by omega)]; unfold opAt; split <;> rfl
   clear h hok
   go_enter Tryz.func37, Tryz.ntmps37
   go_wp2_with fail
   go_quiet (fail)
   go_wp2
   go_ret
   exact ⟨by rw [HV.out]; rfl, below_drewN (Below.refl _ _) _⟩

theorem heldTo_mono {S : St} {l : Nat} {m : Int} {k : Nat} (h : heldTo S l m k = true) : ∀ j, heldTo S l m (k + j) = true
 | 0 => h
 | j + 1 => by
  show (heldTo S l m (k + j) || _) = true
  rw [heldTo_mono h j, Bool.true_or]

theorem heldTo_idle {S : St} {l : Nat} {m : Int} {k : Nat} : ∀ j, (∀ u, k ≤ u → u < k + j → S.th u = th0) → heldTo S l m (k + j) = heldTo S l m k
 | 0, _ => rfl
 | j + 1, h => by
  show (heldTo S l m (k + j) || (decide (((k + j : Nat) : Int) ≠ m) && decide (0 < (S.th (k + j)).held l))) = _
  rw [h (k + j) (by omega) (by omega), heldTo_idle j (fun u h1 h2 => h u h1 (by omega))]
  have : th0.held l = 0 := by unfold Th.held th0; split <;> rfl
  rw [this]; simp

theorem lock_name {o : Pl.POp} (h : OpOk o) (hk : o.kind = 108 ∨ o.kind = 117) : ∃ l, l < 2 ∧ o.name = 80 + l ∧ lockOf o.name = l := by
 rcases h with ⟨-, h2⟩ | h | h | h
 ·have hn : o.name = 80 ∨ o.name = 81 := by
   simp only [Pl.isName] at h2
   rcases hk with hk | hk <;> (rw [hk] at h2; simp at h2; exact h2)
  rcases hn with hn | hn
  ·exact ⟨0, by omega, by omega, by rw [hn]; rfl⟩
  ·exact ⟨1, by omega, by omega, by rw [hn]; rfl⟩
 all_goals omega

theorem can_any {w : World} {b tb bY la tcap lcap : Nat} {p : List (List Pl.POp)} {S : St} (h : RR w b tb bY la tcap lcap p S) (hok : PosOk S p) (hs : ∀ o m, stOp S p m = some o → Pl.isShared o.kind = true) (m : Int) :
  Calls Tryz.prog 35 #[.pointer (some ⟨b, 0, none⟩), .int .i64 m] w fun e w' => e = .returned (.bool (canStep S p m)) ∧ Below w.heap.size w w' := by
 have H : Hid (RR w b tb bY la tcap lcap p S) := h
 have HOK : Hid (PosOk S p) := hok
 cases hop : stOp S p m with
 | none =>
  have HV : Hid (canStep S p m = false) := by show _ = _; unfold canStep; rw [hop]
  have HN : Hid ((stOp S p m).isSome = false) := by show _ = _; rw [hop]; rfl
  clear h hok hs hop
  go_enter Tryz.func35, Tryz.ntmps35
  go_wp2_with fail
  refine (there_any H.out HOK.out m).mono ?_
  rintro e w1 ⟨rfl, hb1⟩
  rw [HN.out]
  go_wp2
  go_ret
  exact ⟨by rw [HV.out]; rfl, hb1⟩
 | some o =>
  obtain ⟨n, rfl, hn4, hopa⟩ := stOp_some hop
  have hnp : n < p.length := by
   rcases Nat.lt_or_ge n p.length with h1 | h1
   ·exact h1
   ·rw [rowOf_past h1] at hopa
    unfold opAt at hopa
    split at hopa <;> simp at hopa
  have hnf : (S.th n).failed = false := by
   unfold opAt at hopa
   split at hopa
   ·cases hopa
   ·rename_i h; simpa using h
  have hro : (rowOf p (n : Int))[(S.th n).pos]? = some o := by unfold opAt at hopa; rw [hnf] at hopa; exact hopa
  have HV : Hid (canStep S p (n : Int) = (o.kind != 108 || !heldTo S (lockOf o.name) (n : Int) 4)) := by show _ = _; unfold canStep; rw [hop]
  have HN : Hid ((stOp S p (n : Int)).isSome = true) := by show _ = _; rw [hop]; rfl
  obtain ⟨s, l0, hs1, hsz⟩ := h.ls n hnp
  have hlen : (textOf (rowOf p (n : Int))).length = s.size := by rw [← hs1]; exact bytesOf_length s
  have hA : atOf (rowOf p (n : Int)) (S.th n) = (offs (rowOf p (n : Int)) (S.th n).pos : Int) := by unfold atOf; rw [hnf]; rfl
  have hlt := offs_lt hro
  have hsp := opSize_pos o.kind
  have hosz : opSize o.kind = 2 := by unfold opSize; rw [shared_takes (hs o n hop)]; rfl
  have hbt : bytesOf (s.extract (offs (rowOf p (n : Int)) (S.th n).pos) s.size) = (textOf (rowOf p (n : Int))).drop (offs (rowOf p (n : Int)) (S.th n).pos) := by
   rw [bytesOf_extract, hs1, List.take_of_length_le (by simp; omega)]
  obtain ⟨hz0, hk0⟩ := byte_at (s := s.extract (offs (rowOf p (n : Int)) (S.th n).pos) s.size) (i := 0) (c := o.kind) (by rw [hbt, List.getElem?_drop]; exact text_kind hro)
  obtain ⟨hz1, hk1⟩ := byte_at (s := s.extract (offs (rowOf p (n : Int)) (S.th n).pos) s.size) (i := 1) (c := o.name) (by rw [hbt, List.getElem?_drop]; exact text_name hro (shared_takes (hs o n hop)))
  have HOO : Hid (OpOk o) := (h.rows n).ops o (List.mem_of_getElem? hro)
  have hn' : (n : Int) < (p.length : Int) := by omega
  have hn0 : (0 : Int) ≤ (n : Int) := by omega
  have hA0 : (0 : Int) ≤ (offs (rowOf p (n : Int)) (S.th n).pos : Int) := by omega
  have hAs : (offs (rowOf p (n : Int)) (S.th n).pos : Int) ≤ (s.size : Int) := by omega
  have HL0 : Hid (w.cell? ⟨la, n, none⟩ = some (.string s)) := l0
  have HTH : Hid (w.cell? ⟨tb, n * 2, none⟩ = some (.int .i64 (offs (rowOf p (n : Int)) (S.th n).pos : Int))) := by show _ = _; rw [← hA]; exact (h.th n hnp).a
  clear h hok hs hop hopa hnf hro hs1 hlen hA hlt hsp hosz hbt l0
  generalize offs (rowOf p (n : Int)) (S.th n).pos = A at *
  go_enter Tryz.func35, Tryz.ntmps35
  go_wp2_with fail
  refine (there_any H.out HOK.out n).mono ?_
  rintro e w1 ⟨rfl, hb1⟩
  rw [HN.out]
  have H1 : Hid (RR w1 b tb bY la tcap lcap p S) := H.out.below hb1
  have ltx := H.out.lt
  have l0 := (hb1.cell (p := ⟨la, n, none⟩) ltx.2.2.2).trans HL0.out
  have a1 := (hb1.cell (p := ⟨tb, n * 2, none⟩) ltx.2.1).trans HTH.out
  have c0 := H1.out.pp
  have c5 := H1.out.ts
  have y0 := H1.out.y0
  have HB1 : Hid _ := hb1
  clear hb1 ltx HL0 HTH
  go_upto_region 4 with fail
  go_quiet (fail)
  generalize s.extract A s.size = s2 at *
  have hb2 : Below w1.heap.size w1 (w1.drewN nq) := below_drewN (Below.refl _ _) _
  have H2 : Hid (RR (w1.drewN nq) b tb bY la tcap lcap p S) := H1.out.below hb2
  have HB2 : Hid (Below w.heap.size w (w1.drewN nq)) := HB1.out.trans (hb2.mono HB1.out.size)
  clear hb2 l0 a1 c0 c5 y0 H1 HB1
  generalize w1.drewN nq = w2 at *
  have hz0' : (0 : Int) < (s2.size : Int) := by omega
  have hz1' : (1 : Int) < (s2.size : Int) := by omega
  cases hk8 : ((o.kind : Int) != 108)
  ·have hkk : o.kind = 108 := by
    have : (o.kind : Int) = 108 := by simpa using hk8
    omega
   obtain ⟨l, hl2, hln, hlo⟩ := lock_name HOO.out (Or.inl hkk)
   rw [hln] at hk1
   have HVL : Hid (canStep S p (n : Int) = !heldTo S l (n : Int) 4) := by show _ = _; rw [HV.out, hlo, hkk]; simp
   have H44 : Hid (p.length ≤ 4) := H2.out.p4
   have hl0' : (0 : Int) ≤ (l : Int) := by omega
   have hl2' : (l : Int) < 2 := by omega
   have hlk : (80 + (l : Int)) - 80 = (l : Int) := by omega
   clear hk8 hln hlo
   go_wp2_with fail
   go_loopw [7] (fun v7 wr => ∃ u : Nat, u ≤ p.length ∧ v7 = .int .i64 (u : Int) ∧ Hid (Below w2.heap.size w2 wr ∧ heldTo S l (n : Int) u = false)) (fun v7 _ => p.length - (intOf v7).toNat)
   case atStart => exact ⟨0, Nat.zero_le _, rfl, (show Hid _ from ⟨Below.refl _ _, rfl⟩)⟩
   case round =>
    obtain ⟨u, hup, rfl, HU⟩ := hrel
    have H3 : Hid (RR wr b tb bY la tcap lcap p S) := H2.out.below HU.out.1
    have c5 := H3.out.ts
    by_cases hul : u < p.length
    ·have hul' : (u : Int) < (p.length : Int) := by omega
     have hu0 : (0 : Int) ≤ (u : Int) := by omega
     have hu4 : (u : Int) < 4 := by have := H44.out; omega
     have hh := H3.out.hd u l (by have := H44.out; omega) hl2
     have HST : Hid (heldTo S l (n : Int) (u + 1) = (decide ((u : Int) ≠ (n : Int)) && decide (0 < (S.th u).held l))) := by
      show (heldTo S l (n : Int) u || _) = _
      rw [HU.out.2, Bool.false_or]
     have hhz : (0 : Int) ≤ ((S.th u).held l : Int) := by omega
     cases hun : ((u : Int) != (n : Int))
     ·have HN1 : Hid (heldTo S l (n : Int) (u + 1) = false) := by
       show _ = _
       have : (u : Int) = (n : Int) := by simpa using hun
       rw [HST.out, this]; simp
      go_upto_region 10 with fail
      go_quiet (fail)
      go_wp2
      go_roundw
      case rel => exact ⟨u + 1, by omega, by go_num, (show Hid _ from ⟨below_drewN HU.out.1 _, HN1.out⟩)⟩
      case measure => simp [intOf]; omega
     ·by_cases hpos : 0 < (S.th u).held l
      ·have hpos' : (0 : Int) < ((S.th u).held l : Int) := by omega
       have HN1 : Hid (heldTo S l (n : Int) 4 = true) := by
        show _ = _
        have h1 : heldTo S l (n : Int) (u + 1) = true := by
         rw [HST.out]
         have : (u : Int) ≠ (n : Int) := by simpa using hun
         simp [this, hpos]
        have h2 := heldTo_mono h1 (4 - (u + 1))
        rwa [show u + 1 + (4 - (u + 1)) = 4 by have := H44.out; omega] at h2
       go_upto_region 10 with fail
       go_quiet (fail)
       go_wp2
       go_ret
       exact ⟨by rw [HVL.out, HN1.out]; rfl, HB2.out.trans ((below_drewN HU.out.1 _).mono HB2.out.size)⟩
      ·have hpos' : decide ((0 : Int) < ((S.th u).held l : Int)) = false := by simp; omega
       have HN1 : Hid (heldTo S l (n : Int) (u + 1) = false) := by
        show _ = _
        rw [HST.out]; simp [hpos]
       go_upto_region 10 with fail
       go_quiet (fail)
       go_wp2
       go_roundw
       case rel => exact ⟨u + 1, by omega, by go_num, (show Hid _ from ⟨below_drewN HU.out.1 _, HN1.out⟩)⟩
       case measure => simp [intOf]; omega
    ·have hue : u = p.length := by omega
     subst hue
     have HN1 : Hid (heldTo S l (n : Int) 4 = false) := by
      show _ = _
      have h2 := heldTo_idle (S := S) (l := l) (m := (n : Int)) (k := p.length) (4 - p.length) (fun u h1 h2 => H2.out.idle u h1 (by have := H44.out; omega))
      rw [show p.length + (4 - p.length) = 4 by have := H44.out; omega] at h2
      rw [h2]; exact HU.out.2
     go_wp2
     go_ret
     exact ⟨by rw [HVL.out, HN1.out]; rfl, HB2.out.trans (HU.out.1.mono HB2.out.size)⟩
  ·have HT : Hid (canStep S p (n : Int) = true) := by
    show _ = _
    have : (o.kind : Int) ≠ 108 := by simpa using hk8
    rw [HV.out, show (o.kind != 108) = true by simp; omega, Bool.true_or]
   go_wp2
   go_ret
   exact ⟨by rw [HT.out]; rfl, HB2.out⟩

/-- An event's places as they are made, and with what a step tells ahead of its doing. -/
abbrev evObj : Obj := .cells #[.int .i64 0, .int .u8 0, .int .u8 0, .int .i16 0, .int .i64 0, .int .i64 0] 59
abbrev evN (n : Nat) (o : Pl.POp) : Array Value := #[Value.int .i64 (n : Int), .int .u8 (o.kind : Int), .int .u8 (o.name : Int), .int .i16 0, .int .i64 o.block, .int .i64 0]

/-- The event's block while Step fills it. -/
structure EvAt (w : World) (e : Nat) (t : Int) (k n : Nat) (v : Int) (bk g : Int) : Prop where
 c0 : w.cell? ⟨e, 0, none⟩ = some (.int .i64 t)
 c1 : w.cell? ⟨e, 1, none⟩ = some (.int .u8 (k : Int))
 c2 : w.cell? ⟨e, 2, none⟩ = some (.int .u8 (n : Int))
 c3 : w.cell? ⟨e, 3, none⟩ = some (.int .i16 v)
 c4 : w.cell? ⟨e, 4, none⟩ = some (.int .i64 bk)
 c5 : w.cell? ⟨e, 5, none⟩ = some (.int .i64 g)
 f : ∀ j, w.frozen? ⟨e, j, none⟩ = false

theorem EvAt.far {w : World} {e : Nat} {t : Int} {k n : Nat} {v : Int} {bk g : Int} (h : EvAt w e t k n v bk g) {c : Nat} (hc : c ≠ e) (j : Nat) (x : Value) : EvAt (w.setCell ⟨c, j, none⟩ x) e t k n v bk g :=
 have far : ∀ i, (w.setCell ⟨c, j, none⟩ x).cell? ⟨e, i, none⟩ = w.cell? ⟨e, i, none⟩ := fun i => World.cell?_setCell_far _ _ _ _ hc
 ⟨(far 0).trans h.c0, (far 1).trans h.c1, (far 2).trans h.c2, (far 3).trans h.c3, (far 4).trans h.c4, (far 5).trans h.c5, fun i => by rw [World.frozen?_setCell]; exact h.f i⟩

theorem EvAt.putV {w : World} {e : Nat} {t : Int} {k n : Nat} {v : Int} {bk g : Int} (h : EvAt w e t k n v bk g) (x : Int) : EvAt (w.setCell ⟨e, 3, none⟩ (.int .i16 x)) e t k n x bk g := by
 have far : ∀ i, i ≠ 3 → (w.setCell ⟨e, 3, none⟩ (.int .i16 x)).cell? ⟨e, i, none⟩ = w.cell? ⟨e, i, none⟩ := fun i hi => World.cell?_setCell_other _ _ _ _ (fun e' => hi (by simpa using (congrArg Addr.off e').symm))
 exact ⟨(far 0 (by omega)).trans h.c0, (far 1 (by omega)).trans h.c1, (far 2 (by omega)).trans h.c2, World.cell?_setCell_same _ _ _ h.c3, (far 4 (by omega)).trans h.c4, (far 5 (by omega)).trans h.c5, fun i => by rw [World.frozen?_setCell]; exact h.f i⟩

theorem EvAt.drew {w : World} {e : Nat} {t : Int} {k n : Nat} {v : Int} {bk g : Int} (h : EvAt w e t k n v bk g) : EvAt w.drew e t k n v bk g := ⟨h.c0, h.c1, h.c2, h.c3, h.c4, h.c5, h.f⟩

theorem EvAt.kept {w w' : World} {b tb e : Nat} {t : Int} {k n : Nat} {v : Int} {bk g : Int} (h : EvAt w e t k n v bk g) (hk : Kept b tb w w') (h1 : e ≠ b) (h2 : e ≠ tb) : EvAt w' e t k n v bk g := by
 have hb := hk.block e (World.block_lt_of_cell? w ⟨e, 0, none⟩ h.c0) h1 h2
 have c : ∀ j, w'.cell? ⟨e, j, none⟩ = w.cell? ⟨e, j, none⟩ := fun j => World.cell?_of_block (w := w) hb
 exact ⟨(c 0).trans h.c0, (c 1).trans h.c1, (c 2).trans h.c2, (c 3).trans h.c3, (c 4).trans h.c4, (c 5).trans h.c5, fun j => (World.frozen?_of_block (w := w) hb).trans (h.f j)⟩

theorem Kept.belowTrans {b tb : Nat} {w w' w'' : World} (h : Kept b tb w w') (g : Below w.heap.size w' w'') : Kept b tb w w'' :=
 ⟨g.os.trans h.os, g.tape.trans h.tape, g.output.trans h.output, Nat.le_trans h.size g.size, fun k hk h1 h2 => (g.block k hk).trans (h.block k hk h1 h2)⟩

theorem EvAt.range {w : World} {e : Nat} {t : Int} {k n : Nat} {v : Int} {bk g : Int} (h : EvAt w e t k n v bk g) : w.rangeAt e 0 [.int .i64 t, .int .u8 (k : Int), .int .u8 (n : Int), .int .i16 v, .int .i64 bk, .int .i64 g] := fun j u hu => by
 have hj : j < 6 := by simpa using (List.getElem?_eq_some_iff.1 hu).1
 have : j = 0 ∨ j = 1 ∨ j = 2 ∨ j = 3 ∨ j = 4 ∨ j = 5 := by omega
 rw [Nat.zero_add]
 rcases this with rfl | rfl | rfl | rfl | rfl | rfl <;> (simp at hu; subst hu)
 ·exact h.c0
 ·exact h.c1
 ·exact h.c2
 ·exact h.c3
 ·exact h.c4
 ·exact h.c5

theorem EvAt.there {w : World} {e : Nat} {t : Int} {k n : Nat} {v : Int} {bk g : Int} (h : EvAt w e t k n v bk g) : w.there e 0 6 := fun j hj => by
 have : j = 0 ∨ j = 1 ∨ j = 2 ∨ j = 3 ∨ j = 4 ∨ j = 5 := by omega
 rw [Nat.zero_add]
 refine ⟨?_, h.f j⟩
 rcases this with rfl | rfl | rfl | rfl | rfl | rfl
 ·rw [h.c0]; rfl
 ·rw [h.c1]; rfl
 ·rw [h.c2]; rfl
 ·rw [h.c3]; rfl
 ·rw [h.c4]; rfl
 ·rw [h.c5]; rfl

theorem var_name {o : Pl.POp} (h : OpOk o) (hk : o.kind = 114 ∨ o.kind = 119) : ∃ v, v < 4 ∧ o.name = 97 + v ∧ varOf o.name = v := by
 rcases h with ⟨-, h2⟩ | h | h | h
 ·have hn : 97 ≤ o.name ∧ o.name ≤ 100 := by
   simp only [Pl.isName] at h2
   rcases hk with hk | hk <;> (rw [hk] at h2; simp at h2; exact h2)
  refine ⟨o.name - 97, by omega, by omega, ?_⟩
  have : o.name = 97 ∨ o.name = 98 ∨ o.name = 99 ∨ o.name = 100 := by omega
  rcases this with e | e | e | e <;> (rw [e]; rfl)
 all_goals omega

theorem setTh_twice (S : St) (n : Nat) (hn : n < 4) (u v : Th) : (S.setTh n u).setTh n v = S.setTh n v := by
 have : n = 0 ∨ n = 1 ∨ n = 2 ∨ n = 3 := by omega
 rcases this with rfl | rfl | rfl | rfl <;> rfl

theorem setVar_setTh (S : St) (n v : Nat) (hn : n < 4) (hv : v < 4) (u : Th) (x : Int) : (S.setTh n u).setVar v x = (S.setVar v x).setTh n u := by
 have h1 : n = 0 ∨ n = 1 ∨ n = 2 ∨ n = 3 := by omega
 have h2 : v = 0 ∨ v = 1 ∨ v = 2 ∨ v = 3 := by omega
 rcases h1 with rfl | rfl | rfl | rfl <;> rcases h2 with rfl | rfl | rfl | rfl <;> rfl

end Go.Proofs.YtfdafcnfefbcbabGreat
