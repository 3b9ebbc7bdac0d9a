/-
 The contract of the reference's Result.
-/
import Derived.Test.YtfdafcnfefbcbabGreatRfe
import Derived.Test.YtfdafcnfefbcbabGreatRfa
import Derived.Test.YtfdafcnfefbcbabGreatCal
namespace Go.Proofs.YtfdafcnfefbcbabGreat
open Go.RowKit
set_option linter.unusedVariables false
set_option maxRecDepth 100000
set_option maxHeartbeats 4000000

theorem waits_is (S : St) (p : List (List Pl.POp)) (m : Int) : waits S p m = ((stOp S p m).isSome && !canStep S p m) := by
 unfold waits canStep
 cases stOp S p m with
 | none => rfl
 | some o => cases h : o.kind == 108 <;> cases h2 : heldTo S (lockOf o.name) m 4 <;> simp [bne, h]

def anyTo (f : Nat → Bool) : Nat → Bool
 | 0 => false
 | k + 1 => anyTo f k || f k

def codeOf (o q f : Bool) : Nat := if o then 0 else if q then 3 else if f then 2 else 1

theorem end_codes (S : St) (p : List (List Pl.POp)) : ∀ (k n : Nat), anyTo (fun n => canStep S p (n : Int)) n = false →
  endFrom S p k n (codeOf false (anyTo (fun n => waits S p (n : Int)) n) (anyTo (fun n => (S.th n).failed) n)) = codeOf (anyTo (fun n => canStep S p (n : Int)) (n + k)) (anyTo (fun n => waits S p (n : Int)) (n + k)) (anyTo (fun n => (S.th n).failed) (n + k))
 | 0, n, h => by rw [Nat.add_zero, h]; rfl
 | k + 1, n, h => by
  rw [show n + (k + 1) = (n + 1) + k by omega]
  cases hc : canStep S p (n : Int)
  ·rw [endFrom_no hc, ← end_codes S p k (n + 1) (by show (anyTo (fun n => canStep S p (n : Int)) n || canStep S p (n : Int)) = false; rw [h, hc]; rfl)]
   congr 1
   show endOne S p n _ = codeOf false (anyTo (fun n => waits S p (n : Int)) n || waits S p (n : Int)) (anyTo (fun n => (S.th n).failed) n || (S.th n).failed)
   unfold endOne codeOf
   cases anyTo (fun n => waits S p (n : Int)) n <;> cases anyTo (fun n => (S.th n).failed) n <;> cases waits S p (n : Int) <;> cases (S.th n).failed <;> simp
  ·rw [endFrom_yes hc]
   have : ∀ j, anyTo (fun n => canStep S p (n : Int)) (n + 1 + j) = true := fun j => by
    induction j with
    | zero => show (anyTo (fun n => canStep S p (n : Int)) n || canStep S p (n : Int)) = true; rw [hc]; simp
    | succ j ih => show (anyTo (fun n => canStep S p (n : Int)) (n + 1 + j) || canStep S p ((n + 1 + j : Nat) : Int)) = true; rw [ih]; rfl
   rw [this]; rfl

theorem anyTo_past (f : Nat → Bool) (n : Nat) : ∀ j, (∀ i, n ≤ i → i < n + j → f i = false) → anyTo f (n + j) = anyTo f n
 | 0, _ => rfl
 | j + 1, h => by
  show (anyTo f (n + j) || f (n + j)) = _
  rw [anyTo_past f n j (fun i h1 h2 => h i h1 (by omega)), h (n + j) (by omega) (by omega), Bool.or_false]

theorem end_is {w : World} {b tb bY la tcap lcap : Nat} {p : List (List Pl.POp)} {S : St} (h : RR w b tb bY la tcap lcap p S) :
  endOf S p = codeOf (anyTo (fun n => canStep S p (n : Int)) p.length) (anyTo (fun n => waits S p (n : Int)) p.length) (anyTo (fun n => (S.th n).failed) p.length) := by
 have h4 := h.p4
 have e := end_codes S p 4 0 rfl
 have hs : ∀ i : Nat, p.length ≤ i → i < 4 → stOp S p (i : Int) = none := fun i h1 h2 => by
  rw [stOp_nat h2, rowOf_past h1]; unfold opAt; simp
 have e1 := anyTo_past (fun n => canStep S p (n : Int)) p.length (4 - p.length) (fun i h1 h2 => by show canStep S p (i : Int) = false; unfold canStep; rw [hs i h1 (by omega)])
 have e2 := anyTo_past (fun n => waits S p (n : Int)) p.length (4 - p.length) (fun i h1 h2 => by show waits S p (i : Int) = false; unfold waits; rw [hs i h1 (by omega)])
 have e3 := anyTo_past (fun n => (S.th n).failed) p.length (4 - p.length) (fun i h1 h2 => by show (S.th i).failed = false; rw [h.idle i h1 (by omega)]; rfl)
 rw [show p.length + (4 - p.length) = 0 + 4 by omega] at e1 e2 e3
 rw [e1, e2, e3] at e
 exact e

/-- A result in memory, k of its variables told. -/
structure R5 (w : World) (c : Nat) (e : Nat) (S : St) (k : Nat) : Prop where
 e0 : w.cell? ⟨c, 0, none⟩ = some (.int .u8 (e : Int))
 v : ∀ v, v < 4 → w.cell? ⟨c, 1 + v, none⟩ = some (.int .i16 (if v < k then S.var v else 0))
 f : ∀ j, w.frozen? ⟨c, j, none⟩ = false

/-- How Result stands. -/
structure RsAt (w wr : World) (b tb bY la tcap lcap : Nat) (p : List (List Pl.POp)) (S : St) (k : Nat) (o q f : Bool) : Prop where
 rr : RR wr b tb bY la tcap lcap p S
 bl : Below w.heap.size w wr
 r0 : R5 wr w.heap.size 0 S 0
 sz : w.heap.size < wr.heap.size
 eo : o = anyTo (fun n => canStep S p (n : Int)) k
 eq : q = anyTo (fun n => waits S p (n : Int)) k
 ef : f = anyTo (fun n => (S.th n).failed) k

theorem R5.below {w w' : World} {c e k : Nat} {S : St} {B : Nat} (h : R5 w c e S k) (hb : Below B w w') (hc : c < B) : R5 w' c e S k :=
 ⟨(hb.cell (p := ⟨c, 0, none⟩) hc).trans h.e0, fun v hv => (hb.cell (p := ⟨c, 1 + v, none⟩) hc).trans (h.v v hv), fun j => (hb.frozen (p := ⟨c, j, none⟩) hc).trans (h.f j)⟩

theorem R5.put {w : World} {c e k : Nat} {S : St} (h : R5 w c e S k) (hk : k < 4) : R5 (w.setCell ⟨c, 1 + k, none⟩ (.int .i16 (S.var k))) c e S (k + 1) := by
 refine ⟨(World.cell?_setCell_other _ _ _ _ (fun e => by have := congrArg Addr.off e; simp at this)).trans h.e0, fun v hv => ?_, fun j => by rw [World.frozen?_setCell]; exact h.f j⟩
 by_cases e : v = k
 ·subst e
  rw [World.cell?_setCell_same _ _ _ (h.v v hv), if_pos (by omega)]
 ·rw [World.cell?_setCell_other _ _ _ _ (fun e' => by have := congrArg Addr.off e'; simp at this; omega), h.v v hv]
  by_cases h1 : v < k
  ·rw [if_pos h1, if_pos (by omega)]
  ·rw [if_neg h1, if_neg (by omega)]

theorem R5.end {w : World} {c e : Nat} {S : St} (h : R5 w c e S 0) (e' : Nat) : R5 (w.setCell ⟨c, 0, none⟩ (.int .u8 (e' : Int))) c e' S 0 :=
 ⟨World.cell?_setCell_same _ _ _ h.e0, fun v hv => (World.cell?_setCell_other _ _ _ _ (fun e => by have := congrArg Addr.off e; simp at this; omega)).trans (h.v v hv), fun j => by rw [World.frozen?_setCell]; exact h.f j⟩

theorem R5.far {w : World} {c e k d : Nat} {S : St} (h : R5 w c e S k) (hd : d ≠ c) (j : Nat) (v : Value) : R5 (w.setCell ⟨d, j, none⟩ v) c e S k :=
 ⟨(World.cell?_setCell_far _ _ _ _ hd).trans h.e0, fun v hv => (World.cell?_setCell_far _ _ _ _ hd).trans (h.v v hv), fun j => by rw [World.frozen?_setCell]; exact h.f j⟩

/-- How Result stands behind its first loop. -/
structure TlAt (w wr : World) (b tb bY la tcap lcap : Nat) (p : List (List Pl.POp)) (S : St) (c e k : Nat) : Prop where
 rr : RR wr b tb bY la tcap lcap p S
 bl : Below w.heap.size w wr
 r0 : R5 wr w.heap.size 0 S 0
 r1 : R5 wr c e S k
 c0 : w.heap.size < c
 c1 : c < wr.heap.size
 ap : c ≠ b ∧ c ≠ tb ∧ c ≠ bY ∧ c ≠ la

theorem TlAt.end {w wr : World} {b tb bY la tcap lcap : Nat} {p : List (List Pl.POp)} {S : St} {c e : Nat} (h : TlAt w wr b tb bY la tcap lcap p S c e 0) (e' : Nat) : TlAt w (wr.setCell ⟨c, 0, none⟩ (.int .u8 (e' : Int))) b tb bY la tcap lcap p S c e' 0 :=
 ⟨h.rr.far h.ap _ _, h.bl.setCell (Nat.le_of_lt h.c0) _, h.r0.far (by have := h.c0; omega) _ _, h.r1.end e', h.c0, by rw [World.size_setCell]; exact h.c1, h.ap⟩

theorem TlAt.put {w wr : World} {b tb bY la tcap lcap : Nat} {p : List (List Pl.POp)} {S : St} {c e k : Nat} (h : TlAt w wr b tb bY la tcap lcap p S c e k) (hk : k < 4) : TlAt w (wr.setCell ⟨c, 1 + k, none⟩ (.int .i16 (S.var k))) b tb bY la tcap lcap p S c e (k + 1) :=
 ⟨h.rr.far h.ap _ _, h.bl.setCell (Nat.le_of_lt h.c0) _, h.r0.far (by have := h.c0; omega) _ _, h.r1.put hk, h.c0, by rw [World.size_setCell]; exact h.c1, h.ap⟩

theorem refResult_any {w : World} {b tb bY la tcap lcap : Nat} {p : List (List Pl.POp)} {S : St} (h : RR w b tb bY la tcap lcap p S) (hok : StOk S p) :
  Calls Tryz.prog 17 #[.pointer (some ⟨b, 0, none⟩)] w fun e w' => e = .returned (resV (endOf S p) (S.var 0) (S.var 1) (S.var 2) (S.var 3)) ∧ Below w.heap.size w w' := by
 have H : Hid (RR w b tb bY la tcap lcap p S) := h
 have HOK : Hid (StOk S p) := hok
 have HST : Hid (∀ o m, stOp S p m = some o → Pl.isShared o.kind = true) := fun o m hm => by
  obtain ⟨n, rfl, hn, ho⟩ := stOp_some hm
  exact (hok n hn).stands o ho
 have h4 := h.p4
 clear h hok
 go_enter Tryz.func17, Tryz.ntmps17
 go_upto_region 1 with fail
 have HB : Hid (Below w.heap.size w (w.alloc (.cells #[.int .u8 0, .int .i16 0, .int .i16 0, .int .i16 0, .int .i16 0] 66))) := (Below.refl _ _).alloc (Nat.le_refl _) _
 have H5 : Hid (R5 (w.alloc (.cells #[.int .u8 0, .int .i16 0, .int .i16 0, .int .i16 0, .int .i16 0] 66)) w.heap.size 0 S 0) := by
  refine ⟨by simp, fun v hv => ?_, fun j => World.frozen?_alloc_at _ _ _ _ (by simp)⟩
  have : v = 0 ∨ v = 1 ∨ v = 2 ∨ v = 3 := by omega
  rcases this with rfl | rfl | rfl | rfl <;> simp
 have HR0 : Hid (RR (w.alloc (.cells #[.int .u8 0, .int .i16 0, .int .i16 0, .int .i16 0, .int .i16 0] 66)) b tb bY la tcap lcap p S) := H.out.new _
 have HZ : Hid ((w.alloc (.cells #[.int .u8 0, .int .i16 0, .int .i16 0, .int .i16 0, .int .i16 0] 66)).heap.size = w.heap.size + 1) := by show _ = _; simp
 generalize (w.alloc (.cells #[.int .u8 0, .int .i16 0, .int .i16 0, .int .i16 0, .int .i16 0] 66)) = W at *
 go_wp2_with fail
 go_loopw [3, 4, 5, 6] (fun v3 v4 v5 v6 wr => ∃ (k : Nat) (o q f : Bool), k ≤ p.length ∧ v6 = .int .i64 (k : Int) ∧ v3 = .bool o ∧ v4 = .bool q ∧ v5 = .bool f ∧ Hid (RsAt w wr b tb bY la tcap lcap p S k o q f)) (fun _ _ _ v6 _ => p.length - (intOf v6).toNat)
 case atStart => exact ⟨0, false, false, false, Nat.zero_le _, rfl, rfl, rfl, rfl, (show Hid _ from ⟨HR0.out, HB.out, H5.out, by have := HZ.out; omega, rfl, rfl, rfl⟩)⟩
 case round =>
  obtain ⟨k, o, q, f, hk, rfl, rfl, rfl, rfl, HH⟩ := hrel
  have c5 := HH.out.rr.ts
  by_cases hlt : k < p.length
  ·have hlt' : (k : Int) < (p.length : Int) := by omega
   go_wp2_with fail
   refine (can_any HH.out.rr HOK.out.posOk HST.out k).mono ?_
   rintro e w2 ⟨rfl, hb2⟩
   have HR2 : Hid (RR w2 b tb bY la tcap lcap p S) := HH.out.rr.below hb2
   have HB2 : Hid (Below wr.heap.size wr w2) := hb2
   clear hb2 c5
   go_wp2_with fail
   refine (there_any HR2.out HOK.out.posOk k).mono ?_
   rintro e w3 ⟨rfl, hb3⟩
   have HR3 : Hid (RR w3 b tb bY la tcap lcap p S) := HR2.out.below hb3
   have HB3 : Hid (Below wr.heap.size wr w3) := HB2.out.trans (hb3.mono HB2.out.size)
   have HN : Hid (RsAt w w3 b tb bY la tcap lcap p S (k + 1) (o || canStep S p (k : Int)) (q || ((stOp S p (k : Int)).isSome && !canStep S p (k : Int))) (f || (S.th k).failed)) :=
    ⟨HR3.out, HH.out.bl.trans (HB3.out.mono HH.out.bl.size), HH.out.r0.below HB3.out HH.out.sz, Nat.lt_of_lt_of_le HH.out.sz HB3.out.size, by rw [HH.out.eo]; rfl, by rw [HH.out.eq, ← waits_is]; rfl, by rw [HH.out.ef]; rfl⟩
   have c5 := HR3.out.ts
   obtain ⟨a1, g1, f1⟩ := HR3.out.th k hlt
   have HA : Hid (decide (atOf (rowOf p k) (S.th k) < 0) = (S.th k).failed) := by
    show _ = _
    unfold atOf
    cases (S.th k).failed <;> simp
   clear hb3 g1 f1
   generalize canStep S p (k : Int) = cn at *
   generalize (stOp S p (k : Int)).isSome = th at *
   generalize atOf (rowOf p k) (S.th k) = x at *
   generalize (S.th k).failed = fl at *
   cases o <;> cases cn <;> cases q <;> cases th <;> cases f
   all_goals
    go_wp2
    go_roundw
    case rel => exact ⟨k + 1, _, _, _, by omega, by go_num, rfl, rfl, (by first | rfl | (rw [HA.out]; rfl)), HN⟩
    case measure => simp [intOf]; omega
  ·have e : k = p.length := by omega
   subst e
   have HE : Hid (endOf S p = codeOf o q f) := by
    show _ = _
    rw [end_is HH.out.rr, ← HH.out.eo, ← HH.out.eq, ← HH.out.ef]
   go_upto_region 13 with fail
   have HV : Hid (TlAt w (wr.alloc (.cells #[.int .u8 1, .int .i16 0, .int .i16 0, .int .i16 0, .int .i16 0] 66)) b tb bY la tcap lcap p S wr.heap.size 1 0) := by
    have hlt := HH.out.rr.lt
    have hsz := HH.out.sz
    refine ⟨HH.out.rr.new _, HH.out.bl.alloc (by omega) _, HH.out.r0.below ((Below.refl wr.heap.size _).alloc (Nat.le_refl _) _) hsz, ⟨by simp, fun v hv => ?_, fun j => World.frozen?_alloc_at _ _ _ _ (by simp)⟩, hsz, by simp, by omega⟩
    have : v = 0 ∨ v = 1 ∨ v = 2 ∨ v = 3 := by omega
    rcases this with rfl | rfl | rfl | rfl <;> simp
   generalize (wr.alloc (.cells #[.int .u8 1, .int .i16 0, .int .i16 0, .int .i16 0, .int .i16 0] 66)) = V at *
   generalize wr.heap.size = c at *
   have r0 := HV.out.r1.e0
   have rf := HV.out.r1.f
   clear HH hk c5 hlt
   cases o
   ·cases q
    ·cases f
     ·go_upto_region 19 with fail
      have HX : Hid (TlAt w V b tb bY la tcap lcap p S c 1 0) := HV.out
      have HD : Hid (endOf S p = 1) := HE.out
      clear HE HV r0 rf
      generalize V = X at *
      go_wp2
      go_loopw [10] (fun t' wr => ∃ k : Nat, k ≤ 4 ∧ t' = .int .i64 (k : Int) ∧ Hid (TlAt w wr b tb bY la tcap lcap p S c 1 k)) (fun t' _ => 4 - (intOf t').toNat)
      case atStart => exact ⟨0, by omega, rfl, HX⟩
      case round =>
       obtain ⟨k, hk, rfl, HH⟩ := hrel
       by_cases hlt : k < 4
       ·have q0 : (0 : Int) ≤ (k : Int) := by omega
        have q1 : (k : Int) < 4 := by omega
        have v1 := HH.out.rr.vr k hlt
        have x1 := HH.out.r1.v k hlt
        have xf := HH.out.r1.f
        have h16 : IntKind.i16.wrap (S.var k) = S.var k := wrap16_id (HH.out.rr.sm.var k)
        go_wp2
        go_roundw
        case rel => exact ⟨k + 1, by omega, by go_num, HH.out.put hlt⟩
        case measure => simp [intOf]; omega
       ·have e4 : k = 4 := by omega
        subst e4
        have y0 := HH.out.r1.e0
        have y1 := HH.out.r1.v 0 (by omega)
        have y2 := HH.out.r1.v 1 (by omega)
        have y3 := HH.out.r1.v 2 (by omega)
        have y4 := HH.out.r1.v 3 (by omega)
        have z0 := HH.out.r0.e0
        have z1 := HH.out.r0.v 0 (by omega)
        have z2 := HH.out.r0.v 1 (by omega)
        have z3 := HH.out.r0.v 2 (by omega)
        have z4 := HH.out.r0.v 3 (by omega)
        have zf := HH.out.r0.f
        simp only [Nat.reduceAdd, Nat.reduceLT, if_true, if_false] at y1 y2 y3 y4 z1 z2 z3 z4
        go_wp2
        rw [HD.out]
        refine bodyPost_ret (v := resV 1 (S.var 0) (S.var 1) (S.var 2) (S.var 3)) (ret_one Tryz.results17 _ (put5 wr w.heap.size (.int .u8 1) (.int .i16 (S.var 0)) (.int .i16 (S.var 1)) (.int .i16 (S.var 2)) (.int .i16 (S.var 3))) w.heap.size _ _ rfl (put5_range _ _ _ _ _ z0 z1 z2 z3 z4) Tryz.underlying66 rfl Tryz.size66) rfl ⟨rfl, put5_below HH.out.bl (Nat.le_refl _) _ _ _ _ _⟩
     ·go_upto_region 19 with fail
      have HX : Hid (TlAt w (V.setCell ⟨c, 0, none⟩ (.int .u8 2)) b tb bY la tcap lcap p S c 2 0) := HV.out.end 2
      have HD : Hid (endOf S p = 2) := HE.out
      clear HE HV r0 rf
      generalize (V.setCell ⟨c, 0, none⟩ (.int .u8 2)) = X at *
      go_wp2
      go_loopw [10] (fun t' wr => ∃ k : Nat, k ≤ 4 ∧ t' = .int .i64 (k : Int) ∧ Hid (TlAt w wr b tb bY la tcap lcap p S c 2 k)) (fun t' _ => 4 - (intOf t').toNat)
      case atStart => exact ⟨0, by omega, rfl, HX⟩
      case round =>
       obtain ⟨k, hk, rfl, HH⟩ := hrel
       by_cases hlt : k < 4
       ·have q0 : (0 : Int) ≤ (k : Int) := by omega
        have q1 : (k : Int) < 4 := by omega
        have v1 := HH.out.rr.vr k hlt
        have x1 := HH.out.r1.v k hlt
        have xf := HH.out.r1.f
        have h16 : IntKind.i16.wrap (S.var k) = S.var k := wrap16_id (HH.out.rr.sm.var k)
        go_wp2
        go_roundw
        case rel => exact ⟨k + 1, by omega, by go_num, HH.out.put hlt⟩
        case measure => simp [intOf]; omega
       ·have e4 : k = 4 := by omega
        subst e4
        have y0 := HH.out.r1.e0
        have y1 := HH.out.r1.v 0 (by omega)
        have y2 := HH.out.r1.v 1 (by omega)
        have y3 := HH.out.r1.v 2 (by omega)
        have y4 := HH.out.r1.v 3 (by omega)
        have z0 := HH.out.r0.e0
        have z1 := HH.out.r0.v 0 (by omega)
        have z2 := HH.out.r0.v 1 (by omega)
        have z3 := HH.out.r0.v 2 (by omega)
        have z4 := HH.out.r0.v 3 (by omega)
        have zf := HH.out.r0.f
        simp only [Nat.reduceAdd, Nat.reduceLT, if_true, if_false] at y1 y2 y3 y4 z1 z2 z3 z4
        go_wp2
        rw [HD.out]
        refine bodyPost_ret (v := resV 2 (S.var 0) (S.var 1) (S.var 2) (S.var 3)) (ret_one Tryz.results17 _ (put5 wr w.heap.size (.int .u8 2) (.int .i16 (S.var 0)) (.int .i16 (S.var 1)) (.int .i16 (S.var 2)) (.int .i16 (S.var 3))) w.heap.size _ _ rfl (put5_range _ _ _ _ _ z0 z1 z2 z3 z4) Tryz.underlying66 rfl Tryz.size66) rfl ⟨rfl, put5_below HH.out.bl (Nat.le_refl _) _ _ _ _ _⟩
    ·go_upto_region 19 with fail
     have HX : Hid (TlAt w (V.setCell ⟨c, 0, none⟩ (.int .u8 3)) b tb bY la tcap lcap p S c 3 0) := HV.out.end 3
     have HD : Hid (endOf S p = 3) := HE.out
     clear HE HV r0 rf
     generalize (V.setCell ⟨c, 0, none⟩ (.int .u8 3)) = X at *
     go_wp2
     go_loopw [10] (fun t' wr => ∃ k : Nat, k ≤ 4 ∧ t' = .int .i64 (k : Int) ∧ Hid (TlAt w wr b tb bY la tcap lcap p S c 3 k)) (fun t' _ => 4 - (intOf t').toNat)
     case atStart => exact ⟨0, by omega, rfl, HX⟩
     case round =>
      obtain ⟨k, hk, rfl, HH⟩ := hrel
      by_cases hlt : k < 4
      ·have q0 : (0 : Int) ≤ (k : Int) := by omega
       have q1 : (k : Int) < 4 := by omega
       have v1 := HH.out.rr.vr k hlt
       have x1 := HH.out.r1.v k hlt
       have xf := HH.out.r1.f
       have h16 : IntKind.i16.wrap (S.var k) = S.var k := wrap16_id (HH.out.rr.sm.var k)
       go_wp2
       go_roundw
       case rel => exact ⟨k + 1, by omega, by go_num, HH.out.put hlt⟩
       case measure => simp [intOf]; omega
      ·have e4 : k = 4 := by omega
       subst e4
       have y0 := HH.out.r1.e0
       have y1 := HH.out.r1.v 0 (by omega)
       have y2 := HH.out.r1.v 1 (by omega)
       have y3 := HH.out.r1.v 2 (by omega)
       have y4 := HH.out.r1.v 3 (by omega)
       have z0 := HH.out.r0.e0
       have z1 := HH.out.r0.v 0 (by omega)
       have z2 := HH.out.r0.v 1 (by omega)
       have z3 := HH.out.r0.v 2 (by omega)
       have z4 := HH.out.r0.v 3 (by omega)
       have zf := HH.out.r0.f
       simp only [Nat.reduceAdd, Nat.reduceLT, if_true, if_false] at y1 y2 y3 y4 z1 z2 z3 z4
       go_wp2
       rw [HD.out]
       refine bodyPost_ret (v := resV 3 (S.var 0) (S.var 1) (S.var 2) (S.var 3)) (ret_one Tryz.results17 _ (put5 wr w.heap.size (.int .u8 3) (.int .i16 (S.var 0)) (.int .i16 (S.var 1)) (.int .i16 (S.var 2)) (.int .i16 (S.var 3))) w.heap.size _ _ rfl (put5_range _ _ _ _ _ z0 z1 z2 z3 z4) Tryz.underlying66 rfl Tryz.size66) rfl ⟨rfl, put5_below HH.out.bl (Nat.le_refl _) _ _ _ _ _⟩
   ·go_upto_region 19 with fail
    have HX : Hid (TlAt w (V.setCell ⟨c, 0, none⟩ (.int .u8 0)) b tb bY la tcap lcap p S c 0 0) := HV.out.end 0
    have HD : Hid (endOf S p = 0) := HE.out
    clear HE HV r0 rf
    generalize (V.setCell ⟨c, 0, none⟩ (.int .u8 0)) = X at *
    go_wp2
    go_loopw [10] (fun t' wr => ∃ k : Nat, k ≤ 4 ∧ t' = .int .i64 (k : Int) ∧ Hid (TlAt w wr b tb bY la tcap lcap p S c 0 k)) (fun t' _ => 4 - (intOf t').toNat)
    case atStart => exact ⟨0, by omega, rfl, HX⟩
    case round =>
     obtain ⟨k, hk, rfl, HH⟩ := hrel
     by_cases hlt : k < 4
     ·have q0 : (0 : Int) ≤ (k : Int) := by omega
      have q1 : (k : Int) < 4 := by omega
      have v1 := HH.out.rr.vr k hlt
      have x1 := HH.out.r1.v k hlt
      have xf := HH.out.r1.f
      have h16 : IntKind.i16.wrap (S.var k) = S.var k := wrap16_id (HH.out.rr.sm.var k)
      go_wp2
      go_roundw
      case rel => exact ⟨k + 1, by omega, by go_num, HH.out.put hlt⟩
      case measure => simp [intOf]; omega
     ·have e4 : k = 4 := by omega
      subst e4
      have y0 := HH.out.r1.e0
      have y1 := HH.out.r1.v 0 (by omega)
      have y2 := HH.out.r1.v 1 (by omega)
      have y3 := HH.out.r1.v 2 (by omega)
      have y4 := HH.out.r1.v 3 (by omega)
      have z0 := HH.out.r0.e0
      have z1 := HH.out.r0.v 0 (by omega)
      have z2 := HH.out.r0.v 1 (by omega)
      have z3 := HH.out.r0.v 2 (by omega)
      have z4 := HH.out.r0.v 3 (by omega)
      have zf := HH.out.r0.f
      simp only [Nat.reduceAdd, Nat.reduceLT, if_true, if_false] at y1 y2 y3 y4 z1 z2 z3 z4
      go_wp2
      rw [HD.out]
      refine bodyPost_ret (v := resV 0 (S.var 0) (S.var 1) (S.var 2) (S.var 3)) (ret_one Tryz.results17 _ (put5 wr w.heap.size (.int .u8 0) (.int .i16 (S.var 0)) (.int .i16 (S.var 1)) (.int .i16 (S.var 2)) (.int .i16 (S.var 3))) w.heap.size _ _ rfl (put5_range _ _ _ _ _ z0 z1 z2 z3 z4) Tryz.underlying66 rfl Tryz.size66) rfl ⟨rfl, put5_below HH.out.bl (Nat.le_refl _) _ _ _ _ _⟩

end Go.Proofs.YtfdafcnfefbcbabGreat
