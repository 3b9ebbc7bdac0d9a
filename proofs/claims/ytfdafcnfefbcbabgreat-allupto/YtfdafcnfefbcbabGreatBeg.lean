/-
 Several texts of ours in one: Begin, Inv.
-/
import Derived.Test.YtfdafcnfefbcbabGreatStp
import Derived.Test.YtfdafcnfefbcbabGreatStep2
/-
 The contract of Begin.
-/
namespace Go.Proofs.YtfdafcnfefbcbabGreat
open Go.RowKit
set_option linter.unusedVariables false
set_option maxRecDepth 100000
set_option maxHeartbeats 2000000

/-- The beginning's threads, up to number k. -/
def beginTo (p : List (List Pl.POp)) : Nat → St
 | 0 => st0
 | k + 1 => (beginTo p k).setTh k (settle (rowOf p k) ((rowOf p k).length + 1) th0)

theorem beginTo_th (p : List (List Pl.POp)) : ∀ k j, k ≤ j → (j < 4) → (beginTo p k).th j = th0
 | 0, j, _, hj => by
  have : j = 0 ∨ j = 1 ∨ j = 2 ∨ j = 3 := by omega
  rcases this with rfl | rfl | rfl | rfl <;> rfl
 | k + 1, j, h, hj => by
  have ih := beginTo_th p k j (by omega) hj
  have : j = 0 ∨ j = 1 ∨ j = 2 ∨ j = 3 := by omega
  have hk : k = 0 ∨ k = 1 ∨ k = 2 := by omega
  unfold beginTo
  rcases hk with rfl | rfl | rfl <;> rcases this with rfl | rfl | rfl | rfl <;> first | omega | exact ih

/-- How Begin stands ahead of thread k. -/
def BeginAt (p : List (List Pl.POp)) (v : Value) (w wr : World) (b k : Nat) : Prop :=
 (∀ j, wr.cell? ⟨b, j, none⟩ = (stL (beginTo p k))[j]?) ∧ (∀ j, wr.frozen? ⟨b, j, none⟩ = false) ∧ wr.cell? ⟨w.heap.size, 0, none⟩ = some v ∧ (∀ j, wr.cell? ⟨w.heap.size + 1, j, none⟩ = (stL st0)[j]?) ∧ (∀ j, wr.frozen? ⟨w.heap.size + 1, j, none⟩ = false) ∧ Below w.heap.size w wr ∧ b < wr.heap.size

theorem settled_zero (r : List Pl.POp) (a : Option Addr) (cap lo hi : Nat) (w : World) (hr : RowIn w lo hi a cap r) (hh : hi ≤ w.heap.size) (hl : r.length ≤ 1000) (hby : Bytes r) :
  Calls Tryz.prog 77 #[.agg #[.int .i64 0, .bool false, .int .i16 0, .int .i64 0, .int .i64 0], .slice a r.length cap] w
   fun e w' => e = .returned (thV (settle r (r.length + 1) th0)) ∧ Below w.heap.size w w' := settled_any th0 r a cap lo hi w hr hh hl (by decide) hby

theorem begin_any (p : List (List Pl.POp)) (a : Option Addr) (cap lo hi : Nat) (w : World) (hp : ProgOk w lo hi a cap p) :
  Calls Tryz.prog 54 #[.agg #[.slice a p.length cap]] w
   fun e w' => e = .returned (.agg (stL (beginTo p 4)).toArray) ∧ Below w.heap.size w w' := by
 have HP : Hid (ProgOk w lo hi a cap p) := hp
 clear hp
 go_enter Tryz.func54, Tryz.ntmps54
 go_upto_region 1 with fail
 have hw0 : ((w.alloc (.cells #[.slice a p.length cap] 71)).alloc (.cells #[.int .i16 0, .int .i16 0, .int .i16 0, .int .i16 0, .int .i64 0, .bool false, .int .i16 0, .int .i64 0, .int .i64 0, .int .i64 0, .bool false, .int .i16 0, .int .i64 0, .int .i64 0, .int .i64 0, .bool false, .int .i16 0, .int .i64 0, .int .i64 0, .int .i64 0, .bool false, .int .i16 0, .int .i64 0, .int .i64 0] 108)).cell? ⟨w.heap.size, 0, none⟩ = some (.slice a p.length cap) := by
  show ((w.alloc (.cells #[.slice a p.length cap] 71)).alloc (.cells (stL st0).toArray 108)).cell? ⟨w.heap.size, 0, none⟩ = _
  rw [World.cell?_alloc_past _ _ _ (by simp)]; simp
 have hwr : ∀ j, ((w.alloc (.cells #[.slice a p.length cap] 71)).alloc (.cells #[.int .i16 0, .int .i16 0, .int .i16 0, .int .i16 0, .int .i64 0, .bool false, .int .i16 0, .int .i64 0, .int .i64 0, .int .i64 0, .bool false, .int .i16 0, .int .i64 0, .int .i64 0, .int .i64 0, .bool false, .int .i16 0, .int .i64 0, .int .i64 0, .int .i64 0, .bool false, .int .i16 0, .int .i64 0, .int .i64 0] 108)).cell? ⟨w.heap.size + 1, j, none⟩ = (stL st0)[j]? := fun j => by
  have := box_cell (w.alloc (.cells #[.slice a p.length cap] 71)) st0 j
  rw [World.size_alloc] at this
  exact this
 have hwf : ∀ j, ((w.alloc (.cells #[.slice a p.length cap] 71)).alloc (.cells #[.int .i16 0, .int .i16 0, .int .i16 0, .int .i16 0, .int .i64 0, .bool false, .int .i16 0, .int .i64 0, .int .i64 0, .int .i64 0, .bool false, .int .i16 0, .int .i64 0, .int .i64 0, .int .i64 0, .bool false, .int .i16 0, .int .i64 0, .int .i64 0, .int .i64 0, .bool false, .int .i16 0, .int .i64 0, .int .i64 0] 108)).frozen? ⟨w.heap.size + 1, j, none⟩ = false := fun j => by
  show ((w.alloc (.cells #[.slice a p.length cap] 71)).alloc (.cells (stL st0).toArray 108)).frozen? _ = _
  rw [World.frozen?_alloc_at _ _ _ _ (by simp)]
 have hwz : ((w.alloc (.cells #[.slice a p.length cap] 71)).alloc (.cells #[.int .i16 0, .int .i16 0, .int .i16 0, .int .i16 0, .int .i64 0, .bool false, .int .i16 0, .int .i64 0, .int .i64 0, .int .i64 0, .bool false, .int .i16 0, .int .i64 0, .int .i64 0, .int .i64 0, .bool false, .int .i16 0, .int .i64 0, .int .i64 0, .int .i64 0, .bool false, .int .i16 0, .int .i64 0, .int .i64 0] 108)).heap.size = w.heap.size + 2 := by simp
 have hwb : Below w.heap.size w ((w.alloc (.cells #[.slice a p.length cap] 71)).alloc (.cells #[.int .i16 0, .int .i16 0, .int .i16 0, .int .i16 0, .int .i64 0, .bool false, .int .i16 0, .int .i64 0, .int .i64 0, .int .i64 0, .bool false, .int .i16 0, .int .i64 0, .int .i64 0, .int .i64 0, .bool false, .int .i16 0, .int .i64 0, .int .i64 0, .int .i64 0, .bool false, .int .i16 0, .int .i64 0, .int .i64 0] 108)) := two_new w _ _
 generalize ((w.alloc (.cells #[.slice a p.length cap] 71)).alloc (.cells #[.int .i16 0, .int .i16 0, .int .i16 0, .int .i16 0, .int .i64 0, .bool false, .int .i16 0, .int .i64 0, .int .i64 0, .int .i64 0, .bool false, .int .i16 0, .int .i64 0, .int .i64 0, .int .i64 0, .bool false, .int .i16 0, .int .i64 0, .int .i64 0, .int .i64 0, .bool false, .int .i16 0, .int .i64 0, .int .i64 0] 108)) = W at *
 have hXt : (W.alloc (.cells #[.int .i16 0, .int .i16 0, .int .i16 0, .int .i16 0, .int .i64 0, .bool false, .int .i16 0, .int .i64 0, .int .i64 0, .int .i64 0, .bool false, .int .i16 0, .int .i64 0, .int .i64 0, .int .i64 0, .bool false, .int .i16 0, .int .i64 0, .int .i64 0, .int .i64 0, .bool false, .int .i16 0, .int .i64 0, .int .i64 0] 108)).there W.heap.size 0 (stL st0).toArray.size := new_there W
 have HX : Hid (∀ j, ((W.alloc (.cells #[.int .i16 0, .int .i16 0, .int .i16 0, .int .i16 0, .int .i64 0, .bool false, .int .i16 0, .int .i64 0, .int .i64 0, .int .i64 0, .bool false, .int .i16 0, .int .i64 0, .int .i64 0, .int .i64 0, .bool false, .int .i16 0, .int .i64 0, .int .i64 0, .int .i64 0, .bool false, .int .i16 0, .int .i64 0, .int .i64 0] 108)).setCells W.heap.size 0 (stL st0).toArray.toList).cell? ⟨W.heap.size, j, none⟩ = (stL st0)[j]?) := new_all W st0
 have HXF : Hid (∀ j, ((W.alloc (.cells #[.int .i16 0, .int .i16 0, .int .i16 0, .int .i16 0, .int .i64 0, .bool false, .int .i16 0, .int .i64 0, .int .i64 0, .int .i64 0, .bool false, .int .i16 0, .int .i64 0, .int .i64 0, .int .i64 0, .bool false, .int .i16 0, .int .i64 0, .int .i64 0, .int .i64 0, .bool false, .int .i16 0, .int .i64 0, .int .i64 0] 108)).setCells W.heap.size 0 (stL st0).toArray.toList).frozen? ⟨W.heap.size, j, none⟩ = false) := new_frozen W st0
 have HXB : Hid (Below W.heap.size W ((W.alloc (.cells #[.int .i16 0, .int .i16 0, .int .i16 0, .int .i16 0, .int .i64 0, .bool false, .int .i16 0, .int .i64 0, .int .i64 0, .int .i64 0, .bool false, .int .i16 0, .int .i64 0, .int .i64 0, .int .i64 0, .bool false, .int .i16 0, .int .i64 0, .int .i64 0, .int .i64 0, .bool false, .int .i16 0, .int .i64 0, .int .i64 0] 108)).setCells W.heap.size 0 (stL st0).toArray.toList)) := new_below W st0
 have HXZ : Hid (((W.alloc (.cells #[.int .i16 0, .int .i16 0, .int .i16 0, .int .i16 0, .int .i64 0, .bool false, .int .i16 0, .int .i64 0, .int .i64 0, .int .i64 0, .bool false, .int .i16 0, .int .i64 0, .int .i64 0, .int .i64 0, .bool false, .int .i16 0, .int .i64 0, .int .i64 0, .int .i64 0, .bool false, .int .i16 0, .int .i64 0, .int .i64 0] 108)).setCells W.heap.size 0 (stL st0).toArray.toList).heap.size = W.heap.size + 1) := by show _ = _; rw [size_setCells]; simp
 have HXT : Hid _ := hXt
 have HWZ : Hid _ := hwz
 have HWR : Hid _ := hwr
 have HWF : Hid _ := hwf
 clear hXt hwr hwf hwz
 go_upto_region 2 with (first | (refine wpList_store_mid rfl 108 _ _ rfl W.heap.size 0 (stL st0).toArray rfl rfl (by exact HXT.out) Tryz.size108 (all_oneCell_toArray (stL_one _)) ?_; generalize ((W.alloc (.cells #[.int .i16 0, .int .i16 0, .int .i16 0, .int .i16 0, .int .i64 0, .bool false, .int .i16 0, .int .i64 0, .int .i64 0, .int .i64 0, .bool false, .int .i16 0, .int .i64 0, .int .i64 0, .int .i64 0, .bool false, .int .i16 0, .int .i64 0, .int .i64 0, .int .i64 0, .bool false, .int .i16 0, .int .i64 0, .int .i64 0] 108)).setCells W.heap.size 0 (stL st0).toArray.toList) = X at *))
 go_wp2
 go_loopw [7] (fun t' wr => ∃ k : Nat, k ≤ 4 ∧ t' = .int .i64 (k : Int) ∧ Hid (BeginAt p (.slice a p.length cap) w wr W.heap.size k)) (fun t' _ => 4 - (intOf t').toNat)
 case atStart =>
  refine ⟨0, by omega, rfl, HX.out, HXF.out, (HXB.out.cell (p := ⟨w.heap.size, 0, none⟩) (show w.heap.size < W.heap.size by have := HWZ.out; omega)).trans hw0, all_below HWR.out HXB.out (by have := HWZ.out; omega), fun j => (HXB.out.frozen (p := ⟨w.heap.size + 1, j, none⟩) (show w.heap.size + 1 < W.heap.size by have := HWZ.out; omega)).trans (HWF.out j), hwb.trans (HXB.out.mono hwb.size), by have := HXZ.out; omega⟩
 case round =>
  obtain ⟨k, hk, rfl, HH⟩ := hrel
  obtain ⟨bs, bf, bp, br, brf, bb, bz⟩ := HH.out
  have hz2 : w.heap.size + 1 < W.heap.size := by have := HWZ.out; omega
  by_cases hlt : k < 4
  ·have q0 : (0 : Int) ≤ (k : Int) := by omega
   have q1 : (k : Int) < 4 := by omega
   have hth := beginTo_th p k k (Nat.le_refl _) hlt
   go_wp2_with fail
   refine (thread_any p a cap lo hi k _ (HP.out.below bb HP.out.size).rows (HP.out.below bb HP.out.size).size HP.out.few).mono ?_
   rintro e w1 ⟨⟨rb, rc, rfl, hrow⟩, hb1⟩
   have a1 := all_below bs hb1 bz
   have f1 := fun j => (hb1.frozen (p := ⟨W.heap.size, j, none⟩) bz).trans (bf j)
   obtain ⟨y0, y1, y2, y3, y4⟩ := stL_th (beginTo p k) k hlt
   rw [hth] at y0 y1 y2 y3 y4
   have x0 : w1.cell? ⟨W.heap.size, 4 + k * 5, none⟩ = some (.int .i64 0) := (a1 _).trans y0
   have x1 : w1.cell? ⟨W.heap.size, 4 + k * 5 + 1, none⟩ = some (.bool false) := (a1 _).trans y1
   have x2 : w1.cell? ⟨W.heap.size, 4 + k * 5 + 2, none⟩ = some (.int .i16 0) := (a1 _).trans y2
   have x3 : w1.cell? ⟨W.heap.size, 4 + k * 5 + 3, none⟩ = some (.int .i64 0) := (a1 _).trans y3
   have x4 : w1.cell? ⟨W.heap.size, 4 + k * 5 + 4, none⟩ = some (.int .i64 0) := (a1 _).trans y4
   have A1 : Hid _ := a1
   have HROW : Hid (RowIn w1 lo hi rb rc (rowOf p k)) := hrow
   clear y0 y1 y2 y3 y4 a1 hrow hth bs br
   go_wp2_with fail
   refine (settled_zero (rowOf p k) rb rc lo hi _ HROW.out (by have := HP.out.size; have := bb.size; have := hb1.size; omega) (HP.out.row k).1 (HP.out.row k).2).mono ?_
   rintro e w2 ⟨rfl, hb2⟩
   have HB2 : Hid (Below wr.heap.size wr w2) := hb1.trans (hb2.mono hb1.size)
   obtain ⟨bs, bf, bp, br, brf, bb, bz⟩ := HH.out
   have A2 : Hid _ := all_below bs HB2.out bz
   have f2 := fun j => (HB2.out.frozen (p := ⟨W.heap.size, j, none⟩) bz).trans (bf j)
   have hu : Hid (beginTo p (k + 1) = (beginTo p k).setTh k (settle (rowOf p k) ((rowOf p k).length + 1) th0)) := rfl
   obtain ⟨y0, y1, y2, y3, y4⟩ := stL_th (beginTo p k) k hlt
   have z0 := (A2.out _).trans y0
   have z1 := (A2.out _).trans y1
   have z2 := (A2.out _).trans y2
   have z3 := (A2.out _).trans y3
   have z4 := (A2.out _).trans y4
   clear y0 y1 y2 y3 y4 x0 x1 x2 x3 x4 bs br
   generalize settle (rowOf p k) ((rowOf p k).length + 1) th0 = u at *
   unfold thV
   go_wp2
   go_roundw
   case rel =>
    refine ⟨k + 1, by omega, by go_num, ?_⟩
    have h2 := all_set A2.out (4 + k * 5) (by rw [stL_length]; omega) (.int .i64 (u.pos : Int))
    have h3 := all_set h2 (4 + k * 5 + 1) (by rw [List.length_set, stL_length]; omega) (.bool u.failed)
    have h4 := all_set h3 (4 + k * 5 + 2) (by simp only [List.length_set, stL_length]; omega) (.int .i16 u.reg)
    have h5 := all_set h4 (4 + k * 5 + 3) (by simp only [List.length_set, stL_length]; omega) (.int .i64 (u.h0 : Int))
    have h6 := all_set h5 (4 + k * 5 + 4) (by simp only [List.length_set, stL_length]; omega) (.int .i64 (u.h1 : Int))
    rw [stL_setTh (beginTo p k) k hlt u, ← hu.out] at h6
    obtain ⟨bs, bf, bp, br, brf, bb, bz⟩ := HH.out
    have zz := HB2.out.size
    refine ⟨h6, fun j => by simp only [World.frozen?_setCell]; exact f2 j, ?_, ?_, fun j => ?_, ?_, by simp; omega⟩
    ·have := (HB2.out.cell (p := ⟨w.heap.size, 0, none⟩) (show w.heap.size < wr.heap.size by omega)).trans bp
     rw [World.cell?_setCell_other (h := by first | (simp; done) | (simp; omega)), World.cell?_setCell_other (h := by first | (simp; done) | (simp; omega)), World.cell?_setCell_other (h := by first | (simp; done) | (simp; omega)), World.cell?_setCell_other (h := by first | (simp; done) | (simp; omega)), World.cell?_setCell_other (h := by first | (simp; done) | (simp; omega))]; exact this
    ·exact all_other (all_other (all_other (all_other (all_other (all_below br HB2.out (by omega)) _ (by simp; omega) _) _ (by simp; omega) _) _ (by simp; omega) _) _ (by simp; omega) _) _ (by simp; omega) _
    ·simp only [World.frozen?_setCell]; exact (HB2.out.frozen (p := ⟨w.heap.size + 1, j, none⟩) (show w.heap.size + 1 < wr.heap.size by omega)).trans (brf j)
    ·exact (((((bb.trans (HB2.out.mono bb.size)).setCell (by simp; omega) _).setCell (by simp; omega) _).setCell (by simp; omega) _).setCell (by simp; omega) _).setCell (by simp; omega) _
   case measure => simp [intOf]; omega
  ·have e : k = 4 := by omega
   subst e
   have hrg := range_of_all bs
   have hth : wr.there (w.heap.size + 1) 0 (stL (beginTo p 4)).toArray.size := fun j hj => by
    have hj' : j < 24 := by simpa [stL_length] using hj
    rw [Nat.zero_add, br j, List.getElem?_eq_getElem (by rw [stL_length]; exact hj')]; exact ⟨rfl, brf j⟩
   clear bs br
   go_wp2_with (first | refine wpList_load_mid rfl 108 _ rfl W.heap.size 0 rfl (stL (beginTo p 4)) _ hrg Tryz.underlying108 rfl Tryz.size108 ?_ | refine wpList_store_mid rfl 108 _ _ rfl (w.heap.size + 1) 0 (stL (beginTo p 4)).toArray rfl rfl hth Tryz.size108 (all_oneCell_toArray (stL_one _)) ?_)
   refine bodyPost_ret (v := .agg (stL (beginTo p 4)).toArray) (ret_state1 Tryz.results54 _ _ (w.heap.size + 1) _ rfl (World.rangeAt_setCells_same _ _ _ _ (by simpa using hth))) rfl ⟨rfl, ?_⟩
   exact below_setCells _ (by omega) _ _ _ bb

/-- A thread between steps: its place lies in its row, it holds no more than it has gone, and it stands at a shared operation or at none. -/
structure ThOk (r : List Pl.POp) (t : Th) : Prop where
 pos : t.pos ≤ r.length
 holds : t.h0 + t.h1 ≤ t.pos
 stands : ∀ o, opAt t r = some o → Pl.isShared o.kind = true

def StOk (S : St) (p : List (List Pl.POp)) : Prop := ∀ n : Nat, n < 4 → ThOk (rowOf p n) (S.th n)

theorem ownStep_holds (t : Th) (r : List Pl.POp) (o : Pl.POp) : (ownStep t r o).h0 = t.h0 ∧ (ownStep t r o).h1 = t.h1 := by
 unfold ownStep
 repeat' split
 all_goals exact ⟨rfl, rfl⟩

theorem settle_ok (r : List Pl.POp) : ∀ (k : Nat) (t : Th), t.pos ≤ r.length → t.h0 + t.h1 ≤ t.pos → r.length + 1 - t.pos ≤ k → ThOk r (settle r k t)
 | 0, t, h1, _, h3 => by omega
 | k + 1, t, h1, h2, h3 => by
  cases h : opAt t r with
  | none => rw [settle_none h]; exact ⟨h1, h2, fun o ho => by rw [h] at ho; cases ho⟩
  | some o =>
   cases hs : Pl.isShared o.kind with
   | true => rw [settle_shared h hs]; exact ⟨h1, h2, fun o' ho => by rw [h] at ho; cases ho; exact hs⟩
   | false =>
    rw [settle_own h hs]
    have hp := ownStep_pos (o := o) (opAt_lt h).1
    have hh := ownStep_holds t r o
    exact settle_ok r k _ hp.2 (by omega) (by omega)

theorem th_setTh (S : St) (n : Nat) (t : Th) (hn : n < 4) (m : Nat) (hm : m < 4) : (S.setTh n t).th m = if m = n then t else S.th m := by
 have h1 : n = 0 ∨ n = 1 ∨ n = 2 ∨ n = 3 := by omega
 have h2 : m = 0 ∨ m = 1 ∨ m = 2 ∨ m = 3 := by omega
 rcases h1 with rfl | rfl | rfl | rfl <;> rcases h2 with rfl | rfl | rfl | rfl <;> rfl
theorem th_setVar (S : St) (v : Nat) (x : Int) (m : Nat) : (S.setVar v x).th m = S.th m := by
 unfold St.setVar
 split <;> (unfold St.th; split <;> rfl)

theorem held_le (t : Th) (l : Nat) (hl : l = 0 ∨ l = 1) (x : Nat) : (t.withHeld l x).pos = t.pos ∧ (t.withHeld l x).failed = t.failed ∧ (t.withHeld l x).h0 + (t.withHeld l x).h1 + t.held l = t.h0 + t.h1 + x := by
 rcases hl with rfl | rfl <;> simp [Th.withHeld, Th.held] <;> omega

theorem shared_th (S : St) (n : Nat) (o : Pl.POp) (hn : n < 4) : ((shared S n o).1.th n).pos = (S.th n).pos ∧ ((shared S n o).1.th n).h0 + ((shared S n o).1.th n).h1 ≤ (S.th n).h0 + (S.th n).h1 + 1 ∧ ∀ m, m < 4 → m ≠ n → (shared S n o).1.th m = S.th m := by
 have hl := lockOf_two o.name
 unfold shared
 split
 ·simp only [th_setTh _ _ _ hn _ hn, if_true]
  exact ⟨trivial, by omega, fun m hm hne => by rw [th_setTh _ _ _ hn _ hm, if_neg hne]⟩
 split
 ·simp only [th_setTh _ _ _ hn _ hn, if_true]
  exact ⟨trivial, by omega, fun m hm hne => by rw [th_setTh _ _ _ hn _ hm, if_neg hne, th_setVar]⟩
 split
 ·simp only [th_setTh _ _ _ hn _ hn, if_true]
  have := held_le (S.th n) _ hl ((S.th n).held (lockOf o.name) + 1)
  exact ⟨this.1, by omega, fun m hm hne => by rw [th_setTh _ _ _ hn _ hm, if_neg hne]⟩
 split
 ·simp only [th_setTh _ _ _ hn _ hn, if_true]
  have := held_le (S.th n) _ hl ((S.th n).held (lockOf o.name) - 1)
  exact ⟨this.1, by omega, fun m hm hne => by rw [th_setTh _ _ _ hn _ hm, if_neg hne]⟩
 ·simp only [th_setTh _ _ _ hn _ hn, if_true]
  exact ⟨trivial, by omega, fun m hm hne => by rw [th_setTh _ _ _ hn _ hm, if_neg hne]⟩

/-- The thread behind its step, and the state. -/
def goneTo (p : List (List Pl.POp)) (n : Nat) (S1 : St) : St :=
 S1.setTh n (settle (rowOf p n) ((rowOf p n).length + 1) ⟨(S1.th n).pos + 1, (S1.th n).failed, (S1.th n).reg, (S1.th n).h0, (S1.th n).h1⟩)

/-- A step of thread m: none if it cannot. -/
def step (S : St) (p : List (List Pl.POp)) (m : Int) : Option (St × Ev) :=
 match stOp S p m with
 | none => none
 | some o => if canStep S p m then some (goneTo p m.toNat (shared S m.toNat o).1, ⟨m, o.kind, o.name, (shared S m.toNat o).2, o.block, 0⟩) else none

theorem stOp_some {S : St} {p : List (List Pl.POp)} {m : Int} {o : Pl.POp} (h : stOp S p m = some o) : ∃ n : Nat, m = (n : Int) ∧ n < 4 ∧ opAt (S.th n) (rowOf p n) = some o := by
 unfold stOp at h
 split at h
 ·cases h
 ·refine ⟨m.toNat, by omega, by omega, ?_⟩
  rw [show ((m.toNat : Nat) : Int) = m by omega]; exact h

theorem step_ok {S S' : St} {p : List (List Pl.POp)} {m : Int} {e : Ev} (hS : StOk S p) (h : step S p m = some (S', e)) : StOk S' p := by
 unfold step at h
 split at h
 ·cases h
 ·rename_i o ho
  split at h
  ·obtain ⟨n, rfl, hn, hop⟩ := stOp_some ho
   simp only [Option.some.injEq, Prod.mk.injEq] at h
   obtain ⟨rfl, -⟩ := h
   intro j hj
   have ht := shared_th S n o hn
   have hk := hS n hn
   have hlt := (opAt_lt hop).1
   unfold goneTo
   simp only [Int.toNat_natCast]
   rw [th_setTh _ _ _ hn _ hj]
   by_cases hjn : j = n
   ·subst hjn
    rw [if_pos rfl]
    have := hk.holds
    exact settle_ok _ _ _ (by simp only; omega) (by simp only; omega) (by simp only; omega)
   ·rw [if_neg hjn, ht.2.2 j hj hjn]; exact hS j hj
  ·cases h

theorem begin_ok (p : List (List Pl.POp)) : StOk (beginTo p 4) p := by
 intro n hn
 have e : (beginTo p 4).th n = settle (rowOf p n) ((rowOf p n).length + 1) th0 := by
  have h2 : n = 0 ∨ n = 1 ∨ n = 2 ∨ n = 3 := by omega
  rcases h2 with rfl | rfl | rfl | rfl <;> rfl
 rw [e]
 exact settle_ok _ _ _ (Nat.zero_le _) (Nat.le_refl _) (by simp [th0])

def stepV (x : Option (St × Ev)) : Value := match x with
 | none => .tuple #[.agg (stL st0).toArray, evZ, .bool false]
 | some (S', e) => .tuple #[.agg (stL S').toArray, .agg e.cells.toArray, .bool true]

theorem step_any (S : St) (p : List (List Pl.POp)) (a : Option Addr) (cap lo hi : Nat) (m : Int) (w : World) (hp : ProgOk w lo hi a cap p) (hS : StOk S p) :
  Calls Tryz.prog 55 #[.agg (stL S).toArray, .agg #[.slice a p.length cap], .int .i64 m] w
   fun e w' => e = .returned (stepV (step S p m)) ∧ Below w.heap.size w w' := by
 unfold step
 cases ho : stOp S p m with
 | none =>
  have hc : canStep S p m = false := by unfold canStep; rw [ho]
  exact step_no S p a cap lo hi m w hp hc
 | some o =>
  obtain ⟨n, rfl, hn, hop⟩ := stOp_some ho
  cases hc : canStep S p (n : Int) with
  | false => simp only [Bool.false_eq_true, if_false]; exact step_no S p a cap lo hi _ w hp hc
  | true =>
   simp only [if_true, Int.toNat_natCast]
   have hk := hS n hn
   have ht := shared_th S n o hn
   have hlt := (opAt_lt hop).1
   have hle := (hp.row n).1
   have := hk.holds
   have hpos := hk.pos
   exact step_yes S p a cap lo hi n o w hp hn hc ho (hk.stands o hop) ⟨by omega, by omega⟩ (shared S n o).1 (shared S n o).2 rfl (by have := ht.1; omega) _ rfl

end Go.Proofs.YtfdafcnfefbcbabGreat
