/-
 The contract of behindShared, the other kinds.
-/
import Derived.Test.YtfdafcnfefbcbabGreatShared
namespace Go.Proofs.YtfdafcnfefbcbabGreat
open Go.RowKit
set_option linter.unusedVariables false
set_option maxRecDepth 100000
set_option maxHeartbeats 4000000
attribute [local go_sem ↓] Go.wp_at_zero Go.wp_at_succ

theorem ShAt.hold {W : World} {b0 b1 b2 b3 : Nat} {S : St} {o : Pl.POp} {t : Th} (h : ShAt W b0 b1 b2 b3 S o t) (l : Nat) (hl : l = 0 ∨ l = 1) (h0 : b3 ≠ b0) (h1 : b3 ≠ b1) (h2 : b3 ≠ b2) (x : Nat) (v : Int) (hv : v = (x : Int)) (u : Th)
  (hu : u = ⟨t.pos, t.failed, t.reg, if l = 0 then x else t.h0, if l = 0 then t.h1 else x⟩) : ShAt (W.setCell ⟨b3, 3 + l, none⟩ (.int .i64 v)) b0 b1 b2 b3 S o u := by
 subst hv
 subst hu
 obtain ⟨s, o0, o1, o2, r, t0, t1, t2, t3, t4, f0, f2, f3⟩ := h
 refine ⟨all_other s _ h0 _, ?_, ?_, ?_, all_other r _ h2 _, ?_, ?_, ?_, ?_, ?_, ?_, ?_, ?_⟩
 all_goals rcases hl with rfl | rfl
 all_goals first
  | (intro j; simp only [World.frozen?_setCell]; first | exact f0 j | exact f2 j | exact f3 j)
  | (simp [World.cell?_setCell_other, World.cell?_setCell_same', *])

theorem ShAt.setVar {W : World} {b0 b1 b2 b3 : Nat} {S : St} {o : Pl.POp} {t : Th} (h : ShAt W b0 b1 b2 b3 S o t) (v : Nat) (hv : v < 4) (h1 : b0 ≠ b1) (h2 : b0 ≠ b2) (h3 : b0 ≠ b3) (x : Int) :
  ShAt (W.setCell ⟨b0, v, none⟩ (.int .i16 x)) b0 b1 b2 b3 (S.setVar v x) o t := by
 obtain ⟨s, o0, o1, o2, r, t0, t1, t2, t3, t4, f0, f2, f3⟩ := h
 refine ⟨by rw [← stL_setVar S v hv]; exact all_set s v (by rw [stL_length]; omega) _, ?_, ?_, ?_, all_other r _ h2 _, ?_, ?_, ?_, ?_, ?_, ?_, ?_, ?_⟩
 all_goals first
  | (intro j; simp only [World.frozen?_setCell]; first | exact f0 j | exact f2 j | exact f3 j)
  | (simp [World.cell?_setCell_other, *])

theorem ShAt.fail {W : World} {b0 b1 b2 b3 : Nat} {S : St} {o : Pl.POp} {t : Th} (h : ShAt W b0 b1 b2 b3 S o t) (h0 : b3 ≠ b0) (h1 : b3 ≠ b1) (h2 : b3 ≠ b2) (u : Th)
  (hu : u = ⟨t.pos, true, t.reg, t.h0, t.h1⟩) : ShAt (W.setCell ⟨b3, 1, none⟩ (.bool true)) b0 b1 b2 b3 S o u := by
 subst hu
 obtain ⟨s, o0, o1, o2, r, t0, t1, t2, t3, t4, f0, f2, f3⟩ := h
 refine ⟨all_other s _ h0 _, ?_, ?_, ?_, all_other r _ h2 _, ?_, ?_, ?_, ?_, ?_, ?_, ?_, ?_⟩
 all_goals first
  | (intro j; simp only [World.frozen?_setCell]; first | exact f0 j | exact f2 j | exact f3 j)
  | (simp [World.cell?_setCell_other, World.cell?_setCell_same', *])

theorem behindShared_lock0 (S : St) (n : Nat) (o : Pl.POp) (u : Th) (w : World) (hn : n < 4) (hk : o.kind = 108) (hl : lockOf o.name = 0) (hh : (S.th n).h0 ≤ 1000) (hu : u = ⟨(S.th n).pos, (S.th n).failed, (S.th n).reg, (S.th n).h0 + 1, (S.th n).h1⟩) :
  Calls Tryz.prog 80 #[.agg (stL S).toArray, .int .i64 (n : Int), .agg #[.int .u8 (o.kind : Int), .int .u8 (o.name : Int), .int .i64 o.block]] w
   fun e w' => e = .returned (.tuple #[.agg (stL (S.setTh n u)).toArray, .int .i16 ((u.h0 : Int))]) ∧ Below w.heap.size w w' := by
 have k114 : ((o.kind : Int) == 114) = false := by simp; omega
 have k119 : ((o.kind : Int) == 119) = false := by simp; omega
 have k108 : ((o.kind : Int) == 108) = true := by simp; omega
 clear hk
 have q0 : (0 : Int) ≤ (n : Int) := by omega
 have q1 : (n : Int) < 4 := by omega
 go_enter Tryz.func80, Tryz.ntmps80
 go_upto_region 1 with fail
 have hsh := shW_at w S o (S.th n)
 have hbw := fun x => shW_below w S o x
 have hz := shW_size w S o
 change Code.wp _ _ _ _ (shW w S o)
 have x : ∀ j, (shW w S o).cell? ⟨w.heap.size, j, none⟩ = (stL S)[j]? := fun j => by
  have := hsh.s j
  rwa [World.cell?_alloc_past _ _ _ (by omega)] at this
 obtain ⟨y0, y1, y2, y3, y4⟩ := stL_th S n hn
 have x0 := (x _).trans y0
 have x1 := (x _).trans y1
 have x2 := (x _).trans y2
 have x3 := (x _).trans y3
 have x4 := (x _).trans y4
 clear x y0 y1 y2 y3 y4
 generalize shW w S o = W at *
 go_upto_region 3 with fail
 have hbW := hbw (.cells #[.int .i64 ((S.th n).pos : Int), .bool (S.th n).failed, .int .i16 (S.th n).reg, .int .i64 ((S.th n).h0 : Int), .int .i64 ((S.th n).h1 : Int)] 105)
 have hWz : (W.alloc (.cells #[.int .i64 ((S.th n).pos : Int), .bool (S.th n).failed, .int .i16 (S.th n).reg, .int .i64 ((S.th n).h0 : Int), .int .i64 ((S.th n).h1 : Int)] 105)).heap.size = w.heap.size + 4 := by simp; omega
 generalize W.alloc (.cells #[.int .i64 ((S.th n).pos : Int), .bool (S.th n).failed, .int .i16 (S.th n).reg, .int .i64 ((S.th n).h0 : Int), .int .i64 ((S.th n).h1 : Int)] 105) = V at *
 clear x0 x1 x2 x3 x4 hbw hz
 have HSH : Hid _ := hsh
 have HBV : Hid _ := hbW
 have HVZ : Hid _ := hWz
 clear hbW hWz
 obtain ⟨s, o0, o1, o2, r, t0, t1, t2, t3, t4, f0, f2, f3⟩ := hsh
 clear s r
 have lt0 : w.heap.size < V.heap.size := by have := HVZ.out; omega
 have lt1 : w.heap.size + 1 < V.heap.size := by have := HVZ.out; omega
 have lt2 : w.heap.size + 1 + 1 < V.heap.size := by have := HVZ.out; omega
 have lt3 : w.heap.size + 3 < V.heap.size := by have := HVZ.out; omega
 go_wp2_with fail
 refine (lock_any _ _ _ _).mono ?_
 rintro e2 w2 ⟨rfl, hb2⟩
 rw [hl]
 have hs2 := HSH.out.below hb2 (Nat.lt_of_lt_of_le lt0 (Nat.le_refl V.heap.size)) (Nat.lt_of_lt_of_le lt1 (Nat.le_refl V.heap.size)) (Nat.lt_of_lt_of_le lt2 (Nat.le_refl V.heap.size)) (Nat.lt_of_lt_of_le lt3 (Nat.le_refl V.heap.size))
 have HS2 : Hid _ := hs2
 have HB2 : Hid (Below w.heap.size w w2) := HBV.out.trans (hb2.mono (HBV.out).size)
 have HZ2 : Hid (V.heap.size ≤ w2.heap.size) := Nat.le_trans (Nat.le_refl V.heap.size) hb2.size
 clear o0 o1 o2 t0 t1 t2 t3 t4 f0 f2 f3
 obtain ⟨s, o0, o1, o2, r, t0, t1, t2, t3, t4, f0, f2, f3⟩ := hs2
 clear s r
 have hu' : Hid _ := hu
 have hsx : Hid (ShAt (w2.setCell ⟨w.heap.size + 3, 3, none⟩ (.int .i64 (((S.th n).h0 : Int) + 1))) w.heap.size (w.heap.size + 1) (w.heap.size + 1 + 1) (w.heap.size + 3) S o u) := HS2.out.hold 0 (by omega) (by omega) (by omega) (by omega) ((S.th n).h0 + 1) _ (by omega) u (by rw [hu]; simp)
 have hbx : Hid (Below w.heap.size w (w2.setCell ⟨w.heap.size + 3, 3, none⟩ (.int .i64 (((S.th n).h0 : Int) + 1)))) := HB2.out.setCell (by simp) _
 have hzx : Hid (V.heap.size ≤ (w2.setCell ⟨w.heap.size + 3, 3, none⟩ (.int .i64 (((S.th n).h0 : Int) + 1))).heap.size) := by have := HZ2.out; show _ ≤ _; rw [World.size_setCell]; exact this
 have huh : u.h0 = (S.th n).h0 + 1 := by rw [hu]
 have HUH : Hid _ := huh
 clear hu huh
 go_wp2_with fail
 refine (lock_any _ _ _ _).mono ?_
 rintro e3 w3 ⟨rfl, hb3⟩
 rw [hl]
 have hs3 := hsx.out.below hb3 (Nat.lt_of_lt_of_le lt0 hzx.out) (Nat.lt_of_lt_of_le lt1 hzx.out) (Nat.lt_of_lt_of_le lt2 hzx.out) (Nat.lt_of_lt_of_le lt3 hzx.out)
 have HS3 : Hid _ := hs3
 have HB3 : Hid (Below w.heap.size w w3) := hbx.out.trans (hb3.mono (hbx.out).size)
 have HZ3 : Hid (V.heap.size ≤ w3.heap.size) := Nat.le_trans hzx.out hb3.size
 clear o0 o1 o2 t0 t1 t2 t3 t4 f0 f2 f3
 obtain ⟨s, o0, o1, o2, r, t0, t1, t2, t3, t4, f0, f2, f3⟩ := hs3
 obtain ⟨y0, y1, y2, y3, y4⟩ := stL_th S n hn
 have x0 := (s _).trans y0
 have x1 := (s _).trans y1
 have x2 := (s _).trans y2
 have x3 := (s _).trans y3
 have x4 := (s _).trans y4
 clear s r y0 y1 y2 y3 y4
 have hq : (u.h0 : Int) ≤ 1001 := by have := HUH.out; omega
 go_upto_region 20 with fail
 have hfin : ∀ j, ((((((w3).setCell ⟨w.heap.size, 4 + n * 5, none⟩ (.int .i64 (u.pos : Int))).setCell ⟨w.heap.size, 4 + n * 5 + 1, none⟩ (.bool u.failed)).setCell ⟨w.heap.size, 4 + n * 5 + 2, none⟩ (.int .i16 u.reg)).setCell ⟨w.heap.size, 4 + n * 5 + 3, none⟩ (.int .i64 (u.h0 : Int))).setCell ⟨w.heap.size, 4 + n * 5 + 4, none⟩ (.int .i64 (u.h1 : Int))).cell? ⟨w.heap.size, j, none⟩ = (stL (S.setTh n u))[j]? := fun j => by
  have h1 := HS3.out.s
  have h2 := all_set h1 (4 + n * 5) (by simp only [stL_length]; omega) (.int .i64 (u.pos : Int))
  have h3 := all_set h2 (4 + n * 5 + 1) (by simp only [List.length_set, stL_length]; omega) (.bool u.failed)
  have h4 := all_set h3 (4 + n * 5 + 2) (by simp only [List.length_set, stL_length]; omega) (.int .i16 u.reg)
  have h5 := all_set h4 (4 + n * 5 + 3) (by simp only [List.length_set, stL_length]; omega) (.int .i64 (u.h0 : Int))
  have h6 := all_set h5 (4 + n * 5 + 4) (by simp only [List.length_set, stL_length]; omega) (.int .i64 (u.h1 : Int))
  rw [← stL_setTh S n hn]; exact h6 j
 have hth : World.there ((((((w3).setCell ⟨w.heap.size, 4 + n * 5, none⟩ (.int .i64 (u.pos : Int))).setCell ⟨w.heap.size, 4 + n * 5 + 1, none⟩ (.bool u.failed)).setCell ⟨w.heap.size, 4 + n * 5 + 2, none⟩ (.int .i16 u.reg)).setCell ⟨w.heap.size, 4 + n * 5 + 3, none⟩ (.int .i64 (u.h0 : Int))).setCell ⟨w.heap.size, 4 + n * 5 + 4, none⟩ (.int .i64 (u.h1 : Int))) (w.heap.size + 1 + 1) 0 (stL (S.setTh n u)).toArray.size := fun j hj => by
  have hj' : j < 24 := by simpa [stL_length] using hj
  refine ⟨?_, ?_⟩
  ·have : ((((((w3).setCell ⟨w.heap.size, 4 + n * 5, none⟩ (.int .i64 (u.pos : Int))).setCell ⟨w.heap.size, 4 + n * 5 + 1, none⟩ (.bool u.failed)).setCell ⟨w.heap.size, 4 + n * 5 + 2, none⟩ (.int .i16 u.reg)).setCell ⟨w.heap.size, 4 + n * 5 + 3, none⟩ (.int .i64 (u.h0 : Int))).setCell ⟨w.heap.size, 4 + n * 5 + 4, none⟩ (.int .i64 (u.h1 : Int))).cell? ⟨w.heap.size + 1 + 1, 0 + j, none⟩ = (stL st0)[j]? := by
    rw [Nat.zero_add]
    exact (all_other (all_other (all_other (all_other (all_other (HS3.out.r) _ (by simp; omega) _) _ (by simp; omega) _) _ (by simp; omega) _) _ (by simp; omega) _) _ (by simp; omega) _) j
   rw [this, List.getElem?_eq_getElem (by rw [stL_length]; exact hj')]; rfl
  ·simp only [World.frozen?_setCell]; exact HS3.out.f2 _
 have hbf : Below w.heap.size w ((((((w3).setCell ⟨w.heap.size, 4 + n * 5, none⟩ (.int .i64 (u.pos : Int))).setCell ⟨w.heap.size, 4 + n * 5 + 1, none⟩ (.bool u.failed)).setCell ⟨w.heap.size, 4 + n * 5 + 2, none⟩ (.int .i16 u.reg)).setCell ⟨w.heap.size, 4 + n * 5 + 3, none⟩ (.int .i64 (u.h0 : Int))).setCell ⟨w.heap.size, 4 + n * 5 + 4, none⟩ (.int .i64 (u.h1 : Int))) := (((((HB3.out).setCell (Nat.le_refl _) _).setCell (Nat.le_refl _) _).setCell (Nat.le_refl _) _).setCell (Nat.le_refl _) _).setCell (Nat.le_refl _) _
 generalize ((((((w3).setCell ⟨w.heap.size, 4 + n * 5, none⟩ (.int .i64 (u.pos : Int))).setCell ⟨w.heap.size, 4 + n * 5 + 1, none⟩ (.bool u.failed)).setCell ⟨w.heap.size, 4 + n * 5 + 2, none⟩ (.int .i16 u.reg)).setCell ⟨w.heap.size, 4 + n * 5 + 3, none⟩ (.int .i64 (u.h0 : Int))).setCell ⟨w.heap.size, 4 + n * 5 + 4, none⟩ (.int .i64 (u.h1 : Int))) = F at *
 clear o0 o1 o2 t0 t1 t2 t3 t4 f0 f2 f3 x0 x1 x2 x3 x4
 have hrg := range_of_all hfin
 go_wp2_with (first | refine wpList_load_mid rfl 108 _ rfl w.heap.size 0 rfl (stL (S.setTh n u)) _ hrg Tryz.underlying108 rfl Tryz.size108 ?_ | refine wpList_store_mid rfl 108 _ _ rfl (w.heap.size + 1 + 1) 0 (stL (S.setTh n u)).toArray rfl rfl hth Tryz.size108 (all_oneCell_toArray (stL_one _)) ?_)
 refine bodyPost_ret (v := .tuple #[.agg (stL (S.setTh n u)).toArray, .int .i16 ((u.h0 : Int))]) (ret_state Tryz.results80 _ _ (w.heap.size + 1 + 1) _ rfl (World.rangeAt_setCells_same _ _ _ _ (by simpa using hth))) rfl ⟨rfl, ?_⟩
 exact below_setCells _ (by omega) _ _ _ hbf

theorem behindShared_unlock0 (S : St) (n : Nat) (o : Pl.POp) (u : Th) (w : World) (hn : n < 4) (hk : o.kind = 117) (hl : lockOf o.name = 0) (hh : (S.th n).h0 ≤ 1000) (hp : 0 < (S.th n).h0) (hu : u = ⟨(S.th n).pos, (S.th n).failed, (S.th n).reg, (S.th n).h0 - 1, (S.th n).h1⟩) :
  Calls Tryz.prog 80 #[.agg (stL S).toArray, .int .i64 (n : Int), .agg #[.int .u8 (o.kind : Int), .int .u8 (o.name : Int), .int .i64 o.block]] w
   fun e w' => e = .returned (.tuple #[.agg (stL (S.setTh n u)).toArray, .int .i16 ((u.h0 : Int))]) ∧ Below w.heap.size w w' := by
 have k114 : ((o.kind : Int) == 114) = false := by simp; omega
 have k119 : ((o.kind : Int) == 119) = false := by simp; omega
 have k108 : ((o.kind : Int) == 108) = false := by simp; omega
 have k117 : ((o.kind : Int) == 117) = true := by simp; omega
 clear hk
 have q0 : (0 : Int) ≤ (n : Int) := by omega
 have q1 : (n : Int) < 4 := by omega
 go_enter Tryz.func80, Tryz.ntmps80
 go_upto_region 1 with fail
 have hsh := shW_at w S o (S.th n)
 have hbw := fun x => shW_below w S o x
 have hz := shW_size w S o
 change Code.wp _ _ _ _ (shW w S o)
 have x : ∀ j, (shW w S o).cell? ⟨w.heap.size, j, none⟩ = (stL S)[j]? := fun j => by
  have := hsh.s j
  rwa [World.cell?_alloc_past _ _ _ (by omega)] at this
 obtain ⟨y0, y1, y2, y3, y4⟩ := stL_th S n hn
 have x0 := (x _).trans y0
 have x1 := (x _).trans y1
 have x2 := (x _).trans y2
 have x3 := (x _).trans y3
 have x4 := (x _).trans y4
 clear x y0 y1 y2 y3 y4
 generalize shW w S o = W at *
 go_upto_region 3 with fail
 have hbW := hbw (.cells #[.int .i64 ((S.th n).pos : Int), .bool (S.th n).failed, .int .i16 (S.th n).reg, .int .i64 ((S.th n).h0 : Int), .int .i64 ((S.th n).h1 : Int)] 105)
 have hWz : (W.alloc (.cells #[.int .i64 ((S.th n).pos : Int), .bool (S.th n).failed, .int .i16 (S.th n).reg, .int .i64 ((S.th n).h0 : Int), .int .i64 ((S.th n).h1 : Int)] 105)).heap.size = w.heap.size + 4 := by simp; omega
 generalize W.alloc (.cells #[.int .i64 ((S.th n).pos : Int), .bool (S.th n).failed, .int .i16 (S.th n).reg, .int .i64 ((S.th n).h0 : Int), .int .i64 ((S.th n).h1 : Int)] 105) = V at *
 clear x0 x1 x2 x3 x4 hbw hz
 have HSH : Hid _ := hsh
 have HBV : Hid _ := hbW
 have HVZ : Hid _ := hWz
 clear hbW hWz
 obtain ⟨s, o0, o1, o2, r, t0, t1, t2, t3, t4, f0, f2, f3⟩ := hsh
 clear s r
 have lt0 : w.heap.size < V.heap.size := by have := HVZ.out; omega
 have lt1 : w.heap.size + 1 < V.heap.size := by have := HVZ.out; omega
 have lt2 : w.heap.size + 1 + 1 < V.heap.size := by have := HVZ.out; omega
 have lt3 : w.heap.size + 3 < V.heap.size := by have := HVZ.out; omega
 have hp' : (0 : Int) < ((S.th n).h0 : Int) := by omega
 go_wp2_with fail
 refine (lock_any _ _ _ _).mono ?_
 rintro e2 w2 ⟨rfl, hb2⟩
 rw [hl]
 have hs2 := HSH.out.below hb2 (Nat.lt_of_lt_of_le lt0 (Nat.le_refl V.heap.size)) (Nat.lt_of_lt_of_le lt1 (Nat.le_refl V.heap.size)) (Nat.lt_of_lt_of_le lt2 (Nat.le_refl V.heap.size)) (Nat.lt_of_lt_of_le lt3 (Nat.le_refl V.heap.size))
 have HS2 : Hid _ := hs2
 have HB2 : Hid (Below w.heap.size w w2) := HBV.out.trans (hb2.mono (HBV.out).size)
 have HZ2 : Hid (V.heap.size ≤ w2.heap.size) := Nat.le_trans (Nat.le_refl V.heap.size) hb2.size
 clear o0 o1 o2 t0 t1 t2 t3 t4 f0 f2 f3
 obtain ⟨s, o0, o1, o2, r, t0, t1, t2, t3, t4, f0, f2, f3⟩ := hs2
 clear s r
 go_wp2_with fail
 refine (lock_any _ _ _ _).mono ?_
 rintro e3 w3 ⟨rfl, hb3⟩
 rw [hl]
 have hs3 := HS2.out.below hb3 (Nat.lt_of_lt_of_le lt0 HZ2.out) (Nat.lt_of_lt_of_le lt1 HZ2.out) (Nat.lt_of_lt_of_le lt2 HZ2.out) (Nat.lt_of_lt_of_le lt3 HZ2.out)
 have HS3 : Hid _ := hs3
 have HB3 : Hid (Below w.heap.size w w3) := HB2.out.trans (hb3.mono (HB2.out).size)
 have HZ3 : Hid (V.heap.size ≤ w3.heap.size) := Nat.le_trans HZ2.out hb3.size
 clear o0 o1 o2 t0 t1 t2 t3 t4 f0 f2 f3
 obtain ⟨s, o0, o1, o2, r, t0, t1, t2, t3, t4, f0, f2, f3⟩ := hs3
 clear s r
 have hu' : Hid _ := hu
 have hsx : Hid (ShAt (w3.setCell ⟨w.heap.size + 3, 3, none⟩ (.int .i64 (((S.th n).h0 : Int) - 1))) w.heap.size (w.heap.size + 1) (w.heap.size + 1 + 1) (w.heap.size + 3) S o u) := HS3.out.hold 0 (by omega) (by omega) (by omega) (by omega) ((S.th n).h0 - 1) _ (by omega) u (by rw [hu]; simp)
 have hbx : Hid (Below w.heap.size w (w3.setCell ⟨w.heap.size + 3, 3, none⟩ (.int .i64 (((S.th n).h0 : Int) - 1)))) := HB3.out.setCell (by simp) _
 have hzx : Hid (V.heap.size ≤ (w3.setCell ⟨w.heap.size + 3, 3, none⟩ (.int .i64 (((S.th n).h0 : Int) - 1))).heap.size) := by have := HZ3.out; show _ ≤ _; rw [World.size_setCell]; exact this
 have huh : u.h0 = (S.th n).h0 - 1 := by rw [hu]
 have HUH : Hid _ := huh
 clear hu huh
 go_wp2_with fail
 refine (lock_any _ _ _ _).mono ?_
 rintro e4 w4 ⟨rfl, hb4⟩
 rw [hl]
 have hs4 := hsx.out.below hb4 (Nat.lt_of_lt_of_le lt0 hzx.out) (Nat.lt_of_lt_of_le lt1 hzx.out) (Nat.lt_of_lt_of_le lt2 hzx.out) (Nat.lt_of_lt_of_le lt3 hzx.out)
 have HS4 : Hid _ := hs4
 have HB4 : Hid (Below w.heap.size w w4) := hbx.out.trans (hb4.mono (hbx.out).size)
 have HZ4 : Hid (V.heap.size ≤ w4.heap.size) := Nat.le_trans hzx.out hb4.size
 clear o0 o1 o2 t0 t1 t2 t3 t4 f0 f2 f3
 obtain ⟨s, o0, o1, o2, r, t0, t1, t2, t3, t4, f0, f2, f3⟩ := hs4
 obtain ⟨y0, y1, y2, y3, y4⟩ := stL_th S n hn
 have x0 := (s _).trans y0
 have x1 := (s _).trans y1
 have x2 := (s _).trans y2
 have x3 := (s _).trans y3
 have x4 := (s _).trans y4
 clear s r y0 y1 y2 y3 y4
 have hq : (u.h0 : Int) ≤ 1001 := by have := HUH.out; omega
 go_upto_region 20 with fail
 have hfin : ∀ j, ((((((w4).setCell ⟨w.heap.size, 4 + n * 5, none⟩ (.int .i64 (u.pos : Int))).setCell ⟨w.heap.size, 4 + n * 5 + 1, none⟩ (.bool u.failed)).setCell ⟨w.heap.size, 4 + n * 5 + 2, none⟩ (.int .i16 u.reg)).setCell ⟨w.heap.size, 4 + n * 5 + 3, none⟩ (.int .i64 (u.h0 : Int))).setCell ⟨w.heap.size, 4 + n * 5 + 4, none⟩ (.int .i64 (u.h1 : Int))).cell? ⟨w.heap.size, j, none⟩ = (stL (S.setTh n u))[j]? := fun j => by
  have h1 := HS4.out.s
  have h2 := all_set h1 (4 + n * 5) (by simp only [stL_length]; omega) (.int .i64 (u.pos : Int))
  have h3 := all_set h2 (4 + n * 5 + 1) (by simp only [List.length_set, stL_length]; omega) (.bool u.failed)
  have h4 := all_set h3 (4 + n * 5 + 2) (by simp only [List.length_set, stL_length]; omega) (.int .i16 u.reg)
  have h5 := all_set h4 (4 + n * 5 + 3) (by simp only [List.length_set, stL_length]; omega) (.int .i64 (u.h0 : Int))
  have h6 := all_set h5 (4 + n * 5 + 4) (by simp only [List.length_set, stL_length]; omega) (.int .i64 (u.h1 : Int))
  rw [← stL_setTh S n hn]; exact h6 j
 have hth : World.there ((((((w4).setCell ⟨w.heap.size, 4 + n * 5, none⟩ (.int .i64 (u.pos : Int))).setCell ⟨w.heap.size, 4 + n * 5 + 1, none⟩ (.bool u.failed)).setCell ⟨w.heap.size, 4 + n * 5 + 2, none⟩ (.int .i16 u.reg)).setCell ⟨w.heap.size, 4 + n * 5 + 3, none⟩ (.int .i64 (u.h0 : Int))).setCell ⟨w.heap.size, 4 + n * 5 + 4, none⟩ (.int .i64 (u.h1 : Int))) (w.heap.size + 1 + 1) 0 (stL (S.setTh n u)).toArray.size := fun j hj => by
  have hj' : j < 24 := by simpa [stL_length] using hj
  refine ⟨?_, ?_⟩
  ·have : ((((((w4).setCell ⟨w.heap.size, 4 + n * 5, none⟩ (.int .i64 (u.pos : Int))).setCell ⟨w.heap.size, 4 + n * 5 + 1, none⟩ (.bool u.failed)).setCell ⟨w.heap.size, 4 + n * 5 + 2, none⟩ (.int .i16 u.reg)).setCell ⟨w.heap.size, 4 + n * 5 + 3, none⟩ (.int .i64 (u.h0 : Int))).setCell ⟨w.heap.size, 4 + n * 5 + 4, none⟩ (.int .i64 (u.h1 : Int))).cell? ⟨w.heap.size + 1 + 1, 0 + j, none⟩ = (stL st0)[j]? := by
    rw [Nat.zero_add]
    exact (all_other (all_other (all_other (all_other (all_other (HS4.out.r) _ (by simp; omega) _) _ (by simp; omega) _) _ (by simp; omega) _) _ (by simp; omega) _) _ (by simp; omega) _) j
   rw [this, List.getElem?_eq_getElem (by rw [stL_length]; exact hj')]; rfl
  ·simp only [World.frozen?_setCell]; exact HS4.out.f2 _
 have hbf : Below w.heap.size w ((((((w4).setCell ⟨w.heap.size, 4 + n * 5, none⟩ (.int .i64 (u.pos : Int))).setCell ⟨w.heap.size, 4 + n * 5 + 1, none⟩ (.bool u.failed)).setCell ⟨w.heap.size, 4 + n * 5 + 2, none⟩ (.int .i16 u.reg)).setCell ⟨w.heap.size, 4 + n * 5 + 3, none⟩ (.int .i64 (u.h0 : Int))).setCell ⟨w.heap.size, 4 + n * 5 + 4, none⟩ (.int .i64 (u.h1 : Int))) := (((((HB4.out).setCell (Nat.le_refl _) _).setCell (Nat.le_refl _) _).setCell (Nat.le_refl _) _).setCell (Nat.le_refl _) _).setCell (Nat.le_refl _) _
 generalize ((((((w4).setCell ⟨w.heap.size, 4 + n * 5, none⟩ (.int .i64 (u.pos : Int))).setCell ⟨w.heap.size, 4 + n * 5 + 1, none⟩ (.bool u.failed)).setCell ⟨w.heap.size, 4 + n * 5 + 2, none⟩ (.int .i16 u.reg)).setCell ⟨w.heap.size, 4 + n * 5 + 3, none⟩ (.int .i64 (u.h0 : Int))).setCell ⟨w.heap.size, 4 + n * 5 + 4, none⟩ (.int .i64 (u.h1 : Int))) = F at *
 clear o0 o1 o2 t0 t1 t2 t3 t4 f0 f2 f3 x0 x1 x2 x3 x4
 have hrg := range_of_all hfin
 go_wp2_with (first | refine wpList_load_mid rfl 108 _ rfl w.heap.size 0 rfl (stL (S.setTh n u)) _ hrg Tryz.underlying108 rfl Tryz.size108 ?_ | refine wpList_store_mid rfl 108 _ _ rfl (w.heap.size + 1 + 1) 0 (stL (S.setTh n u)).toArray rfl rfl hth Tryz.size108 (all_oneCell_toArray (stL_one _)) ?_)
 refine bodyPost_ret (v := .tuple #[.agg (stL (S.setTh n u)).toArray, .int .i16 ((u.h0 : Int))]) (ret_state Tryz.results80 _ _ (w.heap.size + 1 + 1) _ rfl (World.rangeAt_setCells_same _ _ _ _ (by simpa using hth))) rfl ⟨rfl, ?_⟩
 exact below_setCells _ (by omega) _ _ _ hbf

theorem behindShared_fail0 (S : St) (n : Nat) (o : Pl.POp) (u : Th) (w : World) (hn : n < 4) (hk : o.kind = 117) (hl : lockOf o.name = 0) (hp : (S.th n).h0 = 0) (hu : u = ⟨(S.th n).pos, true, (S.th n).reg, (S.th n).h0, (S.th n).h1⟩) :
  Calls Tryz.prog 80 #[.agg (stL S).toArray, .int .i64 (n : Int), .agg #[.int .u8 (o.kind : Int), .int .u8 (o.name : Int), .int .i64 o.block]] w
   fun e w' => e = .returned (.tuple #[.agg (stL (S.setTh n u)).toArray, .int .i16 (-1)]) ∧ Below w.heap.size w w' := by
 have k114 : ((o.kind : Int) == 114) = false := by simp; omega
 have k119 : ((o.kind : Int) == 119) = false := by simp; omega
 have k108 : ((o.kind : Int) == 108) = false := by simp; omega
 have k117 : ((o.kind : Int) == 117) = true := by simp; omega
 clear hk
 have HP : Hid _ := hp
 clear hp
 have q0 : (0 : Int) ≤ (n : Int) := by omega
 have q1 : (n : Int) < 4 := by omega
 go_enter Tryz.func80, Tryz.ntmps80
 go_upto_region 1 with fail
 have hsh := shW_at w S o (S.th n)
 have hbw := fun x => shW_below w S o x
 have hz := shW_size w S o
 change Code.wp _ _ _ _ (shW w S o)
 have x : ∀ j, (shW w S o).cell? ⟨w.heap.size, j, none⟩ = (stL S)[j]? := fun j => by
  have := hsh.s j
  rwa [World.cell?_alloc_past _ _ _ (by omega)] at this
 obtain ⟨y0, y1, y2, y3, y4⟩ := stL_th S n hn
 have x0 := (x _).trans y0
 have x1 := (x _).trans y1
 have x2 := (x _).trans y2
 have x3 := (x _).trans y3
 have x4 := (x _).trans y4
 clear x y0 y1 y2 y3 y4
 generalize shW w S o = W at *
 go_upto_region 3 with fail
 have hbW := hbw (.cells #[.int .i64 ((S.th n).pos : Int), .bool (S.th n).failed, .int .i16 (S.th n).reg, .int .i64 ((S.th n).h0 : Int), .int .i64 ((S.th n).h1 : Int)] 105)
 have hWz : (W.alloc (.cells #[.int .i64 ((S.th n).pos : Int), .bool (S.th n).failed, .int .i16 (S.th n).reg, .int .i64 ((S.th n).h0 : Int), .int .i64 ((S.th n).h1 : Int)] 105)).heap.size = w.heap.size + 4 := by simp; omega
 generalize W.alloc (.cells #[.int .i64 ((S.th n).pos : Int), .bool (S.th n).failed, .int .i16 (S.th n).reg, .int .i64 ((S.th n).h0 : Int), .int .i64 ((S.th n).h1 : Int)] 105) = V at *
 clear x0 x1 x2 x3 x4 hbw hz
 have HSH : Hid _ := hsh
 have HBV : Hid _ := hbW
 have HVZ : Hid _ := hWz
 clear hbW hWz
 obtain ⟨s, o0, o1, o2, r, t0, t1, t2, t3, t4, f0, f2, f3⟩ := hsh
 clear s r
 have lt0 : w.heap.size < V.heap.size := by have := HVZ.out; omega
 have lt1 : w.heap.size + 1 < V.heap.size := by have := HVZ.out; omega
 have lt2 : w.heap.size + 1 + 1 < V.heap.size := by have := HVZ.out; omega
 have lt3 : w.heap.size + 3 < V.heap.size := by have := HVZ.out; omega
 go_wp2_with fail
 refine (lock_any _ _ _ _).mono ?_
 rintro e2 w2 ⟨rfl, hb2⟩
 rw [hl]
 have hs2 := HSH.out.below hb2 (Nat.lt_of_lt_of_le lt0 (Nat.le_refl V.heap.size)) (Nat.lt_of_lt_of_le lt1 (Nat.le_refl V.heap.size)) (Nat.lt_of_lt_of_le lt2 (Nat.le_refl V.heap.size)) (Nat.lt_of_lt_of_le lt3 (Nat.le_refl V.heap.size))
 have HS2 : Hid _ := hs2
 have HB2 : Hid (Below w.heap.size w w2) := HBV.out.trans (hb2.mono (HBV.out).size)
 have HZ2 : Hid (V.heap.size ≤ w2.heap.size) := Nat.le_trans (Nat.le_refl V.heap.size) hb2.size
 clear o0 o1 o2 t0 t1 t2 t3 t4 f0 f2 f3
 obtain ⟨s, o0, o1, o2, r, t0, t1, t2, t3, t4, f0, f2, f3⟩ := hs2
 have hp' : ¬ (0 : Int) < ((S.th n).h0 : Int) := by have := HP.out; omega
 have hsx : Hid (ShAt (w2.setCell ⟨w.heap.size + 3, 1, none⟩ (.bool true)) w.heap.size (w.heap.size + 1) (w.heap.size + 1 + 1) (w.heap.size + 3) S o u) := HS2.out.fail (by omega) (by omega) (by omega) u hu
 have hbx : Hid (Below w.heap.size w (w2.setCell ⟨w.heap.size + 3, 1, none⟩ (.bool true))) := HB2.out.setCell (by simp) _
 clear hu s r
 go_upto_region 19 with fail
 generalize w2.setCell ⟨w.heap.size + 3, 1, none⟩ (.bool true) = X at *
 clear o0 o1 o2 t0 t1 t2 t3 t4 f0 f2 f3
 obtain ⟨s, o0, o1, o2, r, t0, t1, t2, t3, t4, f0, f2, f3⟩ := hsx.out
 obtain ⟨y0, y1, y2, y3, y4⟩ := stL_th S n hn
 have x0 := (s _).trans y0
 have x1 := (s _).trans y1
 have x2 := (s _).trans y2
 have x3 := (s _).trans y3
 have x4 := (s _).trans y4
 clear s r y0 y1 y2 y3 y4
 go_upto_region 20 with fail
 have hfin : ∀ j, ((((((X).setCell ⟨w.heap.size, 4 + n * 5, none⟩ (.int .i64 (u.pos : Int))).setCell ⟨w.heap.size, 4 + n * 5 + 1, none⟩ (.bool u.failed)).setCell ⟨w.heap.size, 4 + n * 5 + 2, none⟩ (.int .i16 u.reg)).setCell ⟨w.heap.size, 4 + n * 5 + 3, none⟩ (.int .i64 (u.h0 : Int))).setCell ⟨w.heap.size, 4 + n * 5 + 4, none⟩ (.int .i64 (u.h1 : Int))).cell? ⟨w.heap.size, j, none⟩ = (stL (S.setTh n u))[j]? := fun j => by
  have h1 := hsx.out.s
  have h2 := all_set h1 (4 + n * 5) (by simp only [stL_length]; omega) (.int .i64 (u.pos : Int))
  have h3 := all_set h2 (4 + n * 5 + 1) (by simp only [List.length_set, stL_length]; omega) (.bool u.failed)
  have h4 := all_set h3 (4 + n * 5 + 2) (by simp only [List.length_set, stL_length]; omega) (.int .i16 u.reg)
  have h5 := all_set h4 (4 + n * 5 + 3) (by simp only [List.length_set, stL_length]; omega) (.int .i64 (u.h0 : Int))
  have h6 := all_set h5 (4 + n * 5 + 4) (by simp only [List.length_set, stL_length]; omega) (.int .i64 (u.h1 : Int))
  rw [← stL_setTh S n hn]; exact h6 j
 have hth : World.there ((((((X).setCell ⟨w.heap.size, 4 + n * 5, none⟩ (.int .i64 (u.pos : Int))).setCell ⟨w.heap.size, 4 + n * 5 + 1, none⟩ (.bool u.failed)).setCell ⟨w.heap.size, 4 + n * 5 + 2, none⟩ (.int .i16 u.reg)).setCell ⟨w.heap.size, 4 + n * 5 + 3, none⟩ (.int .i64 (u.h0 : Int))).setCell ⟨w.heap.size, 4 + n * 5 + 4, none⟩ (.int .i64 (u.h1 : Int))) (w.heap.size + 1 + 1) 0 (stL (S.setTh n u)).toArray.size := fun j hj => by
  have hj' : j < 24 := by simpa [stL_length] using hj
  refine ⟨?_, ?_⟩
  ·have : ((((((X).setCell ⟨w.heap.size, 4 + n * 5, none⟩ (.int .i64 (u.pos : Int))).setCell ⟨w.heap.size, 4 + n * 5 + 1, none⟩ (.bool u.failed)).setCell ⟨w.heap.size, 4 + n * 5 + 2, none⟩ (.int .i16 u.reg)).setCell ⟨w.heap.size, 4 + n * 5 + 3, none⟩ (.int .i64 (u.h0 : Int))).setCell ⟨w.heap.size, 4 + n * 5 + 4, none⟩ (.int .i64 (u.h1 : Int))).cell? ⟨w.heap.size + 1 + 1, 0 + j, none⟩ = (stL st0)[j]? := by
    rw [Nat.zero_add]
    exact (all_other (all_other (all_other (all_other (all_other (hsx.out.r) _ (by simp; omega) _) _ (by simp; omega) _) _ (by simp; omega) _) _ (by simp; omega) _) _ (by simp; omega) _) j
   rw [this, List.getElem?_eq_getElem (by rw [stL_length]; exact hj')]; rfl
  ·simp only [World.frozen?_setCell]; exact hsx.out.f2 _
 have hbf : Below w.heap.size w ((((((X).setCell ⟨w.heap.size, 4 + n * 5, none⟩ (.int .i64 (u.pos : Int))).setCell ⟨w.heap.size, 4 + n * 5 + 1, none⟩ (.bool u.failed)).setCell ⟨w.heap.size, 4 + n * 5 + 2, none⟩ (.int .i16 u.reg)).setCell ⟨w.heap.size, 4 + n * 5 + 3, none⟩ (.int .i64 (u.h0 : Int))).setCell ⟨w.heap.size, 4 + n * 5 + 4, none⟩ (.int .i64 (u.h1 : Int))) := (((((hbx.out).setCell (Nat.le_refl _) _).setCell (Nat.le_refl _) _).setCell (Nat.le_refl _) _).setCell (Nat.le_refl _) _).setCell (Nat.le_refl _) _
 generalize ((((((X).setCell ⟨w.heap.size, 4 + n * 5, none⟩ (.int .i64 (u.pos : Int))).setCell ⟨w.heap.size, 4 + n * 5 + 1, none⟩ (.bool u.failed)).setCell ⟨w.heap.size, 4 + n * 5 + 2, none⟩ (.int .i16 u.reg)).setCell ⟨w.heap.size, 4 + n * 5 + 3, none⟩ (.int .i64 (u.h0 : Int))).setCell ⟨w.heap.size, 4 + n * 5 + 4, none⟩ (.int .i64 (u.h1 : Int))) = F at *
 clear o0 o1 o2 t0 t1 t2 t3 t4 f0 f2 f3 x0 x1 x2 x3 x4
 have hrg := range_of_all hfin
 go_wp2_with (first | refine wpList_load_mid rfl 108 _ rfl w.heap.size 0 rfl (stL (S.setTh n u)) _ hrg Tryz.underlying108 rfl Tryz.size108 ?_ | refine wpList_store_mid rfl 108 _ _ rfl (w.heap.size + 1 + 1) 0 (stL (S.setTh n u)).toArray rfl rfl hth Tryz.size108 (all_oneCell_toArray (stL_one _)) ?_)
 refine bodyPost_ret (v := .tuple #[.agg (stL (S.setTh n u)).toArray, .int .i16 (-1)]) (ret_state Tryz.results80 _ _ (w.heap.size + 1 + 1) _ rfl (World.rangeAt_setCells_same _ _ _ _ (by simpa using hth))) rfl ⟨rfl, ?_⟩
 exact below_setCells _ (by omega) _ _ _ hbf

theorem behindShared_lock1 (S : St) (n : Nat) (o : Pl.POp) (u : Th) (w : World) (hn : n < 4) (hk : o.kind = 108) (hl : lockOf o.name = 1) (hh : (S.th n).h1 ≤ 1000) (hu : u = ⟨(S.th n).pos, (S.th n).failed, (S.th n).reg, (S.th n).h0, (S.th n).h1 + 1⟩) :
  Calls Tryz.prog 80 #[.agg (stL S).toArray, .int .i64 (n : Int), .agg #[.int .u8 (o.kind : Int), .int .u8 (o.name : Int), .int .i64 o.block]] w
   fun e w' => e = .returned (.tuple #[.agg (stL (S.setTh n u)).toArray, .int .i16 ((u.h1 : Int))]) ∧ Below w.heap.size w w' := by
 have k114 : ((o.kind : Int) == 114) = false := by simp; omega
 have k119 : ((o.kind : Int) == 119) = false := by simp; omega
 have k108 : ((o.kind : Int) == 108) = true := by simp; omega
 clear hk
 have q0 : (0 : Int) ≤ (n : Int) := by omega
 have q1 : (n : Int) < 4 := by omega
 go_enter Tryz.func80, Tryz.ntmps80
 go_upto_region 1 with fail
 have hsh := shW_at w S o (S.th n)
 have hbw := fun x => shW_below w S o x
 have hz := shW_size w S o
 change Code.wp _ _ _ _ (shW w S o)
 have x : ∀ j, (shW w S o).cell? ⟨w.heap.size, j, none⟩ = (stL S)[j]? := fun j => by
  have := hsh.s j
  rwa [World.cell?_alloc_past _ _ _ (by omega)] at this
 obtain ⟨y0, y1, y2, y3, y4⟩ := stL_th S n hn
 have x0 := (x _).trans y0
 have x1 := (x _).trans y1
 have x2 := (x _).trans y2
 have x3 := (x _).trans y3
 have x4 := (x _).trans y4
 clear x y0 y1 y2 y3 y4
 generalize shW w S o = W at *
 go_upto_region 3 with fail
 have hbW := hbw (.cells #[.int .i64 ((S.th n).pos : Int), .bool (S.th n).failed, .int .i16 (S.th n).reg, .int .i64 ((S.th n).h0 : Int), .int .i64 ((S.th n).h1 : Int)] 105)
 have hWz : (W.alloc (.cells #[.int .i64 ((S.th n).pos : Int), .bool (S.th n).failed, .int .i16 (S.th n).reg, .int .i64 ((S.th n).h0 : Int), .int .i64 ((S.th n).h1 : Int)] 105)).heap.size = w.heap.size + 4 := by simp; omega
 generalize W.alloc (.cells #[.int .i64 ((S.th n).pos : Int), .bool (S.th n).failed, .int .i16 (S.th n).reg, .int .i64 ((S.th n).h0 : Int), .int .i64 ((S.th n).h1 : Int)] 105) = V at *
 clear x0 x1 x2 x3 x4 hbw hz
 have HSH : Hid _ := hsh
 have HBV : Hid _ := hbW
 have HVZ : Hid _ := hWz
 clear hbW hWz
 obtain ⟨s, o0, o1, o2, r, t0, t1, t2, t3, t4, f0, f2, f3⟩ := hsh
 clear s r
 have lt0 : w.heap.size < V.heap.size := by have := HVZ.out; omega
 have lt1 : w.heap.size + 1 < V.heap.size := by have := HVZ.out; omega
 have lt2 : w.heap.size + 1 + 1 < V.heap.size := by have := HVZ.out; omega
 have lt3 : w.heap.size + 3 < V.heap.size := by have := HVZ.out; omega
 go_wp2_with fail
 refine (lock_any _ _ _ _).mono ?_
 rintro e2 w2 ⟨rfl, hb2⟩
 rw [hl]
 have hs2 := HSH.out.below hb2 (Nat.lt_of_lt_of_le lt0 (Nat.le_refl V.heap.size)) (Nat.lt_of_lt_of_le lt1 (Nat.le_refl V.heap.size)) (Nat.lt_of_lt_of_le lt2 (Nat.le_refl V.heap.size)) (Nat.lt_of_lt_of_le lt3 (Nat.le_refl V.heap.size))
 have HS2 : Hid _ := hs2
 have HB2 : Hid (Below w.heap.size w w2) := HBV.out.trans (hb2.mono (HBV.out).size)
 have HZ2 : Hid (V.heap.size ≤ w2.heap.size) := Nat.le_trans (Nat.le_refl V.heap.size) hb2.size
 clear o0 o1 o2 t0 t1 t2 t3 t4 f0 f2 f3
 obtain ⟨s, o0, o1, o2, r, t0, t1, t2, t3, t4, f0, f2, f3⟩ := hs2
 clear s r
 have hu' : Hid _ := hu
 have hsx : Hid (ShAt (w2.setCell ⟨w.heap.size + 3, 4, none⟩ (.int .i64 (((S.th n).h1 : Int) + 1))) w.heap.size (w.heap.size + 1) (w.heap.size + 1 + 1) (w.heap.size + 3) S o u) := HS2.out.hold 1 (by omega) (by omega) (by omega) (by omega) ((S.th n).h1 + 1) _ (by omega) u (by rw [hu]; simp)
 have hbx : Hid (Below w.heap.size w (w2.setCell ⟨w.heap.size + 3, 4, none⟩ (.int .i64 (((S.th n).h1 : Int) + 1)))) := HB2.out.setCell (by simp) _
 have hzx : Hid (V.heap.size ≤ (w2.setCell ⟨w.heap.size + 3, 4, none⟩ (.int .i64 (((S.th n).h1 : Int) + 1))).heap.size) := by have := HZ2.out; show _ ≤ _; rw [World.size_setCell]; exact this
 have huh : u.h1 = (S.th n).h1 + 1 := by rw [hu]
 have HUH : Hid _ := huh
 clear hu huh
 go_wp2_with fail
 refine (lock_any _ _ _ _).mono ?_
 rintro e3 w3 ⟨rfl, hb3⟩
 rw [hl]
 have hs3 := hsx.out.below hb3 (Nat.lt_of_lt_of_le lt0 hzx.out) (Nat.lt_of_lt_of_le lt1 hzx.out) (Nat.lt_of_lt_of_le lt2 hzx.out) (Nat.lt_of_lt_of_le lt3 hzx.out)
 have HS3 : Hid _ := hs3
 have HB3 : Hid (Below w.heap.size w w3) := hbx.out.trans (hb3.mono (hbx.out).size)
 have HZ3 : Hid (V.heap.size ≤ w3.heap.size) := Nat.le_trans hzx.out hb3.size
 clear o0 o1 o2 t0 t1 t2 t3 t4 f0 f2 f3
 obtain ⟨s, o0, o1, o2, r, t0, t1, t2, t3, t4, f0, f2, f3⟩ := hs3
 obtain ⟨y0, y1, y2, y3, y4⟩ := stL_th S n hn
 have x0 := (s _).trans y0
 have x1 := (s _).trans y1
 have x2 := (s _).trans y2
 have x3 := (s _).trans y3
 have x4 := (s _).trans y4
 clear s r y0 y1 y2 y3 y4
 have hq : (u.h1 : Int) ≤ 1001 := by have := HUH.out; omega
 go_upto_region 20 with fail
 have hfin : ∀ j, ((((((w3).setCell ⟨w.heap.size, 4 + n * 5, none⟩ (.int .i64 (u.pos : Int))).setCell ⟨w.heap.size, 4 + n * 5 + 1, none⟩ (.bool u.failed)).setCell ⟨w.heap.size, 4 + n * 5 + 2, none⟩ (.int .i16 u.reg)).setCell ⟨w.heap.size, 4 + n * 5 + 3, none⟩ (.int .i64 (u.h0 : Int))).setCell ⟨w.heap.size, 4 + n * 5 + 4, none⟩ (.int .i64 (u.h1 : Int))).cell? ⟨w.heap.size, j, none⟩ = (stL (S.setTh n u))[j]? := fun j => by
  have h1 := HS3.out.s
  have h2 := all_set h1 (4 + n * 5) (by simp only [stL_length]; omega) (.int .i64 (u.pos : Int))
  have h3 := all_set h2 (4 + n * 5 + 1) (by simp only [List.length_set, stL_length]; omega) (.bool u.failed)
  have h4 := all_set h3 (4 + n * 5 + 2) (by simp only [List.length_set, stL_length]; omega) (.int .i16 u.reg)
  have h5 := all_set h4 (4 + n * 5 + 3) (by simp only [List.length_set, stL_length]; omega) (.int .i64 (u.h0 : Int))
  have h6 := all_set h5 (4 + n * 5 + 4) (by simp only [List.length_set, stL_length]; omega) (.int .i64 (u.h1 : Int))
  rw [← stL_setTh S n hn]; exact h6 j
 have hth : World.there ((((((w3).setCell ⟨w.heap.size, 4 + n * 5, none⟩ (.int .i64 (u.pos : Int))).setCell ⟨w.heap.size, 4 + n * 5 + 1, none⟩ (.bool u.failed)).setCell ⟨w.heap.size, 4 + n * 5 + 2, none⟩ (.int .i16 u.reg)).setCell ⟨w.heap.size, 4 + n * 5 + 3, none⟩ (.int .i64 (u.h0 : Int))).setCell ⟨w.heap.size, 4 + n * 5 + 4, none⟩ (.int .i64 (u.h1 : Int))) (w.heap.size + 1 + 1) 0 (stL (S.setTh n u)).toArray.size := fun j hj => by
  have hj' : j < 24 := by simpa [stL_length] using hj
  refine ⟨?_, ?_⟩
  ·have : ((((((w3).setCell ⟨w.heap.size, 4 + n * 5, none⟩ (.int .i64 (u.pos : Int))).setCell ⟨w.heap.size, 4 + n * 5 + 1, none⟩ (.bool u.failed)).setCell ⟨w.heap.size, 4 + n * 5 + 2, none⟩ (.int .i16 u.reg)).setCell ⟨w.heap.size, 4 + n * 5 + 3, none⟩ (.int .i64 (u.h0 : Int))).setCell ⟨w.heap.size, 4 + n * 5 + 4, none⟩ (.int .i64 (u.h1 : Int))).cell? ⟨w.heap.size + 1 + 1, 0 + j, none⟩ = (stL st0)[j]? := by
    rw [Nat.zero_add]
    exact (all_other (all_other (all_other (all_other (all_other (HS3.out.r) _ (by simp; omega) _) _ (by simp; omega) _) _ (by simp; omega) _) _ (by simp; omega) _) _ (by simp; omega) _) j
   rw [this, List.getElem?_eq_getElem (by rw [stL_length]; exact hj')]; rfl
  ·simp only [World.frozen?_setCell]; exact HS3.out.f2 _
 have hbf : Below w.heap.size w ((((((w3).setCell ⟨w.heap.size, 4 + n * 5, none⟩ (.int .i64 (u.pos : Int))).setCell ⟨w.heap.size, 4 + n * 5 + 1, none⟩ (.bool u.failed)).setCell ⟨w.heap.size, 4 + n * 5 + 2, none⟩ (.int .i16 u.reg)).setCell ⟨w.heap.size, 4 + n * 5 + 3, none⟩ (.int .i64 (u.h0 : Int))).setCell ⟨w.heap.size, 4 + n * 5 + 4, none⟩ (.int .i64 (u.h1 : Int))) := (((((HB3.out).setCell (Nat.le_refl _) _).setCell (Nat.le_refl _) _).setCell (Nat.le_refl _) _).setCell (Nat.le_refl _) _).setCell (Nat.le_refl _) _
 generalize ((((((w3).setCell ⟨w.heap.size, 4 + n * 5, none⟩ (.int .i64 (u.pos : Int))).setCell ⟨w.heap.size, 4 + n * 5 + 1, none⟩ (.bool u.failed)).setCell ⟨w.heap.size, 4 + n * 5 + 2, none⟩ (.int .i16 u.reg)).setCell ⟨w.heap.size, 4 + n * 5 + 3, none⟩ (.int .i64 (u.h0 : Int))).setCell ⟨w.heap.size, 4 + n * 5 + 4, none⟩ (.int .i64 (u.h1 : Int))) = F at *
 clear o0 o1 o2 t0 t1 t2 t3 t4 f0 f2 f3 x0 x1 x2 x3 x4
 have hrg := range_of_all hfin
 go_wp2_with (first | refine wpList_load_mid rfl 108 _ rfl w.heap.size 0 rfl (stL (S.setTh n u)) _ hrg Tryz.underlying108 rfl Tryz.size108 ?_ | refine wpList_store_mid rfl 108 _ _ rfl (w.heap.size + 1 + 1) 0 (stL (S.setTh n u)).toArray rfl rfl hth Tryz.size108 (all_oneCell_toArray (stL_one _)) ?_)
 refine bodyPost_ret (v := .tuple #[.agg (stL (S.setTh n u)).toArray, .int .i16 ((u.h1 : Int))]) (ret_state Tryz.results80 _ _ (w.heap.size + 1 + 1) _ rfl (World.rangeAt_setCells_same _ _ _ _ (by simpa using hth))) rfl ⟨rfl, ?_⟩
 exact below_setCells _ (by omega) _ _ _ hbf

theorem behindShared_unlock1 (S : St) (n : Nat) (o : Pl.POp) (u : Th) (w : World) (hn : n < 4) (hk : o.kind = 117) (hl : lockOf o.name = 1) (hh : (S.th n).h1 ≤ 1000) (hp : 0 < (S.th n).h1) (hu : u = ⟨(S.th n).pos, (S.th n).failed, (S.th n).reg, (S.th n).h0, (S.th n).h1 - 1⟩) :
  Calls Tryz.prog 80 #[.agg (stL S).toArray, .int .i64 (n : Int), .agg #[.int .u8 (o.kind : Int), .int .u8 (o.name : Int), .int .i64 o.block]] w
   fun e w' => e = .returned (.tuple #[.agg (stL (S.setTh n u)).toArray, .int .i16 ((u.h1 : Int))]) ∧ Below w.heap.size w w' := by
 have k114 : ((o.kind : Int) == 114) = false := by simp; omega
 have k119 : ((o.kind : Int) == 119) = false := by simp; omega
 have k108 : ((o.kind : Int) == 108) = false := by simp; omega
 have k117 : ((o.kind : Int) == 117) = true := by simp; omega
 clear hk
 have q0 : (0 : Int) ≤ (n : Int) := by omega
 have q1 : (n : Int) < 4 := by omega
 go_enter Tryz.func80, Tryz.ntmps80
 go_upto_region 1 with fail
 have hsh := shW_at w S o (S.th n)
 have hbw := fun x => shW_below w S o x
 have hz := shW_size w S o
 change Code.wp _ _ _ _ (shW w S o)
 have x : ∀ j, (shW w S o).cell? ⟨w.heap.size, j, none⟩ = (stL S)[j]? := fun j => by
  have := hsh.s j
  rwa [World.cell?_alloc_past _ _ _ (by omega)] at this
 obtain ⟨y0, y1, y2, y3, y4⟩ := stL_th S n hn
 have x0 := (x _).trans y0
 have x1 := (x _).trans y1
 have x2 := (x _).trans y2
 have x3 := (x _).trans y3
 have x4 := (x _).trans y4
 clear x y0 y1 y2 y3 y4
 generalize shW w S o = W at *
 go_upto_region 3 with fail
 have hbW := hbw (.cells #[.int .i64 ((S.th n).pos : Int), .bool (S.th n).failed, .int .i16 (S.th n).reg, .int .i64 ((S.th n).h0 : Int), .int .i64 ((S.th n).h1 : Int)] 105)
 have hWz : (W.alloc (.cells #[.int .i64 ((S.th n).pos : Int), .bool (S.th n).failed, .int .i16 (S.th n).reg, .int .i64 ((S.th n).h0 : Int), .int .i64 ((S.th n).h1 : Int)] 105)).heap.size = w.heap.size + 4 := by simp; omega
 generalize W.alloc (.cells #[.int .i64 ((S.th n).pos : Int), .bool (S.th n).failed, .int .i16 (S.th n).reg, .int .i64 ((S.th n).h0 : Int), .int .i64 ((S.th n).h1 : Int)] 105) = V at *
 clear x0 x1 x2 x3 x4 hbw hz
 have HSH : Hid _ := hsh
 have HBV : Hid _ := hbW
 have HVZ : Hid _ := hWz
 clear hbW hWz
 obtain ⟨s, o0, o1, o2, r, t0, t1, t2, t3, t4, f0, f2, f3⟩ := hsh
 clear s r
 have lt0 : w.heap.size < V.heap.size := by have := HVZ.out; omega
 have lt1 : w.heap.size + 1 < V.heap.size := by have := HVZ.out; omega
 have lt2 : w.heap.size + 1 + 1 < V.heap.size := by have := HVZ.out; omega
 have lt3 : w.heap.size + 3 < V.heap.size := by have := HVZ.out; omega
 have hp' : (0 : Int) < ((S.th n).h1 : Int) := by omega
 go_wp2_with fail
 refine (lock_any _ _ _ _).mono ?_
 rintro e2 w2 ⟨rfl, hb2⟩
 rw [hl]
 have hs2 := HSH.out.below hb2 (Nat.lt_of_lt_of_le lt0 (Nat.le_refl V.heap.size)) (Nat.lt_of_lt_of_le lt1 (Nat.le_refl V.heap.size)) (Nat.lt_of_lt_of_le lt2 (Nat.le_refl V.heap.size)) (Nat.lt_of_lt_of_le lt3 (Nat.le_refl V.heap.size))
 have HS2 : Hid _ := hs2
 have HB2 : Hid (Below w.heap.size w w2) := HBV.out.trans (hb2.mono (HBV.out).size)
 have HZ2 : Hid (V.heap.size ≤ w2.heap.size) := Nat.le_trans (Nat.le_refl V.heap.size) hb2.size
 clear o0 o1 o2 t0 t1 t2 t3 t4 f0 f2 f3
 obtain ⟨s, o0, o1, o2, r, t0, t1, t2, t3, t4, f0, f2, f3⟩ := hs2
 clear s r
 go_wp2_with fail
 refine (lock_any _ _ _ _).mono ?_
 rintro e3 w3 ⟨rfl, hb3⟩
 rw [hl]
 have hs3 := HS2.out.below hb3 (Nat.lt_of_lt_of_le lt0 HZ2.out) (Nat.lt_of_lt_of_le lt1 HZ2.out) (Nat.lt_of_lt_of_le lt2 HZ2.out) (Nat.lt_of_lt_of_le lt3 HZ2.out)
 have HS3 : Hid _ := hs3
 have HB3 : Hid (Below w.heap.size w w3) := HB2.out.trans (hb3.mono (HB2.out).size)
 have HZ3 : Hid (V.heap.size ≤ w3.heap.size) := Nat.le_trans HZ2.out hb3.size
 clear o0 o1 o2 t0 t1 t2 t3 t4 f0 f2 f3
 obtain ⟨s, o0, o1, o2, r, t0, t1, t2, t3, t4, f0, f2, f3⟩ := hs3
 clear s r
 have hu' : Hid _ := hu
 have hsx : Hid (ShAt (w3.setCell ⟨w.heap.size + 3, 4, none⟩ (.int .i64 (((S.th n).h1 : Int) - 1))) w.heap.size (w.heap.size + 1) (w.heap.size + 1 + 1) (w.heap.size + 3) S o u) := HS3.out.hold 1 (by omega) (by omega) (by omega) (by omega) ((S.th n).h1 - 1) _ (by omega) u (by rw [hu]; simp)
 have hbx : Hid (Below w.heap.size w (w3.setCell ⟨w.heap.size + 3, 4, none⟩ (.int .i64 (((S.th n).h1 : Int) - 1)))) := HB3.out.setCell (by simp) _
 have hzx : Hid (V.heap.size ≤ (w3.setCell ⟨w.heap.size + 3, 4, none⟩ (.int .i64 (((S.th n).h1 : Int) - 1))).heap.size) := by have := HZ3.out; show _ ≤ _; rw [World.size_setCell]; exact this
 have huh : u.h1 = (S.th n).h1 - 1 := by rw [hu]
 have HUH : Hid _ := huh
 clear hu huh
 go_wp2_with fail
 refine (lock_any _ _ _ _).mono ?_
 rintro e4 w4 ⟨rfl, hb4⟩
 rw [hl]
 have hs4 := hsx.out.below hb4 (Nat.lt_of_lt_of_le lt0 hzx.out) (Nat.lt_of_lt_of_le lt1 hzx.out) (Nat.lt_of_lt_of_le lt2 hzx.out) (Nat.lt_of_lt_of_le lt3 hzx.out)
 have HS4 : Hid _ := hs4
 have HB4 : Hid (Below w.heap.size w w4) := hbx.out.trans (hb4.mono (hbx.out).size)
 have HZ4 : Hid (V.heap.size ≤ w4.heap.size) := Nat.le_trans hzx.out hb4.size
 clear o0 o1 o2 t0 t1 t2 t3 t4 f0 f2 f3
 obtain ⟨s, o0, o1, o2, r, t0, t1, t2, t3, t4, f0, f2, f3⟩ := hs4
 obtain ⟨y0, y1, y2, y3, y4⟩ := stL_th S n hn
 have x0 := (s _).trans y0
 have x1 := (s _).trans y1
 have x2 := (s _).trans y2
 have x3 := (s _).trans y3
 have x4 := (s _).trans y4
 clear s r y0 y1 y2 y3 y4
 have hq : (u.h1 : Int) ≤ 1001 := by have := HUH.out; omega
 go_upto_region 20 with fail
 have hfin : ∀ j, ((((((w4).setCell ⟨w.heap.size, 4 + n * 5, none⟩ (.int .i64 (u.pos : Int))).setCell ⟨w.heap.size, 4 + n * 5 + 1, none⟩ (.bool u.failed)).setCell ⟨w.heap.size, 4 + n * 5 + 2, none⟩ (.int .i16 u.reg)).setCell ⟨w.heap.size, 4 + n * 5 + 3, none⟩ (.int .i64 (u.h0 : Int))).setCell ⟨w.heap.size, 4 + n * 5 + 4, none⟩ (.int .i64 (u.h1 : Int))).cell? ⟨w.heap.size, j, none⟩ = (stL (S.setTh n u))[j]? := fun j => by
  have h1 := HS4.out.s
  have h2 := all_set h1 (4 + n * 5) (by simp only [stL_length]; omega) (.int .i64 (u.pos : Int))
  have h3 := all_set h2 (4 + n * 5 + 1) (by simp only [List.length_set, stL_length]; omega) (.bool u.failed)
  have h4 := all_set h3 (4 + n * 5 + 2) (by simp only [List.length_set, stL_length]; omega) (.int .i16 u.reg)
  have h5 := all_set h4 (4 + n * 5 + 3) (by simp only [List.length_set, stL_length]; omega) (.int .i64 (u.h0 : Int))
  have h6 := all_set h5 (4 + n * 5 + 4) (by simp only [List.length_set, stL_length]; omega) (.int .i64 (u.h1 : Int))
  rw [← stL_setTh S n hn]; exact h6 j
 have hth : World.there ((((((w4).setCell ⟨w.heap.size, 4 + n * 5, none⟩ (.int .i64 (u.pos : Int))).setCell ⟨w.heap.size, 4 + n * 5 + 1, none⟩ (.bool u.failed)).setCell ⟨w.heap.size, 4 + n * 5 + 2, none⟩ (.int .i16 u.reg)).setCell ⟨w.heap.size, 4 + n * 5 + 3, none⟩ (.int .i64 (u.h0 : Int))).setCell ⟨w.heap.size, 4 + n * 5 + 4, none⟩ (.int .i64 (u.h1 : Int))) (w.heap.size + 1 + 1) 0 (stL (S.setTh n u)).toArray.size := fun j hj => by
  have hj' : j < 24 := by simpa [stL_length] using hj
  refine ⟨?_, ?_⟩
  ·have : ((((((w4).setCell ⟨w.heap.size, 4 + n * 5, none⟩ (.int .i64 (u.pos : Int))).setCell ⟨w.heap.size, 4 + n * 5 + 1, none⟩ (.bool u.failed)).setCell ⟨w.heap.size, 4 + n * 5 + 2, none⟩ (.int .i16 u.reg)).setCell ⟨w.heap.size, 4 + n * 5 + 3, none⟩ (.int .i64 (u.h0 : Int))).setCell ⟨w.heap.size, 4 + n * 5 + 4, none⟩ (.int .i64 (u.h1 : Int))).cell? ⟨w.heap.size + 1 + 1, 0 + j, none⟩ = (stL st0)[j]? := by
    rw [Nat.zero_add]
    exact (all_other (all_other (all_other (all_other (all_other (HS4.out.r) _ (by simp; omega) _) _ (by simp; omega) _) _ (by simp; omega) _) _ (by simp; omega) _) _ (by simp; omega) _) j
   rw [this, List.getElem?_eq_getElem (by rw [stL_length]; exact hj')]; rfl
  ·simp only [World.frozen?_setCell]; exact HS4.out.f2 _
 have hbf : Below w.heap.size w ((((((w4).setCell ⟨w.heap.size, 4 + n * 5, none⟩ (.int .i64 (u.pos : Int))).setCell ⟨w.heap.size, 4 + n * 5 + 1, none⟩ (.bool u.failed)).setCell ⟨w.heap.size, 4 + n * 5 + 2, none⟩ (.int .i16 u.reg)).setCell ⟨w.heap.size, 4 + n * 5 + 3, none⟩ (.int .i64 (u.h0 : Int))).setCell ⟨w.heap.size, 4 + n * 5 + 4, none⟩ (.int .i64 (u.h1 : Int))) := (((((HB4.out).setCell (Nat.le_refl _) _).setCell (Nat.le_refl _) _).setCell (Nat.le_refl _) _).setCell (Nat.le_refl _) _).setCell (Nat.le_refl _) _
 generalize ((((((w4).setCell ⟨w.heap.size, 4 + n * 5, none⟩ (.int .i64 (u.pos : Int))).setCell ⟨w.heap.size, 4 + n * 5 + 1, none⟩ (.bool u.failed)).setCell ⟨w.heap.size, 4 + n * 5 + 2, none⟩ (.int .i16 u.reg)).setCell ⟨w.heap.size, 4 + n * 5 + 3, none⟩ (.int .i64 (u.h0 : Int))).setCell ⟨w.heap.size, 4 + n * 5 + 4, none⟩ (.int .i64 (u.h1 : Int))) = F at *
 clear o0 o1 o2 t0 t1 t2 t3 t4 f0 f2 f3 x0 x1 x2 x3 x4
 have hrg := range_of_all hfin
 go_wp2_with (first | refine wpList_load_mid rfl 108 _ rfl w.heap.size 0 rfl (stL (S.setTh n u)) _ hrg Tryz.underlying108 rfl Tryz.size108 ?_ | refine wpList_store_mid rfl 108 _ _ rfl (w.heap.size + 1 + 1) 0 (stL (S.setTh n u)).toArray rfl rfl hth Tryz.size108 (all_oneCell_toArray (stL_one _)) ?_)
 refine bodyPost_ret (v := .tuple #[.agg (stL (S.setTh n u)).toArray, .int .i16 ((u.h1 : Int))]) (ret_state Tryz.results80 _ _ (w.heap.size + 1 + 1) _ rfl (World.rangeAt_setCells_same _ _ _ _ (by simpa using hth))) rfl ⟨rfl, ?_⟩
 exact below_setCells _ (by omega) _ _ _ hbf

theorem behindShared_fail1 (S : St) (n : Nat) (o : Pl.POp) (u : Th) (w : World) (hn : n < 4) (hk : o.kind = 117) (hl : lockOf o.name = 1) (hp : (S.th n).h1 = 0) (hu : u = ⟨(S.th n).pos, true, (S.th n).reg, (S.th n).h0, (S.th n).h1⟩) :
  Calls Tryz.prog 80 #[.agg (stL S).toArray, .int .i64 (n : Int), .agg #[.int .u8 (o.kind : Int), .int .u8 (o.name : Int), .int .i64 o.block]] w
   fun e w' => e = .returned (.tuple #[.agg (stL (S.setTh n u)).toArray, .int .i16 (-1)]) ∧ Below w.heap.size w w' := by
 have k114 : ((o.kind : Int) == 114) = false := by simp; omega
 have k119 : ((o.kind : Int) == 119) = false := by simp; omega
 have k108 : ((o.kind : Int) == 108) = false := by simp; omega
 have k117 : ((o.kind : Int) == 117) = true := by simp; omega
 clear hk
 have HP : Hid _ := hp
 clear hp
 have q0 : (0 : Int) ≤ (n : Int) := by omega
 have q1 : (n : Int) < 4 := by omega
 go_enter Tryz.func80, Tryz.ntmps80
 go_upto_region 1 with fail
 have hsh := shW_at w S o (S.th n)
 have hbw := fun x => shW_below w S o x
 have hz := shW_size w S o
 change Code.wp _ _ _ _ (shW w S o)
 have x : ∀ j, (shW w S o).cell? ⟨w.heap.size, j, none⟩ = (stL S)[j]? := fun j => by
  have := hsh.s j
  rwa [World.cell?_alloc_past _ _ _ (by omega)] at this
 obtain ⟨y0, y1, y2, y3, y4⟩ := stL_th S n hn
 have x0 := (x _).trans y0
 have x1 := (x _).trans y1
 have x2 := (x _).trans y2
 have x3 := (x _).trans y3
 have x4 := (x _).trans y4
 clear x y0 y1 y2 y3 y4
 generalize shW w S o = W at *
 go_upto_region 3 with fail
 have hbW := hbw (.cells #[.int .i64 ((S.th n).pos : Int), .bool (S.th n).failed, .int .i16 (S.th n).reg, .int .i64 ((S.th n).h0 : Int), .int .i64 ((S.th n).h1 : Int)] 105)
 have hWz : (W.alloc (.cells #[.int .i64 ((S.th n).pos : Int), .bool (S.th n).failed, .int .i16 (S.th n).reg, .int .i64 ((S.th n).h0 : Int), .int .i64 ((S.th n).h1 : Int)] 105)).heap.size = w.heap.size + 4 := by simp; omega
 generalize W.alloc (.cells #[.int .i64 ((S.th n).pos : Int), .bool (S.th n).failed, .int .i16 (S.th n).reg, .int .i64 ((S.th n).h0 : Int), .int .i64 ((S.th n).h1 : Int)] 105) = V at *
 clear x0 x1 x2 x3 x4 hbw hz
 have HSH : Hid _ := hsh
 have HBV : Hid _ := hbW
 have HVZ : Hid _ := hWz
 clear hbW hWz
 obtain ⟨s, o0, o1, o2, r, t0, t1, t2, t3, t4, f0, f2, f3⟩ := hsh
 clear s r
 have lt0 : w.heap.size < V.heap.size := by have := HVZ.out; omega
 have lt1 : w.heap.size + 1 < V.heap.size := by have := HVZ.out; omega
 have lt2 : w.heap.size + 1 + 1 < V.heap.size := by have := HVZ.out; omega
 have lt3 : w.heap.size + 3 < V.heap.size := by have := HVZ.out; omega
 go_wp2_with fail
 refine (lock_any _ _ _ _).mono ?_
 rintro e2 w2 ⟨rfl, hb2⟩
 rw [hl]
 have hs2 := HSH.out.below hb2 (Nat.lt_of_lt_of_le lt0 (Nat.le_refl V.heap.size)) (Nat.lt_of_lt_of_le lt1 (Nat.le_refl V.heap.size)) (Nat.lt_of_lt_of_le lt2 (Nat.le_refl V.heap.size)) (Nat.lt_of_lt_of_le lt3 (Nat.le_refl V.heap.size))
 have HS2 : Hid _ := hs2
 have HB2 : Hid (Below w.heap.size w w2) := HBV.out.trans (hb2.mono (HBV.out).size)
 have HZ2 : Hid (V.heap.size ≤ w2.heap.size) := Nat.le_trans (Nat.le_refl V.heap.size) hb2.size
 clear o0 o1 o2 t0 t1 t2 t3 t4 f0 f2 f3
 obtain ⟨s, o0, o1, o2, r, t0, t1, t2, t3, t4, f0, f2, f3⟩ := hs2
 have hp' : ¬ (0 : Int) < ((S.th n).h1 : Int) := by have := HP.out; omega
 have hsx : Hid (ShAt (w2.setCell ⟨w.heap.size + 3, 1, none⟩ (.bool true)) w.heap.size (w.heap.size + 1) (w.heap.size + 1 + 1) (w.heap.size + 3) S o u) := HS2.out.fail (by omega) (by omega) (by omega) u hu
 have hbx : Hid (Below w.heap.size w (w2.setCell ⟨w.heap.size + 3, 1, none⟩ (.bool true))) := HB2.out.setCell (by simp) _
 clear hu s r
 go_upto_region 19 with fail
 generalize w2.setCell ⟨w.heap.size + 3, 1, none⟩ (.bool true) = X at *
 clear o0 o1 o2 t0 t1 t2 t3 t4 f0 f2 f3
 obtain ⟨s, o0, o1, o2, r, t0, t1, t2, t3, t4, f0, f2, f3⟩ := hsx.out
 obtain ⟨y0, y1, y2, y3, y4⟩ := stL_th S n hn
 have x0 := (s _).trans y0
 have x1 := (s _).trans y1
 have x2 := (s _).trans y2
 have x3 := (s _).trans y3
 have x4 := (s _).trans y4
 clear s r y0 y1 y2 y3 y4
 go_upto_region 20 with fail
 have hfin : ∀ j, ((((((X).setCell ⟨w.heap.size, 4 + n * 5, none⟩ (.int .i64 (u.pos : Int))).setCell ⟨w.heap.size, 4 + n * 5 + 1, none⟩ (.bool u.failed)).setCell ⟨w.heap.size, 4 + n * 5 + 2, none⟩ (.int .i16 u.reg)).setCell ⟨w.heap.size, 4 + n * 5 + 3, none⟩ (.int .i64 (u.h0 : Int))).setCell ⟨w.heap.size, 4 + n * 5 + 4, none⟩ (.int .i64 (u.h1 : Int))).cell? ⟨w.heap.size, j, none⟩ = (stL (S.setTh n u))[j]? := fun j => by
  have h1 := hsx.out.s
  have h2 := all_set h1 (4 + n * 5) (by simp only [stL_length]; omega) (.int .i64 (u.pos : Int))
  have h3 := all_set h2 (4 + n * 5 + 1) (by simp only [List.length_set, stL_length]; omega) (.bool u.failed)
  have h4 := all_set h3 (4 + n * 5 + 2) (by simp only [List.length_set, stL_length]; omega) (.int .i16 u.reg)
  have h5 := all_set h4 (4 + n * 5 + 3) (by simp only [List.length_set, stL_length]; omega) (.int .i64 (u.h0 : Int))
  have h6 := all_set h5 (4 + n * 5 + 4) (by simp only [List.length_set, stL_length]; omega) (.int .i64 (u.h1 : Int))
  rw [← stL_setTh S n hn]; exact h6 j
 have hth : World.there ((((((X).setCell ⟨w.heap.size, 4 + n * 5, none⟩ (.int .i64 (u.pos : Int))).setCell ⟨w.heap.size, 4 + n * 5 + 1, none⟩ (.bool u.failed)).setCell ⟨w.heap.size, 4 + n * 5 + 2, none⟩ (.int .i16 u.reg)).setCell ⟨w.heap.size, 4 + n * 5 + 3, none⟩ (.int .i64 (u.h0 : Int))).setCell ⟨w.heap.size, 4 + n * 5 + 4, none⟩ (.int .i64 (u.h1 : Int))) (w.heap.size + 1 + 1) 0 (stL (S.setTh n u)).toArray.size := fun j hj => by
  have hj' : j < 24 := by simpa [stL_length] using hj
  refine ⟨?_, ?_⟩
  ·have : ((((((X).setCell ⟨w.heap.size, 4 + n * 5, none⟩ (.int .i64 (u.pos : Int))).setCell ⟨w.heap.size, 4 + n * 5 + 1, none⟩ (.bool u.failed)).setCell ⟨w.heap.size, 4 + n * 5 + 2, none⟩ (.int .i16 u.reg)).setCell ⟨w.heap.size, 4 + n * 5 + 3, none⟩ (.int .i64 (u.h0 : Int))).setCell ⟨w.heap.size, 4 + n * 5 + 4, none⟩ (.int .i64 (u.h1 : Int))).cell? ⟨w.heap.size + 1 + 1, 0 + j, none⟩ = (stL st0)[j]? := by
    rw [Nat.zero_add]
    exact (all_other (all_other (all_other (all_other (all_other (hsx.out.r) _ (by simp; omega) _) _ (by simp; omega) _) _ (by simp; omega) _) _ (by simp; omega) _) _ (by simp; omega) _) j
   rw [this, List.getElem?_eq_getElem (by rw [stL_length]; exact hj')]; rfl
  ·simp only [World.frozen?_setCell]; exact hsx.out.f2 _
 have hbf : Below w.heap.size w ((((((X).setCell ⟨w.heap.size, 4 + n * 5, none⟩ (.int .i64 (u.pos : Int))).setCell ⟨w.heap.size, 4 + n * 5 + 1, none⟩ (.bool u.failed)).setCell ⟨w.heap.size, 4 + n * 5 + 2, none⟩ (.int .i16 u.reg)).setCell ⟨w.heap.size, 4 + n * 5 + 3, none⟩ (.int .i64 (u.h0 : Int))).setCell ⟨w.heap.size, 4 + n * 5 + 4, none⟩ (.int .i64 (u.h1 : Int))) := (((((hbx.out).setCell (Nat.le_refl _) _).setCell (Nat.le_refl _) _).setCell (Nat.le_refl _) _).setCell (Nat.le_refl _) _).setCell (Nat.le_refl _) _
 generalize ((((((X).setCell ⟨w.heap.size, 4 + n * 5, none⟩ (.int .i64 (u.pos : Int))).setCell ⟨w.heap.size, 4 + n * 5 + 1, none⟩ (.bool u.failed)).setCell ⟨w.heap.size, 4 + n * 5 + 2, none⟩ (.int .i16 u.reg)).setCell ⟨w.heap.size, 4 + n * 5 + 3, none⟩ (.int .i64 (u.h0 : Int))).setCell ⟨w.heap.size, 4 + n * 5 + 4, none⟩ (.int .i64 (u.h1 : Int))) = F at *
 clear o0 o1 o2 t0 t1 t2 t3 t4 f0 f2 f3 x0 x1 x2 x3 x4
 have hrg := range_of_all hfin
 go_wp2_with (first | refine wpList_load_mid rfl 108 _ rfl w.heap.size 0 rfl (stL (S.setTh n u)) _ hrg Tryz.underlying108 rfl Tryz.size108 ?_ | refine wpList_store_mid rfl 108 _ _ rfl (w.heap.size + 1 + 1) 0 (stL (S.setTh n u)).toArray rfl rfl hth Tryz.size108 (all_oneCell_toArray (stL_one _)) ?_)
 refine bodyPost_ret (v := .tuple #[.agg (stL (S.setTh n u)).toArray, .int .i16 (-1)]) (ret_state Tryz.results80 _ _ (w.heap.size + 1 + 1) _ rfl (World.rangeAt_setCells_same _ _ _ _ (by simpa using hth))) rfl ⟨rfl, ?_⟩
 exact below_setCells _ (by omega) _ _ _ hbf

theorem behindShared_write (S : St) (n : Nat) (o : Pl.POp) (u : Th) (w : World) (hn : n < 4) (hk : o.kind = 119) (hu : u = S.th n) :
  Calls Tryz.prog 80 #[.agg (stL S).toArray, .int .i64 (n : Int), .agg #[.int .u8 (o.kind : Int), .int .u8 (o.name : Int), .int .i64 o.block]] w
   fun e w' => e = .returned (.tuple #[.agg (stL ((S.setVar (varOf o.name) (S.th n).reg).setTh n u)).toArray, .int .i16 ((S.th n).reg)]) ∧ Below w.heap.size w w' := by
 have k114 : ((o.kind : Int) == 114) = false := by simp; omega
 have k119 : ((o.kind : Int) == 119) = true := by simp; omega
 clear hk
 subst hu
 have q0 : (0 : Int) ≤ (n : Int) := by omega
 have q1 : (n : Int) < 4 := by omega
 go_enter Tryz.func80, Tryz.ntmps80
 go_upto_region 1 with fail
 have hsh := shW_at w S o (S.th n)
 have hbw := fun x => shW_below w S o x
 have hz := shW_size w S o
 change Code.wp _ _ _ _ (shW w S o)
 have x : ∀ j, (shW w S o).cell? ⟨w.heap.size, j, none⟩ = (stL S)[j]? := fun j => by
  have := hsh.s j
  rwa [World.cell?_alloc_past _ _ _ (by omega)] at this
 obtain ⟨y0, y1, y2, y3, y4⟩ := stL_th S n hn
 have x0 := (x _).trans y0
 have x1 := (x _).trans y1
 have x2 := (x _).trans y2
 have x3 := (x _).trans y3
 have x4 := (x _).trans y4
 clear x y0 y1 y2 y3 y4
 generalize shW w S o = W at *
 go_upto_region 3 with fail
 have hbW := hbw (.cells #[.int .i64 ((S.th n).pos : Int), .bool (S.th n).failed, .int .i16 (S.th n).reg, .int .i64 ((S.th n).h0 : Int), .int .i64 ((S.th n).h1 : Int)] 105)
 have hWz : (W.alloc (.cells #[.int .i64 ((S.th n).pos : Int), .bool (S.th n).failed, .int .i16 (S.th n).reg, .int .i64 ((S.th n).h0 : Int), .int .i64 ((S.th n).h1 : Int)] 105)).heap.size = w.heap.size + 4 := by simp; omega
 generalize W.alloc (.cells #[.int .i64 ((S.th n).pos : Int), .bool (S.th n).failed, .int .i16 (S.th n).reg, .int .i64 ((S.th n).h0 : Int), .int .i64 ((S.th n).h1 : Int)] 105) = V at *
 clear x0 x1 x2 x3 x4 hbw hz
 have HSH : Hid _ := hsh
 have HBV : Hid _ := hbW
 have HVZ : Hid _ := hWz
 clear hbW hWz
 obtain ⟨s, o0, o1, o2, r, t0, t1, t2, t3, t4, f0, f2, f3⟩ := hsh
 clear s r
 have lt0 : w.heap.size < V.heap.size := by have := HVZ.out; omega
 have lt1 : w.heap.size + 1 < V.heap.size := by have := HVZ.out; omega
 have lt2 : w.heap.size + 1 + 1 < V.heap.size := by have := HVZ.out; omega
 have lt3 : w.heap.size + 3 < V.heap.size := by have := HVZ.out; omega
 have hv := varOf_lt o.name
 have p0 : (0 : Int) ≤ (varOf o.name : Int) := by omega
 have p1 : (varOf o.name : Int) < 4 := by omega
 have sv : ∀ w' : World, (∀ j, w'.cell? ⟨w.heap.size, j, none⟩ = (stL S)[j]?) → w'.cell? ⟨w.heap.size, varOf o.name, none⟩ = some (.int .i16 (S.var (varOf o.name))) := fun w' h => (h _).trans (stL_var S _ hv)
 have HSV : Hid _ := sv
 clear sv
 have nb : (⟨w.heap.size, varOf o.name, none⟩ : Addr) ≠ ⟨w.heap.size + 3, 2, none⟩ := by simp
 go_upto_region 8 with fail
 go_region_held3 (fun w' => w'.cell? ⟨w.heap.size + 1, 0, none⟩ = some (.int .u8 (o.kind : Int)) ∧ w'.cell? ⟨w.heap.size + 1, 1, none⟩ = some (.int .u8 (o.name : Int)) ∧ w'.cell? ⟨w.heap.size + 1, 2, none⟩ = some (.int .i64 o.block) ∧ w'.cell? ⟨w.heap.size + 3, 2, none⟩ = some (.int .i16 (S.th n).reg))
  (first | exact ⟨o0, o1, o2, t2⟩ | exact ⟨a0, a1, a2, a3⟩ | (simp [World.cell?_setCell_other, a0, a1, a2, a3]))
  (first | (go_at_call 96; refine (variable_any _ _ _ _).mono ?_; rintro e w2 ⟨rfl, hb2'⟩; have hb2 : Below V.heap.size V w2 := (Below.refl _ _).drew.trans (hb2'.mono (Nat.le_refl _)); have a0 := (hb2.cell (p := ⟨w.heap.size + 1, 0, none⟩) lt1).trans o0; have a1 := (hb2.cell (p := ⟨w.heap.size + 1, 1, none⟩) lt1).trans o1; have a2 := (hb2.cell (p := ⟨w.heap.size + 1, 2, none⟩) lt1).trans o2; have a3 := (hb2.cell (p := ⟨w.heap.size + 3, 2, none⟩) lt3).trans t2; have a4 := HSV.out w2 (all_below HSH.out.s hb2 lt0); have a5 := (hb2.frozen (p := ⟨w.heap.size, varOf o.name, none⟩) lt0).trans (f0 _)))
 have hs3 := (HSH.out.below hb2 lt0 lt1 lt2 lt3).setVar (varOf o.name) hv (by omega) (by omega) (by omega) (S.th n).reg
 have hb3 : Below w.heap.size w (w2.setCell ⟨w.heap.size, varOf o.name, none⟩ (.int .i16 (S.th n).reg)) := (HBV.out.trans (hb2.mono (HBV.out.size))).setCell (Nat.le_refl _) _
 generalize w2.setCell ⟨w.heap.size, varOf o.name, none⟩ (.int .i16 (S.th n).reg) = w3 at *
 clear a0 a1 a2 a3 a4 a5 o0 o1 o2 t0 t1 t2 t3 t4 f0 f2 f3
 have HS3 : Hid _ := hs3
 have HB3 : Hid _ := hb3
 clear hb3
 obtain ⟨s, o0, o1, o2, r, t0, t1, t2, t3, t4, f0, f2, f3⟩ := hs3
 obtain ⟨y0, y1, y2, y3, y4⟩ := stL_th (S.setVar (varOf o.name) (S.th n).reg) n hn
 have x0 := (s _).trans y0
 have x1 := (s _).trans y1
 have x2 := (s _).trans y2
 have x3 := (s _).trans y3
 have x4 := (s _).trans y4
 clear s r y0 y1 y2 y3 y4
 go_upto_region 20 with fail
 have hfin : ∀ j, ((((((w3).setCell ⟨w.heap.size, 4 + n * 5, none⟩ (.int .i64 ((S.th n).pos : Int))).setCell ⟨w.heap.size, 4 + n * 5 + 1, none⟩ (.bool (S.th n).failed)).setCell ⟨w.heap.size, 4 + n * 5 + 2, none⟩ (.int .i16 (S.th n).reg)).setCell ⟨w.heap.size, 4 + n * 5 + 3, none⟩ (.int .i64 ((S.th n).h0 : Int))).setCell ⟨w.heap.size, 4 + n * 5 + 4, none⟩ (.int .i64 ((S.th n).h1 : Int))).cell? ⟨w.heap.size, j, none⟩ = (stL ((S.setVar (varOf o.name) (S.th n).reg).setTh n (S.th n)))[j]? := fun j => by
  have h1 := HS3.out.s
  have h2 := all_set h1 (4 + n * 5) (by simp only [stL_length]; omega) (.int .i64 ((S.th n).pos : Int))
  have h3 := all_set h2 (4 + n * 5 + 1) (by simp only [List.length_set, stL_length]; omega) (.bool (S.th n).failed)
  have h4 := all_set h3 (4 + n * 5 + 2) (by simp only [List.length_set, stL_length]; omega) (.int .i16 (S.th n).reg)
  have h5 := all_set h4 (4 + n * 5 + 3) (by simp only [List.length_set, stL_length]; omega) (.int .i64 ((S.th n).h0 : Int))
  have h6 := all_set h5 (4 + n * 5 + 4) (by simp only [List.length_set, stL_length]; omega) (.int .i64 ((S.th n).h1 : Int))
  rw [← stL_setTh (S.setVar (varOf o.name) (S.th n).reg) n hn]; exact h6 j
 have hth : World.there ((((((w3).setCell ⟨w.heap.size, 4 + n * 5, none⟩ (.int .i64 ((S.th n).pos : Int))).setCell ⟨w.heap.size, 4 + n * 5 + 1, none⟩ (.bool (S.th n).failed)).setCell ⟨w.heap.size, 4 + n * 5 + 2, none⟩ (.int .i16 (S.th n).reg)).setCell ⟨w.heap.size, 4 + n * 5 + 3, none⟩ (.int .i64 ((S.th n).h0 : Int))).setCell ⟨w.heap.size, 4 + n * 5 + 4, none⟩ (.int .i64 ((S.th n).h1 : Int))) (w.heap.size + 1 + 1) 0 (stL ((S.setVar (varOf o.name) (S.th n).reg).setTh n (S.th n))).toArray.size := fun j hj => by
  have hj' : j < 24 := by simpa [stL_length] using hj
  refine ⟨?_, ?_⟩
  ·have : ((((((w3).setCell ⟨w.heap.size, 4 + n * 5, none⟩ (.int .i64 ((S.th n).pos : Int))).setCell ⟨w.heap.size, 4 + n * 5 + 1, none⟩ (.bool (S.th n).failed)).setCell ⟨w.heap.size, 4 + n * 5 + 2, none⟩ (.int .i16 (S.th n).reg)).setCell ⟨w.heap.size, 4 + n * 5 + 3, none⟩ (.int .i64 ((S.th n).h0 : Int))).setCell ⟨w.heap.size, 4 + n * 5 + 4, none⟩ (.int .i64 ((S.th n).h1 : Int))).cell? ⟨w.heap.size + 1 + 1, 0 + j, none⟩ = (stL st0)[j]? := by
    rw [Nat.zero_add]
    exact (all_other (all_other (all_other (all_other (all_other (HS3.out.r) _ (by simp; omega) _) _ (by simp; omega) _) _ (by simp; omega) _) _ (by simp; omega) _) _ (by simp; omega) _) j
   rw [this, List.getElem?_eq_getElem (by rw [stL_length]; exact hj')]; rfl
  ·simp only [World.frozen?_setCell]; exact HS3.out.f2 _
 have hbf : Below w.heap.size w ((((((w3).setCell ⟨w.heap.size, 4 + n * 5, none⟩ (.int .i64 ((S.th n).pos : Int))).setCell ⟨w.heap.size, 4 + n * 5 + 1, none⟩ (.bool (S.th n).failed)).setCell ⟨w.heap.size, 4 + n * 5 + 2, none⟩ (.int .i16 (S.th n).reg)).setCell ⟨w.heap.size, 4 + n * 5 + 3, none⟩ (.int .i64 ((S.th n).h0 : Int))).setCell ⟨w.heap.size, 4 + n * 5 + 4, none⟩ (.int .i64 ((S.th n).h1 : Int))) := (((((HB3.out).setCell (Nat.le_refl _) _).setCell (Nat.le_refl _) _).setCell (Nat.le_refl _) _).setCell (Nat.le_refl _) _).setCell (Nat.le_refl _) _
 generalize ((((((w3).setCell ⟨w.heap.size, 4 + n * 5, none⟩ (.int .i64 ((S.th n).pos : Int))).setCell ⟨w.heap.size, 4 + n * 5 + 1, none⟩ (.bool (S.th n).failed)).setCell ⟨w.heap.size, 4 + n * 5 + 2, none⟩ (.int .i16 (S.th n).reg)).setCell ⟨w.heap.size, 4 + n * 5 + 3, none⟩ (.int .i64 ((S.th n).h0 : Int))).setCell ⟨w.heap.size, 4 + n * 5 + 4, none⟩ (.int .i64 ((S.th n).h1 : Int))) = F at *
 clear o0 o1 o2 t0 t1 t2 t3 t4 f0 f2 f3 x0 x1 x2 x3 x4
 have hrg := range_of_all hfin
 go_wp2_with (first | refine wpList_load_mid rfl 108 _ rfl w.heap.size 0 rfl (stL ((S.setVar (varOf o.name) (S.th n).reg).setTh n (S.th n))) _ hrg Tryz.underlying108 rfl Tryz.size108 ?_ | refine wpList_store_mid rfl 108 _ _ rfl (w.heap.size + 1 + 1) 0 (stL ((S.setVar (varOf o.name) (S.th n).reg).setTh n (S.th n))).toArray rfl rfl hth Tryz.size108 (all_oneCell_toArray (stL_one _)) ?_)
 refine bodyPost_ret (v := .tuple #[.agg (stL ((S.setVar (varOf o.name) (S.th n).reg).setTh n (S.th n))).toArray, .int .i16 ((S.th n).reg)]) (ret_state Tryz.results80 _ _ (w.heap.size + 1 + 1) _ rfl (World.rangeAt_setCells_same _ _ _ _ (by simpa using hth))) rfl ⟨rfl, ?_⟩
 exact below_setCells _ (by omega) _ _ _ hbf

end Go.Proofs.YtfdafcnfefbcbabGreat
