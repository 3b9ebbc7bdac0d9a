/-
 The contract of behindShared.
-/
import Derived.Test.YtfdafcnfefbcbabGreatHel
namespace Go.Proofs.YtfdafcnfefbcbabGreat
open Go.RowKit
set_option linter.unusedVariables false
set_option maxRecDepth 100000
set_option maxHeartbeats 2000000

def St.var (S : St) : Nat → Int
 | 0 => S.v0
 | 1 => S.v1
 | 2 => S.v2
 | _ => S.v3

def St.setVar (S : St) : Nat → Int → St
 | 0, x => ⟨x, S.v1, S.v2, S.v3, S.t0, S.t1, S.t2, S.t3⟩
 | 1, x => ⟨S.v0, x, S.v2, S.v3, S.t0, S.t1, S.t2, S.t3⟩
 | 2, x => ⟨S.v0, S.v1, x, S.v3, S.t0, S.t1, S.t2, S.t3⟩
 | _, x => ⟨S.v0, S.v1, S.v2, x, S.t0, S.t1, S.t2, S.t3⟩

def St.setTh (S : St) : Nat → Th → St
 | 0, t => ⟨S.v0, S.v1, S.v2, S.v3, t, S.t1, S.t2, S.t3⟩
 | 1, t => ⟨S.v0, S.v1, S.v2, S.v3, S.t0, t, S.t2, S.t3⟩
 | 2, t => ⟨S.v0, S.v1, S.v2, S.v3, S.t0, S.t1, t, S.t3⟩
 | _, t => ⟨S.v0, S.v1, S.v2, S.v3, S.t0, S.t1, S.t2, t⟩

theorem varOf_lt (n : Nat) : varOf n < 4 := by unfold varOf; (repeat' split); all_goals omega

theorem stL_var (S : St) (v : Nat) (h : v < 4) : (stL S)[v]? = some (.int .i16 (S.var v)) := by
 have : v = 0 ∨ v = 1 ∨ v = 2 ∨ v = 3 := by omega
 rcases this with rfl | rfl | rfl | rfl <;> rfl

theorem stL_th (S : St) (n : Nat) (h : n < 4) : (stL S)[4 + n * 5]? = some (.int .i64 ((S.th n).pos : Int)) ∧ (stL S)[4 + n * 5 + 1]? = some (.bool (S.th n).failed) ∧ (stL S)[4 + n * 5 + 2]? = some (.int .i16 (S.th n).reg) ∧
  (stL S)[4 + n * 5 + 3]? = some (.int .i64 ((S.th n).h0 : Int)) ∧ (stL S)[4 + n * 5 + 4]? = some (.int .i64 ((S.th n).h1 : Int)) := by
 have : n = 0 ∨ n = 1 ∨ n = 2 ∨ n = 3 := by omega
 rcases this with rfl | rfl | rfl | rfl <;> exact ⟨rfl, rfl, rfl, rfl, rfl⟩

theorem stL_setVar (S : St) (v : Nat) (h : v < 4) (x : Int) : (stL S).set v (.int .i16 x) = stL (S.setVar v x) := by
 have : v = 0 ∨ v = 1 ∨ v = 2 ∨ v = 3 := by omega
 rcases this with rfl | rfl | rfl | rfl <;> rfl

theorem stL_setTh (S : St) (n : Nat) (h : n < 4) (t : Th) : (((((stL S).set (4 + n * 5) (.int .i64 (t.pos : Int))).set (4 + n * 5 + 1) (.bool t.failed)).set (4 + n * 5 + 2) (.int .i16 t.reg)).set (4 + n * 5 + 3) (.int .i64 (t.h0 : Int))).set (4 + n * 5 + 4) (.int .i64 (t.h1 : Int)) = stL (S.setTh n t) := by
 have : n = 0 ∨ n = 1 ∨ n = 2 ∨ n = 3 := by omega
 rcases this with rfl | rfl | rfl | rfl <;> rfl

theorem all_set {w : World} {b : Nat} {cs : List Value} (h : ∀ j, w.cell? ⟨b, j, none⟩ = cs[j]?) (i : Nat) (hi : i < cs.length) (v : Value) : ∀ j, (w.setCell ⟨b, i, none⟩ v).cell? ⟨b, j, none⟩ = (cs.set i v)[j]? := fun j => by
 rw [List.getElem?_set]
 by_cases e : i = j
 ·subst e
  rw [if_pos rfl, if_pos hi]
  exact World.cell?_setCell_same _ _ _ ((h i).trans (List.getElem?_eq_getElem hi))
 ·rw [if_neg e, World.cell?_setCell_other (h := by intro h; exact e (by injection h))]
  exact h j

theorem all_other {w : World} {b : Nat} {cs : List Value} (h : ∀ j, w.cell? ⟨b, j, none⟩ = cs[j]?) (a : Addr) (ha : a.block ≠ b) (v : Value) : ∀ j, (w.setCell a v).cell? ⟨b, j, none⟩ = cs[j]? := fun j => by
 rw [World.cell?_setCell_other (h := fun e => ha (by rw [e]))]; exact h j

def th0 : Th := ⟨0, false, 0, 0, 0⟩
def st0 : St := ⟨0, 0, 0, 0, th0, th0, th0, th0⟩

/-- The variables of behindShared in memory: the state, the operation, the result, the thread. -/
structure ShAt (W : World) (b0 b1 b2 b3 : Nat) (S : St) (o : Pl.POp) (t : Th) : Prop where
 s : ∀ j, W.cell? ⟨b0, j, none⟩ = (stL S)[j]?
 o0 : W.cell? ⟨b1, 0, none⟩ = some (.int .u8 (o.kind : Int))
 o1 : W.cell? ⟨b1, 1, none⟩ = some (.int .u8 (o.name : Int))
 o2 : W.cell? ⟨b1, 2, none⟩ = some (.int .i64 o.block)
 r : ∀ j, W.cell? ⟨b2, j, none⟩ = (stL st0)[j]?
 t0 : W.cell? ⟨b3, 0, none⟩ = some (.int .i64 (t.pos : Int))
 t1 : W.cell? ⟨b3, 1, none⟩ = some (.bool t.failed)
 t2 : W.cell? ⟨b3, 2, none⟩ = some (.int .i16 t.reg)
 t3 : W.cell? ⟨b3, 3, none⟩ = some (.int .i64 (t.h0 : Int))
 t4 : W.cell? ⟨b3, 4, none⟩ = some (.int .i64 (t.h1 : Int))
 f0 : ∀ j, W.frozen? ⟨b0, j, none⟩ = false
 f2 : ∀ j, W.frozen? ⟨b2, j, none⟩ = false
 f3 : ∀ j, W.frozen? ⟨b3, j, none⟩ = false

theorem ShAt.below {w w' : World} {b0 b1 b2 b3 : Nat} {S : St} {o : Pl.POp} {t : Th} {B : Nat} (h : ShAt w b0 b1 b2 b3 S o t) (hb : Below B w w') (h0 : b0 < B) (h1 : b1 < B) (h2 : b2 < B) (h3 : b3 < B) : ShAt w' b0 b1 b2 b3 S o t :=
 ⟨all_below h.s hb h0, (hb.cell (p := ⟨b1, 0, none⟩) h1).trans h.o0, (hb.cell (p := ⟨b1, 1, none⟩) h1).trans h.o1, (hb.cell (p := ⟨b1, 2, none⟩) h1).trans h.o2, all_below h.r hb h2,
  (hb.cell (p := ⟨b3, 0, none⟩) h3).trans h.t0, (hb.cell (p := ⟨b3, 1, none⟩) h3).trans h.t1, (hb.cell (p := ⟨b3, 2, none⟩) h3).trans h.t2, (hb.cell (p := ⟨b3, 3, none⟩) h3).trans h.t3, (hb.cell (p := ⟨b3, 4, none⟩) h3).trans h.t4,
  fun j => (hb.frozen (p := ⟨b0, j, none⟩) h0).trans (h.f0 j), fun j => (hb.frozen (p := ⟨b2, j, none⟩) h2).trans (h.f2 j), fun j => (hb.frozen (p := ⟨b3, j, none⟩) h3).trans (h.f3 j)⟩

/-- The world in which behindShared's own work begins. -/
def shW (w : World) (S : St) (o : Pl.POp) : World :=
 ((w.alloc (.cells (stL S).toArray 108)).alloc (.cells #[.int .u8 (o.kind : Int), .int .u8 (o.name : Int), .int .i64 o.block] 165)).alloc (.cells (stL st0).toArray 108)

theorem shW_size (w : World) (S : St) (o : Pl.POp) : (shW w S o).heap.size = w.heap.size + 3 := by simp [shW]

theorem shW_at (w : World) (S : St) (o : Pl.POp) (t : Th) : ShAt ((shW w S o).alloc (.cells #[.int .i64 (t.pos : Int), .bool t.failed, .int .i16 t.reg, .int .i64 (t.h0 : Int), .int .i64 (t.h1 : Int)] 105)) w.heap.size (w.heap.size + 1) (w.heap.size + 1 + 1) (w.heap.size + 3) S o t := by
 have hz := shW_size w S o
 refine ⟨fun j => ?_, ?_, ?_, ?_, fun j => ?_, ?_, ?_, ?_, ?_, ?_, fun j => ?_, fun j => ?_, fun j => ?_⟩
 ·rw [World.cell?_alloc_past _ _ _ (by omega)]; unfold shW
  rw [World.cell?_alloc_past _ _ _ (by simp; omega), World.cell?_alloc_past _ _ _ (by simp), box_cell]
 ·rw [World.cell?_alloc_past _ _ _ (by omega)]; unfold shW
  rw [World.cell?_alloc_past _ _ _ (by simp)]; simp [go_sem]
 ·rw [World.cell?_alloc_past _ _ _ (by omega)]; unfold shW
  rw [World.cell?_alloc_past _ _ _ (by simp)]; simp [go_sem]
 ·rw [World.cell?_alloc_past _ _ _ (by omega)]; unfold shW
  rw [World.cell?_alloc_past _ _ _ (by simp)]; simp [go_sem]
 ·rw [World.cell?_alloc_past _ _ _ (by omega)]; unfold shW
  have := box_cell ((w.alloc (.cells (stL S).toArray 108)).alloc (.cells #[.int .u8 (o.kind : Int), .int .u8 (o.name : Int), .int .i64 o.block] 165)) st0 j
  simpa using this
 ·have e : w.heap.size + 3 = (shW w S o).heap.size := by omega
  rw [e]; simp
 ·have e : w.heap.size + 3 = (shW w S o).heap.size := by omega
  rw [e]; simp
 ·have e : w.heap.size + 3 = (shW w S o).heap.size := by omega
  rw [e]; simp
 ·have e : w.heap.size + 3 = (shW w S o).heap.size := by omega
  rw [e]; simp
 ·have e : w.heap.size + 3 = (shW w S o).heap.size := by omega
  rw [e]; simp
 ·rw [frozen?_alloc_cells]; unfold shW
  rw [frozen?_alloc_cells, frozen?_alloc_cells]; simp [go_sem]
 ·rw [frozen?_alloc_cells]; unfold shW
  rw [World.frozen?_alloc_at _ _ _ _ (by simp)]
 ·rw [World.frozen?_alloc_at _ _ _ _ (by omega)]

theorem shW_below (w : World) (S : St) (o : Pl.POp) (x : Obj) : Below w.heap.size w ((shW w S o).alloc x) := (three_new w _ _ _).alloc (by simp; omega) _

theorem fin_at {F : World} {b : Nat} {S' : St} (h : ∀ j, F.cell? ⟨b, j, none⟩ = (stL S')[j]?) : ∀ j, F.cell? ⟨b, j, none⟩ = (stL S')[j]? := h

theorem behindShared_read (S : St) (n : Nat) (o : Pl.POp) (w : World) (hn : n < 4) (hk : o.kind = 114) :
  Calls Tryz.prog 80 #[.agg (stL S).toArray, .int .i64 (n : Int), .agg #[.int .u8 (o.kind : Int), .int .u8 (o.name : Int), .int .i64 o.block]] w
   fun e w' => e = .returned (.tuple #[.agg (stL (S.setTh n ⟨(S.th n).pos, (S.th n).failed, S.var (varOf o.name), (S.th n).h0, (S.th n).h1⟩)).toArray, .int .i16 (S.var (varOf o.name))]) ∧ Below w.heap.size w w' := by
 have e1 : ((o.kind : Int) == 114) = true := by simp; omega
 have q0 : (0 : Int) ≤ (n : Int) := by omega
 have q1 : (n : Int) < 4 := by omega
 clear hk
 go_enter Tryz.func80, Tryz.ntmps80
 go_upto_region 1 with fail
 have hsh := shW_at w S o (S.th n)
 have hbw := fun x => shW_below w S o x
 have hz := shW_size w S o
 change Code.wp _ _ _ _ (shW w S o)
 have x : ∀ j, (shW w S o).cell? ⟨w.heap.size, j, none⟩ = (stL S)[j]? := fun j => by
  have := hsh.s j
  rwa [World.cell?_alloc_past _ _ _ (by omega)] at this
 obtain ⟨y0, y1, y2, y3, y4⟩ := stL_th S n hn
 have x0 := (x _).trans y0
 have x1 := (x _).trans y1
 have x2 := (x _).trans y2
 have x3 := (x _).trans y3
 have x4 := (x _).trans y4
 clear x y0 y1 y2 y3 y4
 generalize shW w S o = W at *
 go_upto_region 3 with fail
 have hbW := hbw (.cells #[.int .i64 ((S.th n).pos : Int), .bool (S.th n).failed, .int .i16 (S.th n).reg, .int .i64 ((S.th n).h0 : Int), .int .i64 ((S.th n).h1 : Int)] 105)
 have hWz : (W.alloc (.cells #[.int .i64 ((S.th n).pos : Int), .bool (S.th n).failed, .int .i16 (S.th n).reg, .int .i64 ((S.th n).h0 : Int), .int .i64 ((S.th n).h1 : Int)] 105)).heap.size = w.heap.size + 4 := by simp; omega
 generalize W.alloc (.cells #[.int .i64 ((S.th n).pos : Int), .bool (S.th n).failed, .int .i16 (S.th n).reg, .int .i64 ((S.th n).h0 : Int), .int .i64 ((S.th n).h1 : Int)] 105) = V at *
 clear x0 x1 x2 x3 x4 hbw hz
 have HSH : Hid _ := hsh
 have HBV : Hid _ := hbW
 have HVZ : Hid _ := hWz
 clear hbW hWz
 obtain ⟨s, o0, o1, o2, r, t0, t1, t2, t3, t4, f0, f2, f3⟩ := hsh
 clear s r
 have lt0 : w.heap.size < V.heap.size := by have := HVZ.out; omega
 have lt1 : w.heap.size + 1 < V.heap.size := by have := HVZ.out; omega
 have lt2 : w.heap.size + 1 + 1 < V.heap.size := by have := HVZ.out; omega
 have lt3 : w.heap.size + 3 < V.heap.size := by have := HVZ.out; omega
 go_wp2_with fail
 refine (variable_any _ _ _ _).mono ?_
 rintro e w2 ⟨rfl, hb2⟩
 have hs2 := HSH.out.below hb2 lt0 lt1 lt2 lt3
 have HS2 : Hid _ := hs2
 clear o0 o1 o2 t0 t1 t2 t3 t4 f0 f2 f3
 obtain ⟨s, o0, o1, o2, r, t0, t1, t2, t3, t4, f0, f2, f3⟩ := hs2
 have hv := varOf_lt o.name
 have v0 : w2.cell? ⟨w.heap.size, varOf o.name, none⟩ = some (.int .i16 (S.var (varOf o.name))) := (s _).trans (stL_var S _ hv)
 obtain ⟨y0, y1, y2, y3, y4⟩ := stL_th S n hn
 have x0 := (s _).trans y0
 have x1 := (s _).trans y1
 have x2 := (s _).trans y2
 have x3 := (s _).trans y3
 have x4 := (s _).trans y4
 clear s r y0 y1 y2 y3 y4
 have p0 : (0 : Int) ≤ (varOf o.name : Int) := by omega
 have p1 : (varOf o.name : Int) < 4 := by omega
 go_upto_region 20 with fail
 have hfin := fin_at (S' := S.setTh n ⟨(S.th n).pos, (S.th n).failed, S.var (varOf o.name), (S.th n).h0, (S.th n).h1⟩) (fun j => by
   have h1 := all_other HS2.out.s ⟨w.heap.size + 3, 2, none⟩ (by simp) (.int .i16 (S.var (varOf o.name)))
   have h2 := all_set h1 (4 + n * 5) (by rw [stL_length]; omega) (.int .i64 ((S.th n).pos : Int))
   have h3 := all_set h2 (4 + n * 5 + 1) (by rw [List.length_set, stL_length]; omega) (.bool (S.th n).failed)
   have h4 := all_set h3 (4 + n * 5 + 2) (by simp only [List.length_set, stL_length]; omega) (.int .i16 (S.var (varOf o.name)))
   have h5 := all_set h4 (4 + n * 5 + 3) (by simp only [List.length_set, stL_length]; omega) (.int .i64 ((S.th n).h0 : Int))
   have h6 := all_set h5 (4 + n * 5 + 4) (by simp only [List.length_set, stL_length]; omega) (.int .i64 ((S.th n).h1 : Int)) j
   rw [← stL_setTh S n hn]; exact h6)
 have hth : World.there ((((((w2.setCell ⟨w.heap.size + 3, 2, none⟩ (.int .i16 (S.var (varOf o.name)))).setCell ⟨w.heap.size, 4 + n * 5, none⟩ (.int .i64 ((S.th n).pos : Int))).setCell ⟨w.heap.size, 4 + n * 5 + 1, none⟩ (.bool (S.th n).failed)).setCell ⟨w.heap.size, 4 + n * 5 + 2, none⟩ (.int .i16 (S.var (varOf o.name)))).setCell ⟨w.heap.size, 4 + n * 5 + 3, none⟩ (.int .i64 ((S.th n).h0 : Int))).setCell ⟨w.heap.size, 4 + n * 5 + 4, none⟩ (.int .i64 ((S.th n).h1 : Int))) (w.heap.size + 1 + 1) 0 (stL (S.setTh n ⟨(S.th n).pos, (S.th n).failed, S.var (varOf o.name), (S.th n).h0, (S.th n).h1⟩)).toArray.size := fun j hj => by
  have hj' : j < 24 := by simpa [stL_length] using hj
  refine ⟨?_, ?_⟩
  ·have : ((((((w2.setCell ⟨w.heap.size + 3, 2, none⟩ (.int .i16 (S.var (varOf o.name)))).setCell ⟨w.heap.size, 4 + n * 5, none⟩ (.int .i64 ((S.th n).pos : Int))).setCell ⟨w.heap.size, 4 + n * 5 + 1, none⟩ (.bool (S.th n).failed)).setCell ⟨w.heap.size, 4 + n * 5 + 2, none⟩ (.int .i16 (S.var (varOf o.name)))).setCell ⟨w.heap.size, 4 + n * 5 + 3, none⟩ (.int .i64 ((S.th n).h0 : Int))).setCell ⟨w.heap.size, 4 + n * 5 + 4, none⟩ (.int .i64 ((S.th n).h1 : Int))).cell? ⟨w.heap.size + 1 + 1, 0 + j, none⟩ = (stL st0)[j]? := by
    rw [Nat.zero_add]
    exact all_other (all_other (all_other (all_other (all_other (all_other HS2.out.r _ (by simp) _) _ (by simp; omega) _) _ (by simp; omega) _) _ (by simp; omega) _) _ (by simp; omega) _) _ (by simp; omega) _ j
   rw [this, List.getElem?_eq_getElem (by rw [stL_length]; exact hj')]; rfl
  ·simp only [World.frozen?_setCell]; exact HS2.out.f2 _
 have hbf : Below w.heap.size w ((((((w2.setCell ⟨w.heap.size + 3, 2, none⟩ (.int .i16 (S.var (varOf o.name)))).setCell ⟨w.heap.size, 4 + n * 5, none⟩ (.int .i64 ((S.th n).pos : Int))).setCell ⟨w.heap.size, 4 + n * 5 + 1, none⟩ (.bool (S.th n).failed)).setCell ⟨w.heap.size, 4 + n * 5 + 2, none⟩ (.int .i16 (S.var (varOf o.name)))).setCell ⟨w.heap.size, 4 + n * 5 + 3, none⟩ (.int .i64 ((S.th n).h0 : Int))).setCell ⟨w.heap.size, 4 + n * 5 + 4, none⟩ (.int .i64 ((S.th n).h1 : Int))) := ((((((HBV.out.trans (hb2.mono (by have := HVZ.out; omega))).setCell (by simp) _).setCell (Nat.le_refl _) _).setCell (Nat.le_refl _) _).setCell (Nat.le_refl _) _).setCell (Nat.le_refl _) _).setCell (Nat.le_refl _) _
 generalize ((((((w2.setCell ⟨w.heap.size + 3, 2, none⟩ (.int .i16 (S.var (varOf o.name)))).setCell ⟨w.heap.size, 4 + n * 5, none⟩ (.int .i64 ((S.th n).pos : Int))).setCell ⟨w.heap.size, 4 + n * 5 + 1, none⟩ (.bool (S.th n).failed)).setCell ⟨w.heap.size, 4 + n * 5 + 2, none⟩ (.int .i16 (S.var (varOf o.name)))).setCell ⟨w.heap.size, 4 + n * 5 + 3, none⟩ (.int .i64 ((S.th n).h0 : Int))).setCell ⟨w.heap.size, 4 + n * 5 + 4, none⟩ (.int .i64 ((S.th n).h1 : Int))) = F at *
 clear o0 o1 o2 t0 t1 t2 t3 t4 f0 f2 f3 x0 x1 x2 x3 x4
 have hrg := range_of_all hfin
 go_wp2_with (first | refine wpList_load_mid rfl 108 _ rfl w.heap.size 0 rfl (stL (S.setTh n ⟨(S.th n).pos, (S.th n).failed, S.var (varOf o.name), (S.th n).h0, (S.th n).h1⟩)) _ hrg Tryz.underlying108 rfl Tryz.size108 ?_ | refine wpList_store_mid rfl 108 _ _ rfl (w.heap.size + 1 + 1) 0 (stL (S.setTh n ⟨(S.th n).pos, (S.th n).failed, S.var (varOf o.name), (S.th n).h0, (S.th n).h1⟩)).toArray rfl rfl hth Tryz.size108 (all_oneCell_toArray (stL_one _)) ?_)
 refine bodyPost_ret (v := .tuple #[.agg (stL (S.setTh n ⟨(S.th n).pos, (S.th n).failed, S.var (varOf o.name), (S.th n).h0, (S.th n).h1⟩)).toArray, .int .i16 (S.var (varOf o.name))]) (ret_state Tryz.results80 _ _ (w.heap.size + 1 + 1) _ rfl (World.rangeAt_setCells_same _ _ _ _ (by simpa using hth))) rfl ⟨rfl, ?_⟩
 exact below_setCells _ (by omega) _ _ _ hbf

end Go.Proofs.YtfdafcnfefbcbabGreat
