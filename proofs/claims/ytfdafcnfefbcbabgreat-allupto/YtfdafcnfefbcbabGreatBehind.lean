/-
 The contract of behindOwn.
-/
import Derived.Test.YtfdafcnfefbcbabGreatOws
import Derived.Deep.RegionWith
namespace Go.Proofs.YtfdafcnfefbcbabGreat
open Go.RowKit
set_option linter.unusedVariables false
set_option maxRecDepth 100000
set_option maxHeartbeats 4000000
attribute [local go_sem ↓] Go.wp_at_zero Go.wp_at_succ

theorem wrap_small (x : Int) (h0 : -9223372036854775808 ≤ x) (h1 : x ≤ 9223372036854775807) : IntKind.i64.wrap x = x := by
 rw [IntKind.wrap_i64]; omega

theorem countPassed_int (r : List Pl.POp) (a : Option Addr) (cap lo hi f n : Nat) (x : Int) (w : World) (hx : x = (f : Int)) (hr : RowIn w lo hi a cap r) (hh : hi ≤ w.heap.size) (hl : r.length ≤ 1000) (hf : f ≤ 2000) (hn : n ≤ 9) :
  Calls Tryz.prog 102 #[.slice a r.length cap, .int .i64 x, .int .i64 (n : Int)] w
   fun e w' => e = .returned (.int .i64 (passed (r.drop f) n : Int)) ∧ Below w.heap.size w w' := by
 subst hx; exact countPassed_any r a cap lo hi f n w hr hh hl hf hn

/-- A thread behind an operation that is not shared. -/
def ownStep (t : Th) (r : List Pl.POp) (o : Pl.POp) : Th :=
 if o.kind = 33 then ⟨t.pos + 1, t.reg == 0, t.reg, t.h0, t.h1⟩
 else if o.kind = 63 then ⟨t.pos + 1 + (if t.reg = 0 then passed (r.drop (t.pos + 1)) (digitOf o.name) else 0), t.failed, t.reg, t.h0, t.h1⟩
 else ⟨t.pos + 1, t.failed, reck o.kind t.reg (digitOf o.name), t.h0, t.h1⟩

def thV (t : Th) : Value := .agg #[.int .i64 (t.pos : Int), .bool t.failed, .int .i16 t.reg, .int .i64 (t.h0 : Int), .int .i64 (t.h1 : Int)]

theorem three_new (w : World) (a b c : Obj) : Below w.heap.size w (((w.alloc a).alloc b).alloc c) := (((Below.refl _ _).alloc (Nat.le_refl _) _).alloc (by simp) _).alloc (by simp; omega) _

theorem behindOwn_bang (t : Th) (r : List Pl.POp) (o : Pl.POp) (a : Option Addr) (cap : Nat) (w : World) (hp : t.pos ≤ 1000) (hk : o.kind = 33) :
  Calls Tryz.prog 93 #[.agg #[.int .i64 (t.pos : Int), .bool t.failed, .int .i16 t.reg, .int .i64 (t.h0 : Int), .int .i64 (t.h1 : Int)], .slice a r.length cap, .agg #[.int .u8 (o.kind : Int), .int .u8 (o.name : Int), .int .i64 o.block]] w
   fun e w' => e = .returned (thV (ownStep t r o)) ∧ Below w.heap.size w w' := by
 have e : Hid (thV (ownStep t r o) = .agg #[.int .i64 ((t.pos : Int) + 1), .bool (t.reg == 0), .int .i16 t.reg, .int .i64 (t.h0 : Int), .int .i64 (t.h1 : Int)]) := by
  show thV (ownStep t r o) = _
  unfold ownStep; rw [if_pos hk]; rfl
 rw [e.out]
 have e1 : ((o.kind : Int) == 33) = true := by simp; omega
 clear hk e
 go_enter Tryz.func93, Tryz.ntmps93
 go_wp2
 refine bodyPost_ret (v := .agg #[.int .i64 ((t.pos : Int) + 1), .bool (t.reg == 0), .int .i16 t.reg, .int .i64 (t.h0 : Int), .int .i64 (t.h1 : Int)]) (by simp [results, Tryz.results93, go_sem]) rfl ⟨rfl, ?_⟩
 exact three_new _ _ _ _

theorem behindOwn_else (t : Th) (r : List Pl.POp) (o : Pl.POp) (a : Option Addr) (cap : Nat) (w : World) (hp : t.pos ≤ 1000) (hn : o.name < 256) (hk : o.kind ≠ 33) (hq : o.kind ≠ 63) :
  Calls Tryz.prog 93 #[.agg #[.int .i64 (t.pos : Int), .bool t.failed, .int .i16 t.reg, .int .i64 (t.h0 : Int), .int .i64 (t.h1 : Int)], .slice a r.length cap, .agg #[.int .u8 (o.kind : Int), .int .u8 (o.name : Int), .int .i64 o.block]] w
   fun e w' => e = .returned (thV (ownStep t r o)) ∧ Below w.heap.size w w' := by
 have e : Hid (thV (ownStep t r o) = .agg #[.int .i64 ((t.pos : Int) + 1), .bool t.failed, .int .i16 (reck o.kind t.reg (digitOf o.name)), .int .i64 (t.h0 : Int), .int .i64 (t.h1 : Int)]) := by
  show thV (ownStep t r o) = _
  unfold ownStep; rw [if_neg hk, if_neg hq]; rfl
 rw [e.out]
 have e1 : ((o.kind : Int) == 33) = false := by simp; omega
 have e2 : ((o.kind : Int) == 63) = false := by simp; omega
 clear hk hq e
 go_enter Tryz.func93, Tryz.ntmps93
 go_wp2_with (go_at_call 104; refine (reckoned_any _ _ _ _ _ hn).mono ?_; rintro e w1 ⟨rfl, hb1⟩; obtain ⟨hc1, hf1⟩ := bcell hb1; have k2 : w1.cell? ⟨w.heap.size, 2, none⟩ = some (.int .i16 t.reg) := (hc1 _ _ (by simp; omega)).trans (by simp [go_sem]))
 have r0 : w1.cell? ⟨w.heap.size + 1 + 1, 0, none⟩ = some (.int .i64 0) := (hc1 _ _ (by simp)).trans (by simp [go_sem])
 have r1 : w1.cell? ⟨w.heap.size + 1 + 1, 1, none⟩ = some (.bool false) := (hc1 _ _ (by simp)).trans (by simp [go_sem])
 have r2 : w1.cell? ⟨w.heap.size + 1 + 1, 2, none⟩ = some (.int .i16 0) := (hc1 _ _ (by simp)).trans (by simp [go_sem])
 have r3 : w1.cell? ⟨w.heap.size + 1 + 1, 3, none⟩ = some (.int .i64 0) := (hc1 _ _ (by simp)).trans (by simp [go_sem])
 have r4 : w1.cell? ⟨w.heap.size + 1 + 1, 4, none⟩ = some (.int .i64 0) := (hc1 _ _ (by simp)).trans (by simp [go_sem])
 refine bodyPost_ret (v := .agg #[.int .i64 ((t.pos : Int) + 1), .bool t.failed, .int .i16 (reck o.kind t.reg (digitOf o.name)), .int .i64 (t.h0 : Int), .int .i64 (t.h1 : Int)]) (by simp [results, Tryz.results93, go_sem, r0, r1, r2, r3, r4]) rfl ⟨rfl, ?_⟩
 have hb := (three_new w _ _ _).trans (hb1.mono (by simp; omega))
 exact (((((hb.setCell (Nat.le_refl _) _).setCell (by simp; omega) _).setCell (by simp; omega) _).setCell (by simp; omega) _).setCell (by simp; omega) _).setCell (by simp; omega) _

theorem behindOwn_stay (t : Th) (r : List Pl.POp) (o : Pl.POp) (a : Option Addr) (cap : Nat) (w : World) (hp : t.pos ≤ 1000) (hk : o.kind = 63) (hz : t.reg ≠ 0) :
  Calls Tryz.prog 93 #[.agg #[.int .i64 (t.pos : Int), .bool t.failed, .int .i16 t.reg, .int .i64 (t.h0 : Int), .int .i64 (t.h1 : Int)], .slice a r.length cap, .agg #[.int .u8 (o.kind : Int), .int .u8 (o.name : Int), .int .i64 o.block]] w
   fun e w' => e = .returned (thV (ownStep t r o)) ∧ Below w.heap.size w w' := by
 have e : Hid (thV (ownStep t r o) = .agg #[.int .i64 ((t.pos : Int) + 1), .bool t.failed, .int .i16 t.reg, .int .i64 (t.h0 : Int), .int .i64 (t.h1 : Int)]) := by
  show thV (ownStep t r o) = _
  unfold ownStep; rw [if_neg (by omega), if_pos hk, if_neg hz]; rfl
 rw [e.out]
 have e1 : ((o.kind : Int) == 33) = false := by simp; omega
 have e2 : ((o.kind : Int) == 63) = true := by simp; omega
 have e3 : (t.reg == 0) = false := by simpa using hz
 clear hk e hz
 go_enter Tryz.func93, Tryz.ntmps93
 go_wp2
 refine bodyPost_ret (v := .agg #[.int .i64 ((t.pos : Int) + 1), .bool t.failed, .int .i16 t.reg, .int .i64 (t.h0 : Int), .int .i64 (t.h1 : Int)]) (by simp [results, Tryz.results93, go_sem]) rfl ⟨rfl, ?_⟩
 exact three_new _ _ _ _

theorem behindOwn_pass (t : Th) (r : List Pl.POp) (o : Pl.POp) (a : Option Addr) (cap lo hi : Nat) (w : World) (hr : RowIn w lo hi a cap r) (hh : hi ≤ w.heap.size) (hl : r.length ≤ 1000) (hp : t.pos ≤ 1000) (hn : o.name < 256) (hk : o.kind = 63) (hz : t.reg = 0) :
  Calls Tryz.prog 93 #[.agg #[.int .i64 (t.pos : Int), .bool t.failed, .int .i16 t.reg, .int .i64 (t.h0 : Int), .int .i64 (t.h1 : Int)], .slice a r.length cap, .agg #[.int .u8 (o.kind : Int), .int .u8 (o.name : Int), .int .i64 o.block]] w
   fun e w' => e = .returned (thV (ownStep t r o)) ∧ Below w.heap.size w w' := by
 have e : Hid (thV (ownStep t r o) = .agg #[.int .i64 ((t.pos : Int) + 1 + (passed (r.drop (t.pos + 1)) (digitOf o.name) : Int)), .bool t.failed, .int .i16 t.reg, .int .i64 (t.h0 : Int), .int .i64 (t.h1 : Int)]) := by
  show thV (ownStep t r o) = _
  unfold ownStep; rw [if_neg (by omega), if_pos hk, if_pos hz]; simp [thV]
 rw [e.out]
 have e1 : ((o.kind : Int) == 33) = false := by simp; omega
 have e2 : ((o.kind : Int) == 63) = true := by simp; omega
 have e3 : (t.reg == 0) = true := by simpa using hz
 have hd := digitOf_le o.name
 have hps := (passed_le (r.drop (t.pos + 1)) (digitOf o.name)).2
 clear hk e hz
 go_enter Tryz.func93, Tryz.ntmps93
 go_wp2
 have hb3 := three_new w (.cells #[.int .i64 ((t.pos : Int) + 1), .bool t.failed, .int .i16 t.reg, .int .i64 (t.h0 : Int), .int .i64 (t.h1 : Int)] 105) (.cells #[.int .u8 (o.kind : Int), .int .u8 (o.name : Int), .int .i64 o.block] 165) (.cells #[.int .i64 0, .bool false, .int .i16 0, .int .i64 0, .int .i64 0] 105)
 generalize hWe : ((w.alloc (.cells #[.int .i64 ((t.pos : Int) + 1), .bool t.failed, .int .i16 t.reg, .int .i64 (t.h0 : Int), .int .i64 (t.h1 : Int)] 105)).alloc (.cells #[.int .u8 (o.kind : Int), .int .u8 (o.name : Int), .int .i64 o.block] 165)).alloc (.cells #[.int .i64 0, .bool false, .int .i16 0, .int .i64 0, .int .i64 0] 105) = W at *
 have hWz : W.heap.size = w.heap.size + 3 := by rw [← hWe]; simp
 have t0 : W.cell? ⟨w.heap.size, 0, none⟩ = some (.int .i64 ((t.pos : Int) + 1)) := by rw [← hWe]; simp [go_sem]
 have t1 : W.cell? ⟨w.heap.size, 1, none⟩ = some (.bool t.failed) := by rw [← hWe]; simp [go_sem]
 have t2 : W.cell? ⟨w.heap.size, 2, none⟩ = some (.int .i16 t.reg) := by rw [← hWe]; simp [go_sem]
 have t3 : W.cell? ⟨w.heap.size, 3, none⟩ = some (.int .i64 (t.h0 : Int)) := by rw [← hWe]; simp [go_sem]
 have t4 : W.cell? ⟨w.heap.size, 4, none⟩ = some (.int .i64 (t.h1 : Int)) := by rw [← hWe]; simp [go_sem]
 have o0 : W.cell? ⟨w.heap.size + 1, 0, none⟩ = some (.int .u8 (o.kind : Int)) := by rw [← hWe]; simp [go_sem]
 have o1 : W.cell? ⟨w.heap.size + 1, 1, none⟩ = some (.int .u8 (o.name : Int)) := by rw [← hWe]; simp [go_sem]
 have o2 : W.cell? ⟨w.heap.size + 1, 2, none⟩ = some (.int .i64 o.block) := by rw [← hWe]; simp [go_sem]
 have r0 : W.cell? ⟨w.heap.size + 1 + 1, 0, none⟩ = some (.int .i64 0) := by rw [← hWe]; simp [go_sem]
 have r1 : W.cell? ⟨w.heap.size + 1 + 1, 1, none⟩ = some (.bool false) := by rw [← hWe]; simp [go_sem]
 have r2 : W.cell? ⟨w.heap.size + 1 + 1, 2, none⟩ = some (.int .i16 0) := by rw [← hWe]; simp [go_sem]
 have r3 : W.cell? ⟨w.heap.size + 1 + 1, 3, none⟩ = some (.int .i64 0) := by rw [← hWe]; simp [go_sem]
 have r4 : W.cell? ⟨w.heap.size + 1 + 1, 4, none⟩ = some (.int .i64 0) := by rw [← hWe]; simp [go_sem]
 have ft : W.frozen? ⟨w.heap.size, 0, none⟩ = false := by rw [← hWe]; simp [go_sem]
 have fr : ∀ j, W.frozen? ⟨w.heap.size + 1 + 1, j, none⟩ = false := fun j => by rw [← hWe]; simp [go_sem]
 have HRW : Hid (RowIn W lo hi a cap r) := hr.below (hb3.mono hh)
 have HWE : Hid _ := hWe
 have HWZ : Hid _ := hWz
 have hhW : hi ≤ W.heap.size := by omega
 clear hWe hr hWz
 have hwr : IntKind.i64.wrap ((t.pos : Int) + 1 + (passed (r.drop (t.pos + 1)) (digitOf o.name) : Int)) = (t.pos : Int) + 1 + (passed (r.drop (t.pos + 1)) (digitOf o.name) : Int) := wrap_small _ (by omega) (by omega)
 have lt0 : w.heap.size < W.heap.size := by have := HWZ.out; omega
 have lt1 : w.heap.size + 1 < W.heap.size := by have := HWZ.out; omega
 have lt2 : w.heap.size + 1 + 1 < W.heap.size := by have := HWZ.out; omega
 go_region_with (first
   | (go_at_call 103; refine (digit_any _ _ _ _ hn).mono ?_; rintro e w1 ⟨rfl, hb1⟩; have HB1 : Below W.heap.size W w1 := (Below.refl _ _).drew.trans (hb1.mono (Nat.le_refl _)); have x0 := (HB1.cell (p := ⟨w.heap.size, 0, none⟩) lt0).trans t0; have xo0 := (HB1.cell (p := ⟨w.heap.size + 1, 0, none⟩) lt1).trans o0; have xo1 := (HB1.cell (p := ⟨w.heap.size + 1, 1, none⟩) lt1).trans o1; have xo2 := (HB1.cell (p := ⟨w.heap.size + 1, 2, none⟩) lt1).trans o2)
   | (go_at_call 102; refine (countPassed_int r a cap lo hi (t.pos + 1) (digitOf o.name) _ _ (by omega) (HRW.out.below (HB1.mono hhW)) (Nat.le_trans hhW HB1.size) hl (by omega) hd).mono ?_; rintro e w2 ⟨rfl, hb2⟩; have HB2 : Below W.heap.size W w2 := HB1.trans (hb2.mono HB1.size); have y0 := (HB2.cell (p := ⟨w.heap.size, 0, none⟩) lt0).trans t0; have y1 := (HB2.cell (p := ⟨w.heap.size, 1, none⟩) lt0).trans t1; have y2 := (HB2.cell (p := ⟨w.heap.size, 2, none⟩) lt0).trans t2; have y3 := (HB2.cell (p := ⟨w.heap.size, 3, none⟩) lt0).trans t3; have y4 := (HB2.cell (p := ⟨w.heap.size, 4, none⟩) lt0).trans t4; have z0 := (HB2.cell (p := ⟨w.heap.size + 1 + 1, 0, none⟩) lt2).trans r0; have z1 := (HB2.cell (p := ⟨w.heap.size + 1 + 1, 1, none⟩) lt2).trans r1; have z2 := (HB2.cell (p := ⟨w.heap.size + 1 + 1, 2, none⟩) lt2).trans r2; have z3 := (HB2.cell (p := ⟨w.heap.size + 1 + 1, 3, none⟩) lt2).trans r3; have z4 := (HB2.cell (p := ⟨w.heap.size + 1 + 1, 4, none⟩) lt2).trans r4; have yf := (HB2.frozen (p := ⟨w.heap.size, 0, none⟩) lt0).trans ft; have zf0 := (HB2.frozen (p := ⟨w.heap.size + 1 + 1, 0, none⟩) lt2).trans (fr 0); have zf1 := (HB2.frozen (p := ⟨w.heap.size + 1 + 1, 1, none⟩) lt2).trans (fr 1); have zf2 := (HB2.frozen (p := ⟨w.heap.size + 1 + 1, 2, none⟩) lt2).trans (fr 2); have zf3 := (HB2.frozen (p := ⟨w.heap.size + 1 + 1, 3, none⟩) lt2).trans (fr 3); have zf4 := (HB2.frozen (p := ⟨w.heap.size + 1 + 1, 4, none⟩) lt2).trans (fr 4)))
 all_goals go_wp2
 all_goals refine bodyPost_ret (v := .agg #[.int .i64 ((t.pos : Int) + 1 + (passed (r.drop (t.pos + 1)) (digitOf o.name) : Int)), .bool t.failed, .int .i16 t.reg, .int .i64 (t.h0 : Int), .int .i64 (t.h1 : Int)]) (by simp [results, Tryz.results93, go_sem, z0, z1, z2, z3, z4]) rfl ⟨rfl, ?_⟩
 all_goals exact ((((((hb3.trans (HB2.mono hb3.size)).setCell (Nat.le_refl _) _).setCell (by simp; omega) _).setCell (by simp; omega) _).setCell (by simp; omega) _).setCell (by simp; omega) _).setCell (by simp; omega) _

theorem behindOwn_any (t : Th) (r : List Pl.POp) (o : Pl.POp) (a : Option Addr) (cap lo hi : Nat) (w : World) (hr : RowIn w lo hi a cap r) (hh : hi ≤ w.heap.size) (hl : r.length ≤ 1000) (hp : t.pos ≤ 1000) (hn : o.name < 256) :
  Calls Tryz.prog 93 #[.agg #[.int .i64 (t.pos : Int), .bool t.failed, .int .i16 t.reg, .int .i64 (t.h0 : Int), .int .i64 (t.h1 : Int)], .slice a r.length cap, .agg #[.int .u8 (o.kind : Int), .int .u8 (o.name : Int), .int .i64 o.block]] w
   fun e w' => e = .returned (thV (ownStep t r o)) ∧ Below w.heap.size w w' := by
 by_cases hk : o.kind = 33
 ·exact behindOwn_bang t r o a cap w hp hk
 ·by_cases hq : o.kind = 63
  ·by_cases hz : t.reg = 0
   ·exact behindOwn_pass t r o a cap lo hi w hr hh hl hp hn hq hz
   ·exact behindOwn_stay t r o a cap w hp hq hz
  ·exact behindOwn_else t r o a cap w hp hn hk hq

end Go.Proofs.YtfdafcnfefbcbabGreat
