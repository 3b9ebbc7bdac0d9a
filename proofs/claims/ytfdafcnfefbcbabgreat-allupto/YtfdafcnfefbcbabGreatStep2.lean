/-
 The contract of Step, where the thread can step.
-/
import Derived.Test.YtfdafcnfefbcbabGreatBas
import Derived.Test.YtfdafcnfefbcbabGreatStp
import Derived.Deep.RegionWith
namespace Go.Proofs.YtfdafcnfefbcbabGreat
open Go.RowKit
set_option linter.unusedVariables false
set_option maxRecDepth 100000
set_option maxHeartbeats 2000000
attribute [local go_sem ↓] Go.wp_at_zero Go.wp_at_succ exec_load_state
attribute [local go_sem] ptrB isPtr0 aggL

structure RetS (b c d e : Nat) (L M : List Value) (w : World) : Prop where
 st : w.rangeAt b 0 L
 ev : w.rangeAt c 0 M
 there1 : w.there d 0 24
 there2 : w.there e 0 6

theorem RetS.put {b c d e : Nat} {L M : List Value} {w : World} (h : RetS b c d e L M w) (x : Nat) (h1 : b ≠ x) (h2 : c ≠ x) (vs : List Value) : RetS b c d e L M (w.setCells x 0 vs) :=
 ⟨World.rangeAt_setCells_apart h.st _ _ _ (.inl h1), World.rangeAt_setCells_apart h.ev _ _ _ (.inl h2), World.there_setCells h.there1 _ _ _, World.there_setCells h.there2 _ _ _⟩

theorem wpAnyH_store {P : Program} {md : Region.Mode} {ops : Array Oper} {Q : Exit → Act → World → Prop} {S : World → Prop} {fuel : Nat} {listed : Array Bool} {a : Act} {w : World} (i : Nat) (o : Oper) (hr : Region.ready md ops listed = [i]) (ho : ops[i]? = some o) (hg : o.guard = none) (hd : o.dst = none)
  (ty : TypeId) (x y : Operand) (hop : o.op = .store ty x y) (b : Nat) (cells : Array Value) (hx : a.eval x = .pointer (some ⟨b, 0, none⟩)) (hy : a.eval y = .agg cells) (ht : w.there b 0 cells.size) (hi : (P.info? ty).map (·.size) = some cells.size) (h1 : cells.all (·.oneCell') = true)
  (hS : S (w.setCells b 0 cells.toList)) (h : wpAnyH P md ops Q S fuel (listed.setIfInBounds i true) a (w.setCells b 0 cells.toList)) : wpAnyH P md ops Q S (fuel + 1) listed a w := by
 refine wpAnyH_ready hr (by simp) (AllReadyH.cons ho (fun K' hK => ?_) AllReadyH.nil)
 rw [if_pos (by simp [Region.wanted, hg])]
 refine wp_store_mid ty x y hop b 0 cells hx hy ht hi h1 ?_
 rw [hd]
 exact hK.out _ _ hS (fun _ => h)

theorem step_yes (S : St) (p : List (List Pl.POp)) (a : Option Addr) (cap lo hi : Nat) (n : Nat) (o : Pl.POp) (w : World) (hp : ProgOk w lo hi a cap p) (hn : n < 4) (hc : canStep S p n = true) (ho : stOp S p n = some o)
  (hk : Pl.isShared o.kind = true) (hh : (S.th n).h0 ≤ 1000 ∧ (S.th n).h1 ≤ 1000) (S1 : St) (vv : Int) (hsv : shared S n o = (S1, vv)) (hpos : (S1.th n).pos + 1 ≤ 1000) (u : Th) (hu : u = settle (rowOf p n) ((rowOf p n).length + 1) ⟨(S1.th n).pos + 1, (S1.th n).failed, (S1.th n).reg, (S1.th n).h0, (S1.th n).h1⟩) :
  Calls Tryz.prog 55 #[.agg (stL S).toArray, .agg #[.slice a p.length cap], .int .i64 (n : Int)] w
   fun e w' => e = .returned (.tuple #[.agg (stL (S1.setTh n u)).toArray, .agg (evL n o.kind o.name vv o.block 0).toArray, .bool true]) ∧ Below w.heap.size w w' := by
 have HP : Hid (ProgOk w lo hi a cap p) := hp
 have HO : Hid _ := ho
 have HSV : Hid (shared S n o = (S1, vv)) := hsv
 have HU : Hid _ := hu
 clear hp ho hsv hu
 have q0 : (0 : Int) ≤ (n : Int) := by omega
 have q1 : (n : Int) < 4 := by omega
 go_enter Tryz.func55, Tryz.ntmps55
 go_upto_region 1 with fail
 have hst := stepW_at w S (.slice a p.length cap)
 have hbw := stepW_below w S (.slice a p.length cap)
 have hz := stepW_size w S (.slice a p.length cap)
 change Code.wp _ _ _ _ (stepW w S (.slice a p.length cap))
 generalize stepW w S (.slice a p.length cap) = W at *
 have HST : Hid _ := hst
 have HZ : Hid _ := hz
 clear hz
 have hr := range_of_all hst.s
 obtain ⟨s, pr, r, e0, e1, e2, e3, e4, e5, f2, f3⟩ := hst
 clear s r
 go_wp2_with (first | refine wpList_load_mid rfl 108 _ rfl w.heap.size 0 rfl (stL S) _ hr Tryz.underlying108 rfl Tryz.size108 ?_)
 refine (canStep_any S p a cap lo hi n _ (HP.out.below hbw HP.out.size)).mono ?_
 rintro e w1 ⟨rfl, hb1⟩
 have lt0 : w.heap.size < W.heap.size := by have := HZ.out; omega
 have lt1 : w.heap.size + 1 < W.heap.size := by have := HZ.out; omega
 have lt2 : w.heap.size + 1 + 1 < W.heap.size := by have := HZ.out; omega
 have lt3 : w.heap.size + 1 + 1 + 1 < W.heap.size := by have := HZ.out; omega
 have hs1 := HST.out.below hb1 lt0 lt1 lt2 lt3
 have HS1 : Hid _ := hs1
 clear pr e0 e1 e2 e3 e4 e5 f2 f3 hr
 obtain ⟨s, pr, r, e0, e1, e2, e3, e4, e5, f2, f3⟩ := hs1
 have hr := range_of_all s
 clear s r e0 e1 e2 e3 e4 e5 f2 f3
 go_wp2_with (first | refine wpList_load_mid rfl 108 _ rfl w.heap.size 0 rfl (stL S) _ hr Tryz.underlying108 rfl Tryz.size108 ?_)
 refine (stateOp_any S p a cap lo hi n _ (HP.out.below (hbw.trans (hb1.mono hbw.size)) HP.out.size)).mono ?_
 rintro e w2 ⟨⟨k', n', b', hsd, rfl⟩, hb2⟩
 rw [HO.out] at hsd ⊢
 obtain ⟨rfl, rfl, rfl⟩ := hsd
 have HB2 : Hid (Below W.heap.size W w2) := hb1.trans (hb2.mono hb1.size)
 have hs2 := HST.out.below HB2.out lt0 lt1 lt2 lt3
 clear pr hr
 have hr := range_of_all hs2.s
 have hr2 := fun x => World.rangeAt_alloc hr x
 clear hr
 go_upto_region 4 with fail
 go_wp2_with (first | refine wpList_load_mid rfl 108 _ rfl w.heap.size 0 rfl (stL S) _ (by exact hr2 _) Tryz.underlying108 rfl Tryz.size108 ?_)
 refine (behindShared_any S n o _ hn hk hh).mono ?_
 rintro e w4 ⟨rfl, hb4⟩
 rw [HSV.out]
 have HB4 : Hid (Below w2.heap.size w2 w4) := ((Below.refl _ _).alloc (Nat.le_refl _) _).trans (hb4.mono (by simp))
 have o0 : w4.cell? ⟨w2.heap.size, 0, none⟩ = some (.int .u8 (o.kind : Int)) := (hb4.cell (p := ⟨w2.heap.size, 0, none⟩) (by simp)).trans (by simp [go_sem])
 have o1 : w4.cell? ⟨w2.heap.size, 1, none⟩ = some (.int .u8 (o.name : Int)) := (hb4.cell (p := ⟨w2.heap.size, 1, none⟩) (by simp)).trans (by simp [go_sem])
 have o2 : w4.cell? ⟨w2.heap.size, 2, none⟩ = some (.int .i64 o.block) := (hb4.cell (p := ⟨w2.heap.size, 2, none⟩) (by simp)).trans (by simp [go_sem])
 have hz4 := hb4.size
 simp only [World.size_alloc] at hz4
 have HZ4 : Hid (w2.heap.size < w4.heap.size) := hz4
 have HBW4 : Hid (Below W.heap.size W w4) := HB2.out.trans (HB4.out.mono HB2.out.size)
 have hs4 : Hid _ := HST.out.below HBW4.out lt0 lt1 lt2 lt3
 have hX : ∀ j, ((w4.alloc (.cells #[.int .i16 0, .int .i16 0, .int .i16 0, .int .i16 0, .int .i64 0, .bool false, .int .i16 0, .int .i64 0, .int .i64 0, .int .i64 0, .bool false, .int .i16 0, .int .i64 0, .int .i64 0, .int .i64 0, .bool false, .int .i16 0, .int .i64 0, .int .i64 0, .int .i64 0, .bool false, .int .i16 0, .int .i64 0, .int .i64 0] 108)).setCells w4.heap.size 0 (stL S1).toArray.toList).cell? ⟨w4.heap.size, j, none⟩ = (stL S1)[j]? := new_all w4 S1
 have hXf : ∀ j, ((w4.alloc (.cells #[.int .i16 0, .int .i16 0, .int .i16 0, .int .i16 0, .int .i64 0, .bool false, .int .i16 0, .int .i64 0, .int .i64 0, .int .i64 0, .bool false, .int .i16 0, .int .i64 0, .int .i64 0, .int .i64 0, .bool false, .int .i16 0, .int .i64 0, .int .i64 0, .int .i64 0, .bool false, .int .i16 0, .int .i64 0, .int .i64 0] 108)).setCells w4.heap.size 0 (stL S1).toArray.toList).frozen? ⟨w4.heap.size, j, none⟩ = false := new_frozen w4 S1
 have hXb : Below w4.heap.size w4 ((w4.alloc (.cells #[.int .i16 0, .int .i16 0, .int .i16 0, .int .i16 0, .int .i64 0, .bool false, .int .i16 0, .int .i64 0, .int .i64 0, .int .i64 0, .bool false, .int .i16 0, .int .i64 0, .int .i64 0, .int .i64 0, .bool false, .int .i16 0, .int .i64 0, .int .i64 0, .int .i64 0, .bool false, .int .i16 0, .int .i64 0, .int .i64 0] 108)).setCells w4.heap.size 0 (stL S1).toArray.toList) := new_below w4 S1
 have hXz : ((w4.alloc (.cells #[.int .i16 0, .int .i16 0, .int .i16 0, .int .i16 0, .int .i64 0, .bool false, .int .i16 0, .int .i64 0, .int .i64 0, .int .i64 0, .bool false, .int .i16 0, .int .i64 0, .int .i64 0, .int .i64 0, .bool false, .int .i16 0, .int .i64 0, .int .i64 0, .int .i64 0, .bool false, .int .i16 0, .int .i64 0, .int .i64 0] 108)).setCells w4.heap.size 0 (stL S1).toArray.toList).heap.size = w4.heap.size + 1 := by rw [size_setCells]; simp
 have hXt : (w4.alloc (.cells #[.int .i16 0, .int .i16 0, .int .i16 0, .int .i16 0, .int .i64 0, .bool false, .int .i16 0, .int .i64 0, .int .i64 0, .int .i64 0, .bool false, .int .i16 0, .int .i64 0, .int .i64 0, .int .i64 0, .bool false, .int .i16 0, .int .i64 0, .int .i64 0, .int .i64 0, .bool false, .int .i16 0, .int .i64 0, .int .i64 0] 108)).there w4.heap.size 0 (stL S1).toArray.size := new_there w4
 have HX : Hid _ := hX
 have HXF : Hid _ := hXf
 have HXB : Hid _ := hXb
 have HXZ : Hid _ := hXz
 have HXT : Hid _ := hXt
 clear hX hXf hXb hXz hXt hb4 hz4 hr2 hb1 hb2 hs2
 go_upto_region 5 with (first | (refine wpList_store_mid rfl 108 _ _ rfl w4.heap.size 0 (stL S1).toArray rfl rfl (by exact HXT.out) Tryz.size108 (all_oneCell_toArray (stL_one _)) ?_; generalize ((w4.alloc (.cells #[.int .i16 0, .int .i16 0, .int .i16 0, .int .i16 0, .int .i64 0, .bool false, .int .i16 0, .int .i64 0, .int .i64 0, .int .i64 0, .bool false, .int .i16 0, .int .i64 0, .int .i64 0, .int .i64 0, .bool false, .int .i16 0, .int .i64 0, .int .i64 0, .int .i64 0, .bool false, .int .i16 0, .int .i64 0, .int .i64 0] 108)).setCells w4.heap.size 0 (stL S1).toArray.toList) = X at *))
 obtain ⟨y0, y1, y2, y3, y4⟩ := stL_th S1 n hn
 have x0 := (HX.out _).trans y0
 have x1 := (HX.out _).trans y1
 have x2 := (HX.out _).trans y2
 have x3 := (HX.out _).trans y3
 have x4 := (HX.out _).trans y4
 clear y0 y1 y2 y3 y4
 have hz5 := HXZ.out
 have HBX : Hid (Below W.heap.size W X) := HBW4.out.trans (HXB.out.mono HBW4.out.size)
 have hs5 := HST.out.below HBX.out lt0 lt1 lt2 lt3
 have pr := hs5.pr
 have pr2 := fun x => alloc_cell pr x
 clear hs5
 go_upto_region 7 with fail
 have hYb : Below X.heap.size X (X.alloc (.cells #[.int .i64 (((S1.th n).pos : Int) + 1), .bool (S1.th n).failed, .int .i16 (S1.th n).reg, .int .i64 ((S1.th n).h0 : Int), .int .i64 ((S1.th n).h1 : Int)] 105)) := (Below.refl _ _).alloc (Nat.le_refl _) _
 have t0 : (X.alloc (.cells #[.int .i64 (((S1.th n).pos : Int) + 1), .bool (S1.th n).failed, .int .i16 (S1.th n).reg, .int .i64 ((S1.th n).h0 : Int), .int .i64 ((S1.th n).h1 : Int)] 105)).cell? ⟨w4.heap.size + 1, 0, none⟩ = some (.int .i64 (((S1.th n).pos : Int) + 1)) := by rw [← HXZ.out]; simp
 have t1 : (X.alloc (.cells #[.int .i64 (((S1.th n).pos : Int) + 1), .bool (S1.th n).failed, .int .i16 (S1.th n).reg, .int .i64 ((S1.th n).h0 : Int), .int .i64 ((S1.th n).h1 : Int)] 105)).cell? ⟨w4.heap.size + 1, 1, none⟩ = some (.bool (S1.th n).failed) := by rw [← HXZ.out]; simp
 have t2 : (X.alloc (.cells #[.int .i64 (((S1.th n).pos : Int) + 1), .bool (S1.th n).failed, .int .i16 (S1.th n).reg, .int .i64 ((S1.th n).h0 : Int), .int .i64 ((S1.th n).h1 : Int)] 105)).cell? ⟨w4.heap.size + 1, 2, none⟩ = some (.int .i16 (S1.th n).reg) := by rw [← HXZ.out]; simp
 have t3 : (X.alloc (.cells #[.int .i64 (((S1.th n).pos : Int) + 1), .bool (S1.th n).failed, .int .i16 (S1.th n).reg, .int .i64 ((S1.th n).h0 : Int), .int .i64 ((S1.th n).h1 : Int)] 105)).cell? ⟨w4.heap.size + 1, 3, none⟩ = some (.int .i64 ((S1.th n).h0 : Int)) := by rw [← HXZ.out]; simp
 have t4 : (X.alloc (.cells #[.int .i64 (((S1.th n).pos : Int) + 1), .bool (S1.th n).failed, .int .i16 (S1.th n).reg, .int .i64 ((S1.th n).h0 : Int), .int .i64 ((S1.th n).h1 : Int)] 105)).cell? ⟨w4.heap.size + 1, 4, none⟩ = some (.int .i64 ((S1.th n).h1 : Int)) := by rw [← HXZ.out]; simp
 have hYz : (X.alloc (.cells #[.int .i64 (((S1.th n).pos : Int) + 1), .bool (S1.th n).failed, .int .i16 (S1.th n).reg, .int .i64 ((S1.th n).h0 : Int), .int .i64 ((S1.th n).h1 : Int)] 105)).heap.size = w4.heap.size + 2 := by have := HXZ.out; simp; omega
 have prY := pr2 (.cells #[.int .i64 (((S1.th n).pos : Int) + 1), .bool (S1.th n).failed, .int .i16 (S1.th n).reg, .int .i64 ((S1.th n).h0 : Int), .int .i64 ((S1.th n).h1 : Int)] 105)
 clear pr2 pr x0 x1 x2 x3 x4 hz5
 generalize (X.alloc (.cells #[.int .i64 (((S1.th n).pos : Int) + 1), .bool (S1.th n).failed, .int .i16 (S1.th n).reg, .int .i64 ((S1.th n).h0 : Int), .int .i64 ((S1.th n).h1 : Int)] 105)) = Y at *
 have HYB : Hid _ := hYb
 have HYZ : Hid _ := hYz
 have HWX : Hid (Below W.heap.size W Y) := HBX.out.trans (hYb.mono HBX.out.size)
 clear hYb hYz
 go_wp2_with fail
 refine (thread_any p a cap lo hi n _ (HP.out.below (hbw.trans (HWX.out.mono hbw.size)) HP.out.size).rows (HP.out.below (hbw.trans (HWX.out.mono hbw.size)) HP.out.size).size HP.out.few).mono ?_
 rintro e w7 ⟨⟨rb, rc, rfl, hrow⟩, hb7⟩
 have HROW : Hid (RowIn w7 lo hi rb rc (rowOf p n)) := hrow
 clear hrow
 have lt7 : w4.heap.size + 1 < Y.heap.size := by have := HYZ.out; omega
 have u0 := (hb7.cell (p := ⟨w4.heap.size + 1, 0, none⟩) lt7).trans t0
 have u1 := (hb7.cell (p := ⟨w4.heap.size + 1, 1, none⟩) lt7).trans t1
 have u2 := (hb7.cell (p := ⟨w4.heap.size + 1, 2, none⟩) lt7).trans t2
 have u3 := (hb7.cell (p := ⟨w4.heap.size + 1, 3, none⟩) lt7).trans t3
 have u4 := (hb7.cell (p := ⟨w4.heap.size + 1, 4, none⟩) lt7).trans t4
 clear t0 t1 t2 t3 t4 prY
 have HB7 : Hid (Below Y.heap.size Y w7) := hb7
 have HW7 : Hid (Below W.heap.size W w7) := HWX.out.trans (hb7.mono HWX.out.size)
 clear hb7
 go_wp2_with fail
 refine (settled_int ⟨(S1.th n).pos + 1, (S1.th n).failed, (S1.th n).reg, (S1.th n).h0, (S1.th n).h1⟩ _ (by simp) (rowOf p n) rb rc lo hi _ HROW.out (by have := HP.out.size; have := hbw.size; have := HW7.out.size; omega) (HP.out.row n).1 hpos (HP.out.row n).2).mono ?_
 rintro e w8 ⟨rfl, hb8⟩
 rw [← HU.out]
 have HB8 : Hid (Below X.heap.size X w8) := HYB.out.trans ((HB7.out.trans (hb8.mono HB7.out.size)).mono HYB.out.size)
 clear hb8 u0 u1 u2 u3 u4
 have lt8 : w4.heap.size < X.heap.size := by have := HXZ.out; omega
 have A8 : Hid _ := all_below HX.out HB8.out lt8
 have f8 := fun j => (HB8.out.frozen (p := ⟨w4.heap.size, j, none⟩) lt8).trans (HXF.out j)
 obtain ⟨y0, y1, y2, y3, y4⟩ := stL_th S1 n hn
 have x0 := (A8.out _).trans y0
 have x1 := (A8.out _).trans y1
 have x2 := (A8.out _).trans y2
 have x3 := (A8.out _).trans y3
 have x4 := (A8.out _).trans y4
 clear y0 y1 y2 y3 y4
 unfold thV
 go_upto_region 9 with fail
 have hVs : ∀ j, (((((w8.setCell ⟨w4.heap.size, 4 + n * 5, none⟩ (.int .i64 (u.pos : Int))).setCell ⟨w4.heap.size, 4 + n * 5 + 1, none⟩ (.bool u.failed)).setCell ⟨w4.heap.size, 4 + n * 5 + 2, none⟩ (.int .i16 u.reg)).setCell ⟨w4.heap.size, 4 + n * 5 + 3, none⟩ (.int .i64 (u.h0 : Int))).setCell ⟨w4.heap.size, 4 + n * 5 + 4, none⟩ (.int .i64 (u.h1 : Int))).cell? ⟨w4.heap.size, j, none⟩ = (stL (S1.setTh n u))[j]? := fun j => by
  have h2 := all_set A8.out (4 + n * 5) (by rw [stL_length]; omega) (.int .i64 (u.pos : Int))
  have h3 := all_set h2 (4 + n * 5 + 1) (by rw [List.length_set, stL_length]; omega) (.bool u.failed)
  have h4 := all_set h3 (4 + n * 5 + 2) (by simp only [List.length_set, stL_length]; omega) (.int .i16 u.reg)
  have h5 := all_set h4 (4 + n * 5 + 3) (by simp only [List.length_set, stL_length]; omega) (.int .i64 (u.h0 : Int))
  have h6 := all_set h5 (4 + n * 5 + 4) (by simp only [List.length_set, stL_length]; omega) (.int .i64 (u.h1 : Int)) j
  rw [← stL_setTh S1 n hn]; exact h6
 have hWV : Below w4.heap.size w4 (((((w8.setCell ⟨w4.heap.size, 4 + n * 5, none⟩ (.int .i64 (u.pos : Int))).setCell ⟨w4.heap.size, 4 + n * 5 + 1, none⟩ (.bool u.failed)).setCell ⟨w4.heap.size, 4 + n * 5 + 2, none⟩ (.int .i16 u.reg)).setCell ⟨w4.heap.size, 4 + n * 5 + 3, none⟩ (.int .i64 (u.h0 : Int))).setCell ⟨w4.heap.size, 4 + n * 5 + 4, none⟩ (.int .i64 (u.h1 : Int))) := (((((HXB.out.trans (HB8.out.mono (by have := HXZ.out; omega))).setCell (Nat.le_refl _) _).setCell (Nat.le_refl _) _).setCell (Nat.le_refl _) _).setCell (Nat.le_refl _) _).setCell (Nat.le_refl _) _
 have hVz : (((((w8.setCell ⟨w4.heap.size, 4 + n * 5, none⟩ (.int .i64 (u.pos : Int))).setCell ⟨w4.heap.size, 4 + n * 5 + 1, none⟩ (.bool u.failed)).setCell ⟨w4.heap.size, 4 + n * 5 + 2, none⟩ (.int .i16 u.reg)).setCell ⟨w4.heap.size, 4 + n * 5 + 3, none⟩ (.int .i64 (u.h0 : Int))).setCell ⟨w4.heap.size, 4 + n * 5 + 4, none⟩ (.int .i64 (u.h1 : Int))).heap.size = w8.heap.size := by simp
 have z8 := HB8.out.size
 have zX := HXZ.out
 generalize (((((w8.setCell ⟨w4.heap.size, 4 + n * 5, none⟩ (.int .i64 (u.pos : Int))).setCell ⟨w4.heap.size, 4 + n * 5 + 1, none⟩ (.bool u.failed)).setCell ⟨w4.heap.size, 4 + n * 5 + 2, none⟩ (.int .i16 u.reg)).setCell ⟨w4.heap.size, 4 + n * 5 + 3, none⟩ (.int .i64 (u.h0 : Int))).setCell ⟨w4.heap.size, 4 + n * 5 + 4, none⟩ (.int .i64 (u.h1 : Int))) = V at *
 clear x0 x1 x2 x3 x4 f8 A8
 have lt4 := HZ4.out
 have p0 := (hWV.cell (p := ⟨w2.heap.size, 0, none⟩) lt4).trans o0
 have p1 := (hWV.cell (p := ⟨w2.heap.size, 1, none⟩) lt4).trans o1
 have p2 := (hWV.cell (p := ⟨w2.heap.size, 2, none⟩) lt4).trans o2
 have zW := HBW4.out.size
 have hsV := hs4.out.below hWV (by omega) (by omega) (by omega) (by omega)
 have HWV : Hid (Below W.heap.size W V) := HBW4.out.trans (hWV.mono HBW4.out.size)
 have HVS : Hid _ := hVs
 clear o0 o1 o2 hVs hWV
 have e0 := p0
 go_upto_region 10 with fail
 have g0 : (V.alloc (.cells #[.int .i64 (n : Int), .int .u8 (o.kind : Int), .int .u8 (o.name : Int), .int .i16 vv, .int .i64 o.block, .int .i64 0] 59)).cell? ⟨w8.heap.size, 0, none⟩ = some (.int .i64 (n : Int)) := by rw [← hVz]; simp
 have g1 : (V.alloc (.cells #[.int .i64 (n : Int), .int .u8 (o.kind : Int), .int .u8 (o.name : Int), .int .i16 vv, .int .i64 o.block, .int .i64 0] 59)).cell? ⟨w8.heap.size, 1, none⟩ = some (.int .u8 (o.kind : Int)) := by rw [← hVz]; simp
 have g2 : (V.alloc (.cells #[.int .i64 (n : Int), .int .u8 (o.kind : Int), .int .u8 (o.name : Int), .int .i16 vv, .int .i64 o.block, .int .i64 0] 59)).cell? ⟨w8.heap.size, 2, none⟩ = some (.int .u8 (o.name : Int)) := by rw [← hVz]; simp
 have g3 : (V.alloc (.cells #[.int .i64 (n : Int), .int .u8 (o.kind : Int), .int .u8 (o.name : Int), .int .i16 vv, .int .i64 o.block, .int .i64 0] 59)).cell? ⟨w8.heap.size, 3, none⟩ = some (.int .i16 vv) := by rw [← hVz]; simp
 have g4 : (V.alloc (.cells #[.int .i64 (n : Int), .int .u8 (o.kind : Int), .int .u8 (o.name : Int), .int .i16 vv, .int .i64 o.block, .int .i64 0] 59)).cell? ⟨w8.heap.size, 4, none⟩ = some (.int .i64 o.block) := by rw [← hVz]; simp
 have g5 : (V.alloc (.cells #[.int .i64 (n : Int), .int .u8 (o.kind : Int), .int .u8 (o.name : Int), .int .i16 vv, .int .i64 o.block, .int .i64 0] 59)).cell? ⟨w8.heap.size, 5, none⟩ = some (.int .i64 0) := by rw [← hVz]; simp
 have hUb : Below V.heap.size V (V.alloc (.cells #[.int .i64 (n : Int), .int .u8 (o.kind : Int), .int .u8 (o.name : Int), .int .i16 vv, .int .i64 o.block, .int .i64 0] 59)) := (Below.refl _ _).alloc (Nat.le_refl _) _
 have hsU := hsV.below hUb (by omega) (by omega) (by omega) (by omega)
 have hUS := all_below HVS.out hUb (by omega)
 have hUz : (V.alloc (.cells #[.int .i64 (n : Int), .int .u8 (o.kind : Int), .int .u8 (o.name : Int), .int .i16 vv, .int .i64 o.block, .int .i64 0] 59)).heap.size = w8.heap.size + 1 := by simp; omega
 generalize (V.alloc (.cells #[.int .i64 (n : Int), .int .u8 (o.kind : Int), .int .u8 (o.name : Int), .int .i16 vv, .int .i64 o.block, .int .i64 0] 59)) = U at *
 have HBU : Hid (Below w.heap.size w U) := hbw.trans ((HWV.out.trans (hUb.mono HWV.out.size)).mono hbw.size)
 obtain ⟨s', pr', r', e0', e1', e2', e3', e4', e5', f2', f3'⟩ := hsU
 have t2 : U.there (w.heap.size + 1 + 1) 0 24 := fun j hj => by
  rw [Nat.zero_add, r' j, List.getElem?_eq_getElem (by rw [stL_length]; exact hj)]; exact ⟨rfl, f2' j⟩
 have t3 : U.there (w.heap.size + 1 + 1 + 1) 0 6 := fun j hj => by
  have : j = 0 ∨ j = 1 ∨ j = 2 ∨ j = 3 ∨ j = 4 ∨ j = 5 := by omega
  refine ⟨?_, f3' _⟩
  rcases this with rfl | rfl | rfl | rfl | rfl | rfl
  ·rw [e0']; rfl
  ·rw [e1']; rfl
  ·rw [e2']; rfl
  ·rw [e3']; rfl
  ·rw [e4']; rfl
  ·rw [e5']; rfl
 have r4 : U.rangeAt w4.heap.size 0 (stL (S1.setTh n u)) := fun j v hv => by rw [Nat.zero_add, hUS j]; exact hv
 have r8 : U.rangeAt w8.heap.size 0 [.int .i64 (n : Int), .int .u8 (o.kind : Int), .int .u8 (o.name : Int), .int .i16 vv, .int .i64 o.block, .int .i64 0] := fun j v hv => by
  have hj : j < 6 := by simpa using (List.getElem?_eq_some_iff.1 hv).1
  have : j = 0 ∨ j = 1 ∨ j = 2 ∨ j = 3 ∨ j = 4 ∨ j = 5 := by omega
  rw [Nat.zero_add]
  rcases this with rfl | rfl | rfl | rfl | rfl | rfl
  ·rw [g0]; exact hv
  ·rw [g1]; exact hv
  ·rw [g2]; exact hv
  ·rw [g3]; exact hv
  ·rw [g4]; exact hv
  ·rw [g5]; exact hv
 have n24 : w4.heap.size ≠ w.heap.size + 1 + 1 := by omega
 have n34 : w4.heap.size ≠ w.heap.size + 1 + 1 + 1 := by omega
 have n28 : w8.heap.size ≠ w.heap.size + 1 + 1 := by omega
 have n38 : w8.heap.size ≠ w.heap.size + 1 + 1 + 1 := by omega
 have hS0 : RetS w4.heap.size w8.heap.size (w.heap.size + 1 + 1) (w.heap.size + 1 + 1 + 1) (stL (S1.setTh n u)) [.int .i64 (n : Int), .int .u8 (o.kind : Int), .int .u8 (o.name : Int), .int .i16 vv, .int .i64 o.block, .int .i64 0] U.drew := ⟨r4, r8, t2, t3⟩
 have hbU := HBU.out
 clear s' pr' r' e0' e1' e2' e3' e4' e5' f2' f3' hUS hsV p0 p1 p2 e0 HVS g0 g1 g2 g3 g4 g5 r4 r8 t2 t3
 refine wp_region_held_drew (S := RetS w4.heap.size w8.heap.size (w.heap.size + 1 + 1) (w.heap.size + 1 + 1 + 1) (stL (S1.setTh n u)) [.int .i64 (n : Int), .int .u8 (o.kind : Int), .int .u8 (o.name : Int), .int .i16 vv, .int .i64 o.block, .int .i64 0]) (by kernel_rfl) hS0 (fun hHeld => ?_)
 refine takeAt 0 (.agg (stL (S1.setTh n u)).toArray) rfl (yieldsIf_load_mid (by rfl) _ _ rfl w4.heap.size 0 rfl _ _ (fun w hw => hw.st) Tryz.underlying108 rfl Tryz.size108) hHeld ?_
 refine takeAt 1 (.agg #[.int .i64 (n : Int), .int .u8 (o.kind : Int), .int .u8 (o.name : Int), .int .i16 vv, .int .i64 o.block, .int .i64 0]) rfl (yieldsIf_load_mid (by rfl) _ _ rfl w8.heap.size 0 rfl [.int .i64 (n : Int), .int .u8 (o.kind : Int), .int .u8 (o.name : Int), .int .i16 vv, .int .i64 o.block, .int .i64 0] _ (fun w hw => hw.ev) Tryz.underlying59 rfl Tryz.size59) hHeld ?_
 have hS1 := hHeld.put (w.heap.size + 1 + 1) n24 n28 (stL (S1.setTh n u)).toArray.toList
 refine wpAnyH_store 2 _ (by kernel_rfl) rfl rfl rfl 108 _ _ rfl (w.heap.size + 1 + 1) (stL (S1.setTh n u)).toArray rfl rfl hHeld.there1 Tryz.size108 (all_oneCell_toArray (stL_one _)) hS1 ?_
 have hS2 := hS1.put (w.heap.size + 1 + 1 + 1) n34 n38 #[.int .i64 (n : Int), .int .u8 (o.kind : Int), .int .u8 (o.name : Int), .int .i16 vv, .int .i64 o.block, .int .i64 0].toList
 have th2 := hS1.there2
 have XR : Hid _ := World.rangeAt_setCells_same U.drew (w.heap.size + 1 + 1) 0 (stL (S1.setTh n u)).toArray.toList (by simpa [stL_length] using hHeld.there1)
 have XB : Hid _ := below_setCells (w.heap.size + 1 + 1) (by omega : w.heap.size ≤ w.heap.size + 1 + 1) (stL (S1.setTh n u)).toArray.toList 0 _ hbU.drew
 generalize U.drew.setCells (w.heap.size + 1 + 1) 0 (stL (S1.setTh n u)).toArray.toList = Z at *
 refine wpAnyH_store 3 _ (by kernel_rfl) rfl rfl rfl 59 _ _ rfl (w.heap.size + 1 + 1 + 1) #[.int .i64 (n : Int), .int .u8 (o.kind : Int), .int .u8 (o.name : Int), .int .i16 vv, .int .i64 o.block, .int .i64 0] rfl rfl th2 Tryz.size59 (by simp [Value.oneCell']) hS2 ?_
 refine takeR 4 (.bool true) rfl hS2 ?_
 refine wpAnyH_done (by kernel_rfl) ?_ _
 have xr2 := World.rangeAt_setCells_apart XR.out (w.heap.size + 1 + 1 + 1) 0 #[.int .i64 (n : Int), .int .u8 (o.kind : Int), .int .u8 (o.name : Int), .int .i16 vv, .int .i64 o.block, .int .i64 0].toList (.inl (by omega))
 have xe := World.rangeAt_setCells_same Z (w.heap.size + 1 + 1 + 1) 0 #[.int .i64 (n : Int), .int .u8 (o.kind : Int), .int .u8 (o.name : Int), .int .i16 vv, .int .i64 o.block, .int .i64 0].toList th2
 have xb := below_setCells (w.heap.size + 1 + 1 + 1) (by omega) #[.int .i64 (n : Int), .int .u8 (o.kind : Int), .int .u8 (o.name : Int), .int .i16 vv, .int .i64 o.block, .int .i64 0].toList 0 _ XB.out
 generalize Z.setCells (w.heap.size + 1 + 1 + 1) 0 #[.int .i64 (n : Int), .int .u8 (o.kind : Int), .int .u8 (o.name : Int), .int .i16 vv, .int .i64 o.block, .int .i64 0].toList = F at *
 go_wp2
 refine bodyPost_ret (v := .tuple #[.agg (stL (S1.setTh n u)).toArray, .agg (evL n o.kind o.name vv o.block 0).toArray, .bool true]) (ret_step Tryz.results55 _ F (w.heap.size + 1 + 1) (w.heap.size + 1 + 1 + 1) _ rfl xr2 rfl _ _ _ _ _ _ xe) rfl ⟨rfl, xb⟩

end Go.Proofs.YtfdafcnfefbcbabGreat
