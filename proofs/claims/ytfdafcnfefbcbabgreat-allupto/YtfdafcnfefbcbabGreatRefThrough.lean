/-
 The contract of the reference's Through.
-/
import Derived.Test.YtfdafcnfefbcbabGreatThrough0
import Derived.Test.YtfdafcnfefbcbabGreatRft
namespace Go.Proofs.YtfdafcnfefbcbabGreat
open Go.RowKit
set_option linter.unusedVariables false
set_option maxRecDepth 100000
set_option maxHeartbeats 8000000

/-- The reference's All in memory, to be read. -/
structure SrtAt (w : World) (ab : Nat) (at_ : Bool) (L : List Res) (N : Nat) (ra : Option Addr) (rcap : Nat) : Prop where
 c0 : w.cell? ⟨ab, 0, none⟩ = some (.bool at_)
 c1 : w.cell? ⟨ab, 1, none⟩ = some (.slice ra N rcap)
 len : L.length = N
 lt : ab < w.heap.size
 row : 0 < N → ∃ rg, ra = some ⟨rg, 0, none⟩ ∧ ab < rg ∧ rg < w.heap.size ∧ (∀ j, w.frozen? ⟨rg, j, none⟩ = false) ∧ ∀ (i : Nat) (x : Res), L[i]? = some x → w.rangeAt rg (i * 5) (resL x)

theorem SrtAt.of {w : World} {ab : Nat} {A : Bool × List Res} {ra : Option Addr} {rcap : Nat} (h : AllAt w ab A ra rcap) : SrtAt w ab A.1 A.2 A.2.length ra rcap := by
 refine ⟨h.c0, h.c1, rfl, h.lt, fun h0 => ?_⟩
 obtain ⟨g, rfl, hg, hc⟩ := res_of_owns h.own h0
 have := h.own.lt g rfl
 exact ⟨g, rfl, by omega, hg, fun j => h.own.frozenAt j, hc⟩

theorem SrtAt.below {w w' : World} {ab : Nat} {at_ : Bool} {L : List Res} {N : Nat} {ra : Option Addr} {rcap : Nat} (h : SrtAt w ab at_ L N ra rcap) (hb : Below w.heap.size w w') : SrtAt w' ab at_ L N ra rcap := by
 refine ⟨(hb.cell (p := ⟨ab, 0, none⟩) h.lt).trans h.c0, (hb.cell (p := ⟨ab, 1, none⟩) h.lt).trans h.c1, h.len, Nat.lt_of_lt_of_le h.lt hb.size, fun h0 => ?_⟩
 obtain ⟨g, e, h1, h2, h3, h4⟩ := h.row h0
 exact ⟨g, e, h1, Nat.lt_of_lt_of_le h2 hb.size, fun j => (hb.frozen (p := ⟨g, j, none⟩) h2).trans (h3 j), fun i x hx => range_below (h4 i x hx) hb h2⟩

theorem frozen_cells (b : Nat) : ∀ (vs : List Value) (o : Nat) (w : World) (a : Addr), (w.setCells b o vs).frozen? a = w.frozen? a
 | [], _, _, _ => rfl
 | v :: r, o, w, a => by rw [World.setCells, frozen_cells b r (o + 1) _ a, World.frozen?_setCell]

/-- A result is written. -/
theorem SrtAt.set {w : World} {ab rg : Nat} {at_ : Bool} {L : List Res} {N rcap i : Nat} (h : SrtAt w ab at_ L N (some ⟨rg, 0, none⟩) rcap) (hi : i < N) (y : Res) : SrtAt (w.setCells rg (i * 5) (resL y)) ab at_ (L.set i y) N (some ⟨rg, 0, none⟩) rcap := by
 obtain ⟨g, e, h1, h2, h3, h4⟩ := h.row (by omega)
 obtain rfl : rg = g := by cases e; rfl
 clear e
 have hl := h.len
 have hth : w.there rg (i * 5) (resL y).length := fun j hj => by
  obtain ⟨z, hz⟩ : ∃ z, L[i]? = some z := ⟨L[i], List.getElem?_eq_getElem (by omega)⟩
  have hj' : j < (resL z).length := hj
  exact ⟨by rw [h4 i z hz j _ (List.getElem?_eq_getElem hj')]; rfl, h3 _⟩
 refine ⟨(World.cell?_setCells_out _ _ _ _ _ (fun e => by have : ab = rg := e; omega)).trans h.c0, (World.cell?_setCells_out _ _ _ _ _ (fun e => by have : ab = rg := e; omega)).trans h.c1, by simpa using h.len, by rw [size_setCells]; exact h.lt, fun _ => ⟨rg, rfl, h1, by rw [size_setCells]; exact h2, fun j => by rw [frozen_cells]; exact h3 j, fun k z hz => ?_⟩⟩
 by_cases e : k = i
 ·subst e
  rw [List.getElem?_set_self (by omega)] at hz
  cases hz
  exact World.rangeAt_setCells_same w rg (k * 5) (resL y) hth
 ·rw [List.getElem?_set_ne (fun h => e h.symm)] at hz
  refine World.rangeAt_setCells_apart (h4 k z hz) rg (i * 5) (resL y) (.inr ?_)
  have l1 : (resL z).length = 5 := rfl
  have l2 : (resL y).length = 5 := rfl
  omega

/-- The row of results, and one result. -/
structure LpOne (ab g o : Nat) (v : Value) (y : Res) (w : World) : Prop where
 a1 : w.cell? ⟨ab, 1, none⟩ = some v
 a : w.rangeAt g o (resL y)

theorem SrtAt.there {w : World} {ab rg : Nat} {at_ : Bool} {L : List Res} {N rcap i : Nat} (h : SrtAt w ab at_ L N (some ⟨rg, 0, none⟩) rcap) (hi : i < N) : w.there rg (i * 5) 5 := by
 obtain ⟨g, e, h1, h2, h3, h4⟩ := h.row (by omega)
 obtain rfl : rg = g := by cases e; rfl
 have hl := h.len
 intro j hj
 obtain ⟨z, hz⟩ : ∃ z, L[i]? = some z := ⟨L[i], List.getElem?_eq_getElem (by omega)⟩
 have hj' : j < (resL z).length := hj
 exact ⟨by rw [h4 i z hz j _ (List.getElem?_eq_getElem hj')]; rfl, h3 _⟩

theorem LpOne.put {ab g o rg b : Nat} {v : Value} {y : Res} {w : World} (h : LpOne ab g o v y w) (h1 : ab ≠ rg) (h2 : g ≠ rg ∨ o + 5 ≤ b ∨ b + 5 ≤ o) (x : Res) : LpOne ab g o v y (w.setCells rg b (resL x)) :=
 ⟨(World.cell?_setCells_out _ _ _ _ _ (fun e => absurd e h1)).trans h.a1, World.rangeAt_setCells_apart h.a rg b (resL x) h2⟩

theorem wpAnyH_storeAt {P : Program} {md : Region.Mode} {ops : Array Oper} {Q : Exit → Act → World → Prop} {S : World → Prop} {fuel : Nat} {listed : Array Bool} {a : Act} {w : World} (i : Nat) (o : Oper) (hr : Region.ready md ops listed = [i]) (ho : ops[i]? = some o) (hg : o.guard = none) (hd : o.dst = none)
  (ty : TypeId) (x y : Operand) (hop : o.op = .store ty x y) (b off : Nat) (cells : Array Value) (hx : a.eval x = .pointer (some ⟨b, off, none⟩)) (hy : a.eval y = .agg cells) (ht : w.there b off cells.size) (hi : (P.info? ty).map (·.size) = some cells.size) (h1 : cells.all (·.oneCell') = true)
  (hS : S (w.setCells b off cells.toList)) (h : wpAnyH P md ops Q S fuel (listed.setIfInBounds i true) a (w.setCells b off cells.toList)) : wpAnyH P md ops Q S (fuel + 1) listed a w := by
 refine wpAnyH_ready hr (by simp) (AllReadyH.cons ho (fun K' hK => ?_) AllReadyH.nil)
 rw [if_pos (by simp [Region.wanted, hg])]
 refine wp_store_mid ty x y hop b off cells hx hy ht hi h1 ?_
 rw [hd]
 exact hK.out _ _ hS (fun _ => h)

/-- The row of results, two of them. -/
structure LpThree (ab g o o' : Nat) (v : Value) (x y : Res) (w : World) : Prop where
 a1 : w.cell? ⟨ab, 1, none⟩ = some v
 a : w.rangeAt g o (resL y)
 b : w.rangeAt g o' (resL x)

theorem refThrough_any {w : World} {lo hi bY la lcap : Nat} {p : List (List Pl.POp)} (hy : YAt w lo hi bY la lcap p) (hh : hi ≤ w.heap.size) (h10 : Pl.countShared p ≤ 10) :
  Calls Tryz.prog 24 #[.pointer (some ⟨bY, 0, none⟩)] w fun e w' => Below w.heap.size w w' ∧ ∃ ra rcap, e = .returned (.pointer (some ⟨w.heap.size, 0, none⟩)) ∧ SrtAt w' w.heap.size (checkOf p).isNone (outcomesOf p) (outcomesOf p).length ra rcap := by
 have HY : Hid (YAt w lo hi bY la lcap p) := hy
 have HCK : Hid ((thruOf p).1 = (checkOf p).isNone) := thru_check p hy.rows
 have HOUT : Hid (∀ L, SortTo (thruOf p).2 L L.length 0 → L = outcomesOf p) := fun L h => h.out
 have HND : Hid (thruOf p).2.Nodup := thru_nodup p
 have hrem : remS p (beginTo p 4) ≤ 10 := Nat.le_trans (rem_count p _) h10
 have hpow : 4 ^ (remS p (beginTo p 4) + 1) ≤ 4194304 := Nat.le_trans (Nat.pow_le_pow_right (by omega) (show remS p (beginTo p 4) + 1 ≤ 11 by omega)) (by decide)
 have HNL : Hid ((thruOf p).2.length ≤ 4194304) := by
  have := thru_length p (remS p (beginTo p 4) + 1) (beginTo p 4) [] 0 (true, [])
  show _ ≤ _
  unfold thruOf
  simp only [List.length_nil, Nat.zero_add] at this
  omega
 have HPOW : Hid (4 ^ (remS p (beginTo p 4) + 1) ≤ 4194304) := hpow
 clear hy hpow
 go_enter Tryz.func24, Tryz.ntmps24
 go_wp2_with fail
 have HBW : Hid (Below w.heap.size w (w.alloc (.cells #[.bool true, .slice none 0 0] 131))) := (Below.refl _ _).alloc (Nat.le_refl _) _
 have HAW : Hid (AllAt (w.alloc (.cells #[.bool true, .slice none 0 0] 131)) w.heap.size (true, []) none 0) := ⟨by simp, by simp, fun j => World.frozen?_alloc_at _ _ _ _ (by simp), World.ownsRow_nil _ _ _ _, by simp⟩
 have HZW : Hid ((w.alloc (.cells #[.bool true, .slice none 0 0] 131)).heap.size = w.heap.size + 1) := by show _ = _; simp
 generalize w.alloc (.cells #[.bool true, .slice none 0 0] 131) = W at *
 refine (refBegin_any (HY.out.below (HBW.out.mono hh)) (by have := HZW.out; omega)).mono ?_
 rintro e w1 ⟨b, tb, rfl, hb0, ht0, hb1, hr1⟩
 have HR1 : Hid (RR w1 b tb bY la p.length lcap p (beginTo p 4)) := hr1
 have HA1 : Hid (AllAt w1 w.heap.size (true, []) none 0) := HAW.out.below hb1
 have HB1 : Hid (Below w.heap.size w w1) := HBW.out.trans (hb1.mono HBW.out.size)
 have HCL : Hid (∀ q, q = b ∨ q = tb ∨ q = bY ∨ q = la → Clear w.heap.size (ownOf none) q) := fun q hq => by
  have h1 := HZW.out
  have h2 := HY.out.b1
  have h3 := HY.out.l1
  refine ⟨?_, by simp [ownOf]⟩
  rcases hq with rfl | rfl | rfl | rfl <;> omega
 clear hr1 hb1 HAW HBW
 have hcall := through_nil p h10 bY la lcap w.heap.size (remS p (beginTo p 4)) (beginTo p 4) 0 [] (true, []) none 0 b tb p.length w1 HR1.out (Reach.start p) (by omega) HA1.out HCL.out (by have := HPOW.out; simp only [List.length_nil, Nat.zero_add]; omega)
 have HCALL : Hid _ := hcall
 clear hcall
 go_wp2_with fail
 refine Calls.mono HCALL.out ?_
 clear HCALL
 rintro e w2 ⟨rfl, ra, rcap, hA, hT⟩
 have hA' : AllAt w2 w.heap.size (thruOf p) ra rcap := hA
 have HS0 : Hid (SrtAt w2 w.heap.size (thruOf p).1 (thruOf p).2 (thruOf p).2.length ra rcap) := SrtAt.of hA'
 have HB2 : Hid (Below w.heap.size w w2) := HB1.out.trans (hT.below (Nat.le_refl _) (fun q hq => by simp [ownOf] at hq) HB1.out.size)
 have HSO : Hid (SortTo (thruOf p).2 (thruOf p).2 0 0) := SortTo.start HND.out
 clear hA hA' hT HR1 HA1 HB1 HCL HND HPOW
 rw [HCK.out] at HS0
 generalize (thruOf p).2 = L0 at *
 obtain ⟨at_, hat⟩ : ∃ a, (checkOf p).isNone = a := ⟨_, rfl⟩
 rw [hat] at HS0
 have HAT : Hid ((checkOf p).isNone = at_) := hat
 clear hat
 have hnl := HNL.out
 obtain ⟨N, hN⟩ : ∃ N, L0.length = N := ⟨_, rfl⟩
 rw [hN] at HS0 hnl HNL
 have HN : Hid (L0.length = N) := hN
 clear hN
 go_wp2_with fail
 go_loopw [4] (fun v4 wr => ∃ (i : Nat) (L : List Res), i ≤ N ∧ v4 = .int .i64 (i : Int) ∧ Hid (SrtAt wr w.heap.size at_ L N ra rcap ∧ SortTo L0 L i 0 ∧ Below w.heap.size w wr)) (fun v4 _ => N - (intOf v4).toNat)
 case atStart => exact ⟨0, L0, Nat.zero_le _, rfl, (show Hid _ from ⟨HS0.out, HSO.out, HB2.out⟩)⟩
 case round =>
  obtain ⟨i, L, hi', rfl, H1⟩ := hrel
  clear HS0 HSO HB2
  have s1 := H1.out.1.c1
  by_cases hil : i < N
  ·have hil' : (i : Int) < (N : Int) := by omega
   go_wp2_with fail
   go_loopw [5] (fun v5 wr => ∃ (j : Nat) (L : List Res), i + 1 ≤ j ∧ j ≤ N ∧ v5 = .int .i64 (j : Int) ∧ Hid (SrtAt wr w.heap.size at_ L N ra rcap ∧ SortTo L0 L i j ∧ Below w.heap.size w wr)) (fun v5 _ => N - (intOf v5).toNat)
   case atStart => exact ⟨i + 1, L, Nat.le_refl _, by omega, by go_num, (show Hid _ from ⟨H1.out.1, H1.out.2.1.begin, H1.out.2.2⟩)⟩
   case round =>
    clear H1 s1
    obtain ⟨j, L, hj0, hj, rfl, H2⟩ := hrel
    have s1 := H2.out.1.c1
    have hLN := H2.out.1.len
    by_cases hjl : j < N
    ·have hjl' : (j : Int) < (N : Int) := by omega
     obtain ⟨rg, rfl, hrg0, hrg1, hrf, hrc⟩ := H2.out.1.row (by omega)
     have hx : L[i]? = some L[i] := List.getElem?_eq_getElem (by omega)
     have hy : L[j]? = some L[j] := List.getElem?_eq_getElem (by omega)
     have HTW : Hid (LpThree w.heap.size rg (j * 5) (i * 5) (.slice (some ⟨rg, 0, none⟩) N rcap) L[i] L[j] wr) := ⟨s1, hrc j _ hy, hrc i _ hx⟩
     have HSK : Hid (before L[j] L[i] = false → SortTo L0 L i (j + 1)) := fun h => H2.out.2.1.skip (by omega) hx hy h
     have HSW : Hid (before L[j] L[i] = true → SortTo L0 ((L.set i L[j]).set j L[i]) i (j + 1)) := fun h => H2.out.2.1.swap (by omega) hx hy h
     clear hrc hx hy
     generalize L[i] = x at *
     generalize L[j] = y at *
     go_upto_region 9 with fail
     refine wp_region_held_drew (S := LpThree w.heap.size rg (j * 5) (i * 5) (.slice (some ⟨rg, 0, none⟩) N rcap) x y) (by kernel_rfl) ⟨HTW.out.a1, HTW.out.a, HTW.out.b⟩ (fun hHeld => ?_)
     refine takeR 0 (.pointer (some ⟨w.heap.size, 0, none⟩)) rfl hHeld ?_
     refine takeS 1 (.pointer (some ⟨w.heap.size, 0, none⟩)) rfl hHeld ?_
     refine takeS 2 (.pointer (some ⟨w.heap.size, 1, none⟩)) rfl hHeld ?_
     refine takeAt 3 (.slice (some ⟨rg, 0, none⟩) N rcap) rfl (.inl ⟨by rfl, fun w hw => by have hwa := hw.a1; go_simp⟩) hHeld ?_
     refine takeR 4 (.int .i64 (j : Int)) rfl hHeld ?_
     refine takeAt 5 (.pointer (some ⟨rg, j * 5, none⟩)) rfl (.inl ⟨by rfl, fun w hw => by go_simp <;> (intro h; omega)⟩) hHeld ?_
     refine takeAt 6 (.agg (resL y).toArray) rfl (yieldsIf_load_mid (by rfl) _ _ rfl rg (j * 5) rfl (resL y) _ (fun w hw => hw.a) Tryz.underlying66 rfl Tryz.size66) hHeld ?_
     refine takeR 7 (.pointer (some ⟨w.heap.size, 0, none⟩)) rfl hHeld ?_
     refine takeS 8 (.pointer (some ⟨w.heap.size, 0, none⟩)) rfl hHeld ?_
     refine takeS 9 (.pointer (some ⟨w.heap.size, 1, none⟩)) rfl hHeld ?_
     refine takeAt 10 (.slice (some ⟨rg, 0, none⟩) N rcap) rfl (.inl ⟨by rfl, fun w hw => by have hwa := hw.a1; go_simp⟩) hHeld ?_
     refine takeR 11 (.int .i64 (i : Int)) rfl hHeld ?_
     refine takeAt 12 (.pointer (some ⟨rg, i * 5, none⟩)) rfl (.inl ⟨by rfl, fun w hw => by go_simp <;> (intro h; omega)⟩) hHeld ?_
     refine takeAt 13 (.agg (resL x).toArray) rfl (yieldsIf_load_mid (by rfl) _ _ rfl rg (i * 5) rfl (resL x) _ (fun w hw => hw.b) Tryz.underlying66 rfl Tryz.size66) hHeld ?_
     refine wpAnyH_callg 14 _ (by kernel_rfl) rfl (by rfl) 47 #[resA y, resA x] (by unfold resA; go_simp) _ (refLess_any y x _) ?_
     rintro e w6 ⟨rfl, hb6'⟩
     have hb6 : Below wr.heap.size wr w6 := (Below.refl _ _).drew.trans (hb6'.mono (Nat.le_refl _))
     have hS6 : LpThree w.heap.size rg (j * 5) (i * 5) (.slice (some ⟨rg, 0, none⟩) N rcap) x y w6 := ⟨(hb6.cell (p := ⟨w.heap.size, 1, none⟩) H2.out.1.lt).trans s1, range_below HTW.out.a hb6 hrg1, range_below HTW.out.b hb6 hrg1⟩
     refine ⟨_, rfl, hS6, ?_⟩
     simp only [List.getElem_toArray, List.getElem_cons_zero, List.getElem_cons_succ, Act.put, List.setIfInBounds_toArray, List.set_cons_zero, List.set_cons_succ]
     refine wpAnyH_done (by kernel_rfl) ?_ _
     have HS6 : Hid (SrtAt w6 w.heap.size at_ L N (some ⟨rg, 0, none⟩) rcap) := H2.out.1.below hb6
     have HB6 : Hid (Below w.heap.size w w6) := H2.out.2.2.trans (hb6.mono H2.out.2.2.size)
     clear hb6 hb6' hHeld HTW H2 s1
     cases hbf : before y x
     ·have HSK2 : Hid _ := HSK.out hbf
      clear hbf HSK HSW hS6
      go_wp2
      go_roundw
      case rel => exact ⟨j + 1, L, by omega, by omega, by go_num, (show Hid _ from ⟨HS6.out, HSK2.out, HB6.out⟩)⟩
      case measure => simp [intOf]; omega
     ·have HSW2 : Hid _ := HSW.out hbf
      clear hbf HSK HSW
      obtain ⟨x0, x1, x2, x3, x4⟩ := x
      have q0 : w6.cell? ⟨rg, i * 5, none⟩ = some (.int .u8 (x0 : Int)) := hS6.b 0 _ rfl
      have q1 : w6.cell? ⟨rg, i * 5 + 1, none⟩ = some (.int .i16 x1) := hS6.b 1 _ rfl
      have q2 : w6.cell? ⟨rg, i * 5 + 2, none⟩ = some (.int .i16 x2) := hS6.b 2 _ rfl
      have q3 : w6.cell? ⟨rg, i * 5 + 3, none⟩ = some (.int .i16 x3) := hS6.b 3 _ rfl
      have q4 : w6.cell? ⟨rg, i * 5 + 4, none⟩ = some (.int .i16 x4) := hS6.b 4 _ rfl
      have s1 := hS6.a1
      have HYR : Hid (w6.rangeAt rg (j * 5) (resL y)) := hS6.a
      clear hS6
      go_upto_region 11 with fail
      have HBV : Hid (Below w6.heap.size w6 (w6.alloc (.cells #[.int .u8 (x0 : Int), .int .i16 x1, .int .i16 x2, .int .i16 x3, .int .i16 x4] 66))) := (Below.refl _ _).alloc (Nat.le_refl _) _
      have HMV : Hid ((w6.alloc (.cells #[.int .u8 (x0 : Int), .int .i16 x1, .int .i16 x2, .int .i16 x3, .int .i16 x4] 66)).rangeAt w6.heap.size 0 (resL (x0, x1, x2, x3, x4))) := fun j v hv => by
       rw [Nat.zero_add, cell_of_row _ w6.heap.size j _ 66 (0, 0) (heap_alloc_new w6 _)]
       show ((resL (x0, x1, x2, x3, x4)).toArray)[j]? = some v
       simpa using hv
      have hrg6 : rg < w6.heap.size := World.block_lt_of_cell? w6 ⟨rg, i * 5, none⟩ q0
      generalize w6.alloc (.cells #[.int .u8 (x0 : Int), .int .i16 x1, .int .i16 x2, .int .i16 x3, .int .i16 x4] 66) = V at *
      have HSV : Hid (SrtAt V w.heap.size at_ L N (some ⟨rg, 0, none⟩) rcap) := HS6.out.below HBV.out
      have HVB : Hid (Below w.heap.size w V) := HB6.out.trans (HBV.out.mono HB6.out.size)
      have HLO : Hid (LpOne w.heap.size rg (j * 5) (.slice (some ⟨rg, 0, none⟩) N rcap) y V) := ⟨HSV.out.c1, range_below HYR.out HBV.out hrg6⟩
      clear q0 q1 q2 q3 q4 s1 HYR HS6 HB6 HBV
      refine wp_region_held_drew (S := LpOne w.heap.size rg (j * 5) (.slice (some ⟨rg, 0, none⟩) N rcap) y) (by kernel_rfl) ⟨HLO.out.a1, HLO.out.a⟩ (fun hHeld => ?_)
      refine takeR 0 (.pointer (some ⟨w.heap.size, 0, none⟩)) rfl hHeld ?_
      refine takeS 1 (.pointer (some ⟨w.heap.size, 0, none⟩)) rfl hHeld ?_
      refine takeS 2 (.pointer (some ⟨w.heap.size, 1, none⟩)) rfl hHeld ?_
      refine takeAt 3 (.slice (some ⟨rg, 0, none⟩) N rcap) rfl (.inl ⟨by rfl, fun w hw => by have hwa := hw.a1; go_simp⟩) hHeld ?_
      refine takeR 4 (.int .i64 (i : Int)) rfl hHeld ?_
      refine takeR 5 (.pointer (some ⟨w.heap.size, 0, none⟩)) rfl hHeld ?_
      refine takeS 6 (.pointer (some ⟨w.heap.size, 0, none⟩)) rfl hHeld ?_
      refine takeS 7 (.pointer (some ⟨w.heap.size, 1, none⟩)) rfl hHeld ?_
      refine takeAt 8 (.slice (some ⟨rg, 0, none⟩) N rcap) rfl (.inl ⟨by rfl, fun w hw => by have hwa := hw.a1; go_simp⟩) hHeld ?_
      refine takeR 9 (.int .i64 (j : Int)) rfl hHeld ?_
      refine takeAt 10 (.pointer (some ⟨rg, j * 5, none⟩)) rfl (.inl ⟨by rfl, fun w hw => by go_simp <;> (intro h; omega)⟩) hHeld ?_
      refine takeAt 11 (.agg (resL y).toArray) rfl (yieldsIf_load_mid (by rfl) _ _ rfl rg (j * 5) rfl (resL y) _ (fun w hw => hw.a) Tryz.underlying66 rfl Tryz.size66) hHeld ?_
      refine takeAt 12 (.pointer (some ⟨rg, i * 5, none⟩)) rfl (.inl ⟨by rfl, fun w hw => by go_simp <;> (intro h; omega)⟩) hHeld ?_
      refine wpAnyH_storeAt 13 _ (by kernel_rfl) rfl rfl rfl 66 _ _ rfl rg (i * 5) (resL y).toArray rfl rfl (HSV.out.there (by omega)) Tryz.size66 (by simp [resL, Value.oneCell']) (hHeld.put (by omega) (.inr (.inr (by omega))) y) ?_
      refine wpAnyH_done (by kernel_rfl) ?_ _
      have HS2 : Hid (SrtAt (V.drew.setCells rg (i * 5) (resL y).toArray.toList) w.heap.size at_ (L.set i y) N (some ⟨rg, 0, none⟩) rcap) := (HSV.out.below (Below.refl _ _).drew).set (by omega) y
      have HM2 : Hid ((V.drew.setCells rg (i * 5) (resL y).toArray.toList).rangeAt w6.heap.size 0 (resL (x0, x1, x2, x3, x4))) := World.rangeAt_setCells_apart (fun j v hv => HMV.out j v hv) rg (i * 5) (resL y) (.inl (by omega))
      have HB2 : Hid (Below w.heap.size w (V.drew.setCells rg (i * 5) (resL y).toArray.toList)) := below_setCells rg (by omega) _ _ _ HVB.out.drew
      clear hHeld HLO HSV HMV HVB
      generalize V.drew.setCells rg (i * 5) (resL y).toArray.toList = V2 at *
      go_upto_region 12 with fail
      refine wp_region_held_drew (S := LpOne w.heap.size w6.heap.size 0 (.slice (some ⟨rg, 0, none⟩) N rcap) (x0, x1, x2, x3, x4)) (by kernel_rfl) ⟨HS2.out.c1, HM2.out⟩ (fun hHeld => ?_)
      refine takeR 0 (.pointer (some ⟨w.heap.size, 0, none⟩)) rfl hHeld ?_
      refine takeS 1 (.pointer (some ⟨w.heap.size, 0, none⟩)) rfl hHeld ?_
      refine takeS 2 (.pointer (some ⟨w.heap.size, 1, none⟩)) rfl hHeld ?_
      refine takeAt 3 (.slice (some ⟨rg, 0, none⟩) N rcap) rfl (.inl ⟨by rfl, fun w hw => by have hwa := hw.a1; go_simp⟩) hHeld ?_
      refine takeR 4 (.int .i64 (j : Int)) rfl hHeld ?_
      refine takeAt 5 (.agg (resL (x0, x1, x2, x3, x4)).toArray) rfl (yieldsIf_load_mid (by rfl) _ _ rfl w6.heap.size 0 rfl (resL (x0, x1, x2, x3, x4)) _ (fun w hw => hw.a) Tryz.underlying66 rfl Tryz.size66) hHeld ?_
      refine takeAt 6 (.pointer (some ⟨rg, j * 5, none⟩)) rfl (.inl ⟨by rfl, fun w hw => by go_simp <;> (intro h; omega)⟩) hHeld ?_
      refine wpAnyH_storeAt 7 _ (by kernel_rfl) rfl rfl rfl 66 _ _ rfl rg (j * 5) (resL (x0, x1, x2, x3, x4)).toArray rfl rfl (HS2.out.there (by omega)) Tryz.size66 (by simp [resL, Value.oneCell']) (hHeld.put (by omega) (.inl (by omega)) _) ?_
      refine wpAnyH_done (by kernel_rfl) ?_ _
      have HS3 : Hid (SrtAt (V2.drew.setCells rg (j * 5) (resL (x0, x1, x2, x3, x4)).toArray.toList) w.heap.size at_ ((L.set i y).set j (x0, x1, x2, x3, x4)) N (some ⟨rg, 0, none⟩) rcap) := (HS2.out.below (Below.refl _ _).drew).set (by omega) _
      have HB3 : Hid (Below w.heap.size w (V2.drew.setCells rg (j * 5) (resL (x0, x1, x2, x3, x4)).toArray.toList)) := below_setCells rg (by omega) _ _ _ HB2.out.drew
      clear hHeld HS2 HM2 HB2
      generalize V2.drew.setCells rg (j * 5) (resL (x0, x1, x2, x3, x4)).toArray.toList = V3 at *
      go_wp2
      go_roundw
      case rel => exact ⟨j + 1, _, by omega, by omega, by go_num, (show Hid _ from ⟨HS3.out, HSW2.out, HB3.out⟩)⟩
      case measure => simp [intOf]; omega
    ·have hjl' : ¬ (j : Int) < (N : Int) := by omega
     have e : j = N := by omega
     subst e
     go_wp2
     go_roundw
     case rel => exact ⟨i + 1, L, by omega, by go_num, (show Hid _ from ⟨H2.out.1, SortTo.next (by rw [hLN]; exact H2.out.2.1), H2.out.2.2⟩)⟩
     case measure => simp [intOf]; omega
  ·have hil' : ¬ (i : Int) < (N : Int) := by omega
   have e : i = N := by omega
   subst e
   have HEQ : Hid (L = outcomesOf p) := HOUT.out L (by rw [H1.out.1.len]; exact H1.out.2.1)
   go_wp2
   go_ret
   refine ⟨H1.out.2.2, rfl, ra, rcap, ?_⟩
   rw [← HEQ.out, H1.out.1.len, HAT.out]
   exact H1.out.1

end Go.Proofs.YtfdafcnfefbcbabGreat
