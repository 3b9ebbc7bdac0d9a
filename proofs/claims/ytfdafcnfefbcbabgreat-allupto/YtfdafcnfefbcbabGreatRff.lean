/-
 Several texts of ours in one: RefBegin, LawPl, RefReady.
-/
import Derived.Test.YtfdafcnfefbcbabGreatRefOnA
import Derived.Test.YtfdafcnfefbcbabGreatRfa
import Derived.Test.YtfdafcnfefbcbabGreatBeg
import Derived.Test.YtfdafcnfefbcbabGreatMade
import Derived.Test.YtfdafcnfefbcbabGreatRfe
import Derived.Test.YtfdafcnfefbcbabGreatLinePl
/-
 The reference's program in memory, and the contract of its Begin.
-/
namespace Go.Proofs.YtfdafcnfefbcbabGreat
open Go.RowKit
set_option linter.unusedVariables false
set_option maxRecDepth 100000
set_option maxHeartbeats 2000000

/-- The reference's program in memory. -/
structure YAt (w : World) (lo hi bY la lcap : Nat) (p : List (List Pl.POp)) : Prop where
 y0 : w.cell? ⟨bY, 0, none⟩ = some (.slice (some ⟨la, 0, none⟩) p.length lcap)
 ls : ∀ n, n < p.length → ∃ s : ByteArray, w.cell? ⟨la, n, none⟩ = some (.string s) ∧ bytesOf s = textOf (rowOf p n) ∧ s.size ≤ 1000
 rows : ∀ n : Nat, RowOk (rowOf p n)
 p1 : 1 ≤ p.length
 p4 : p.length ≤ 4
 b0 : lo ≤ bY
 b1 : bY < hi
 l0 : lo ≤ la
 l1 : la < hi

theorem YAt.below {w w' : World} {lo hi bY la lcap : Nat} {p : List (List Pl.POp)} (h : YAt w lo hi bY la lcap p) (hb : Below hi w w') : YAt w' lo hi bY la lcap p := by
 refine ⟨(hb.cell (p := ⟨bY, 0, none⟩) h.b1).trans h.y0, fun n hn => ?_, h.rows, h.p1, h.p4, h.b0, h.b1, h.l0, h.l1⟩
 obtain ⟨s, h1, h2⟩ := h.ls n hn
 exact ⟨s, (hb.cell (p := ⟨la, n, none⟩) h.l1).trans h1, h2⟩

theorem settle_nil (t : Th) (k : Nat) : settle [] k t = t := settle_none (by unfold opAt; simp) k

theorem setTh_same (S : St) (k : Nat) (t : Th) (hk : k < 4) (h : S.th k = t) : S.setTh k t = S := by
 subst h
 have : k = 0 ∨ k = 1 ∨ k = 2 ∨ k = 3 := by omega
 rcases this with rfl | rfl | rfl | rfl <;> rfl

theorem beginTo_past (p : List (List Pl.POp)) : ∀ j, p.length + j ≤ 4 → beginTo p (p.length + j) = beginTo p p.length
 | 0, _ => rfl
 | j + 1, h => by
  have ih := beginTo_past p j (by omega)
  show (beginTo p (p.length + j)).setTh (p.length + j) (settle (rowOf p ((p.length + j : Nat) : Int)) ((rowOf p ((p.length + j : Nat) : Int)).length + 1) th0) = _
  rw [rowOf_past (by omega), settle_nil, setTh_same _ _ _ (by omega) (beginTo_th p _ _ (Nat.le_refl _) (by omega)), ih]

theorem beginTo_all {p : List (List Pl.POp)} (h : p.length ≤ 4) : beginTo p p.length = beginTo p 4 := by
 have := beginTo_past p (4 - p.length) (by omega)
 rw [show p.length + (4 - p.length) = 4 by omega] at this
 exact this.symm

theorem th_small (j : Nat) : st0.th j = th0 := by
 match j with
 | 0 => rfl
 | 1 => rfl
 | 2 => rfl
 | j + 3 => rfl

theorem tame_st0 : Tame st0 := ⟨fun n => by rw [th_small]; unfold In16 th0; decide, fun v => by
  match v with
  | 0 => unfold In16 st0; decide
  | 1 => unfold In16 st0; decide
  | 2 => unfold In16 st0; decide
  | v + 3 => show In16 0; unfold In16; decide⟩

theorem Tryz.info121 : (Tryz.prog.info? 121).map (fun i => (i.zero, i.size, i.bytes)) = some (some (.agg #[.int .i64 0, .int .i64 0]), 2, 16) := by kernel_rfl

theorem made2 (n j : Nat) (hj : j < n * 2) : (madeCells (Value.agg #[.int .i64 0, .int .i64 0]).cells (n * 2)).toList[j]? = some (.int .i64 0) := by
 have e : (Value.agg #[.int .i64 0, .int .i64 0]).cells = #[.int .i64 0, .int .i64 0] := by kernel_rfl
 rw [e]
 have h2 : j % 2 = 0 ∨ j % 2 = 1 := by omega
 rcases h2 with h2 | h2 <;> simp [madeCells, hj, h2]

/-- A new run in memory. -/
theorem RR.begun {w w1 : World} {lo hi bY la lcap : Nat} {p : List (List Pl.POp)} (hy : YAt w lo hi bY la lcap p) (hh : hi ≤ w.heap.size) {base : Nat} (t0 : TypeId)
  (ho : w1.ownsRow base t0 2 (.slice (some ⟨w.heap.size, 0, none⟩) p.length p.length) p.length (madeCells (Value.agg #[.int .i64 0, .int .i64 0]).cells (p.length * 2)).toList) (hg : w.grownBy w1 none) (hz : w.heap.size < w1.heap.size) (t : TypeId) :
  RR (w1.alloc (.cells #[.pointer (some ⟨bY, 0, none⟩), .int .i64 0, .int .i64 0, .int .i64 0, .int .i64 0, .slice (some ⟨w.heap.size, 0, none⟩) p.length p.length, .int .i64 0, .int .i64 0, .int .i64 0, .int .i64 0, .int .i64 0, .int .i64 0, .int .i64 0, .int .i64 0] t)) w1.heap.size w.heap.size bY la p.length lcap p st0 := by
 have hb : Below w.heap.size w w1 := Below.grown (Below.refl _ _) hg (Nat.le_refl _) (fun _ h => by cases h)
 have hy1 := (hy.below (hb.mono hh)).below ((Below.refl hi w1).alloc (by omega) (.cells #[.pointer (some ⟨bY, 0, none⟩), .int .i64 0, .int .i64 0, .int .i64 0, .int .i64 0, .slice (some ⟨w.heap.size, 0, none⟩) p.length p.length, .int .i64 0, .int .i64 0, .int .i64 0, .int .i64 0, .int .i64 0, .int .i64 0, .int .i64 0, .int .i64 0] t))
 have q1 := hy.b1
 have q2 := hy.l1
 refine ⟨by simp, fun v hv => ?_, by simp, fun n l hn hl => ?_, fun n hn => ?_, fun j => ?_, hy1.y0, hy1.ls, hy.rows, hy.p1, hy.p4, by omega, by omega, by omega, by omega, by omega, tame_st0, fun u _ _ => th_small u⟩
 ·have : v = 0 ∨ v = 1 ∨ v = 2 ∨ v = 3 := by omega
  rcases this with rfl | rfl | rfl | rfl <;> simp [St.var, st0]
 ·have h1 : n = 0 ∨ n = 1 ∨ n = 2 ∨ n = 3 := by omega
  have h2 : l = 0 ∨ l = 1 := by omega
  rw [th_small]
  rcases h1 with rfl | rfl | rfl | rfl <;> rcases h2 with rfl | rfl <;> simp [Th.held, th0]
 ·rw [th_small]
  have e1 : atOf (rowOf p n) th0 = 0 := by unfold atOf th0; simp [offs_zero]
  refine ⟨?_, ?_, fun j => ?_⟩
  ·rw [World.cell?_alloc_past _ _ _ (by simpa using hz), ho.cellAt _ (by omega), made2 _ _ (by omega), e1]
  ·rw [World.cell?_alloc_past _ _ _ (by simpa using hz), ho.cellAt _ (by omega), made2 _ _ (by omega)]; rfl
  ·rw [World.frozen?_alloc_past _ _ _ (by simpa using hz)]; exact ho.frozenAt j
 ·rw [World.frozen?_alloc_at _ _ _ _ (by simp)]

/-- How Begin stands ahead of thread k. -/
structure BgAt (w wr : World) (b tb bY la lcap : Nat) (p : List (List Pl.POp)) (k : Nat) : Prop where
 rr : RR wr b tb bY la p.length lcap p (beginTo p k)
 bl : Below w.heap.size w wr

theorem refBegin_any {w : World} {lo hi bY la lcap : Nat} {p : List (List Pl.POp)} (hy : YAt w lo hi bY la lcap p) (hh : hi ≤ w.heap.size) :
  Calls Tryz.prog 34 #[.pointer (some ⟨bY, 0, none⟩)] w fun e w' => ∃ b tb, e = .returned (.pointer (some ⟨b, 0, none⟩)) ∧ w.heap.size ≤ b ∧ w.heap.size ≤ tb ∧ Below w.heap.size w w' ∧ RR w' b tb bY la p.length lcap p (beginTo p 4) := by
 have HY : Hid (YAt w lo hi bY la lcap p) := hy
 have y0 := hy.y0
 have h4 := hy.p4
 have h1 := hy.p1
 clear hy
 obtain ⟨i0, hi0, hz0, hz1, hz2⟩ := info_parts Tryz.info121
 go_enter Tryz.func34, Tryz.ntmps34
 go_upto_region 2 with (first | (refine wpList_make_full w rfl _ _ _ rfl w.heap.size 121 i0 _ 2 Tryz.underlying116 hi0 hz0 hz1 .i64 .i64 _ _ p.length rfl rfl rfl rfl (by rw [hz2]; omega) (by unfold maxLen; omega) (Nat.le_refl _) ?_; intro w1 hown hgrow))
 have hz : w.heap.size < w1.heap.size := (hown.lt w.heap.size rfl).2
 have HRR : Hid (RR (w1.alloc (.cells #[.pointer (some ⟨bY, 0, none⟩), .int .i64 0, .int .i64 0, .int .i64 0, .int .i64 0, .slice (some ⟨w.heap.size, 0, none⟩) p.length p.length, .int .i64 0, .int .i64 0, .int .i64 0, .int .i64 0, .int .i64 0, .int .i64 0, .int .i64 0, .int .i64 0] 119)) w1.heap.size w.heap.size bY la p.length lcap p st0) := RR.begun HY.out hh _ hown hgrow hz _
 have hbl : Below w.heap.size w w1 := Below.grown (Below.refl _ _) hgrow (Nat.le_refl _) (fun _ h => by cases h)
 have HBL : Hid (Below w.heap.size w (w1.alloc (.cells #[.pointer (some ⟨bY, 0, none⟩), .int .i64 0, .int .i64 0, .int .i64 0, .int .i64 0, .slice (some ⟨w.heap.size, 0, none⟩) p.length p.length, .int .i64 0, .int .i64 0, .int .i64 0, .int .i64 0, .int .i64 0, .int .i64 0, .int .i64 0, .int .i64 0] 119))) := hbl.alloc (by omega) _
 generalize (w1.alloc (.cells #[.pointer (some ⟨bY, 0, none⟩), .int .i64 0, .int .i64 0, .int .i64 0, .int .i64 0, .slice (some ⟨w.heap.size, 0, none⟩) p.length p.length, .int .i64 0, .int .i64 0, .int .i64 0, .int .i64 0, .int .i64 0, .int .i64 0, .int .i64 0, .int .i64 0] 119)) = W at *
 have hzb : w.heap.size ≤ w1.heap.size := by omega
 generalize w1.heap.size = b at *
 clear hown hgrow hbl hz
 go_wp2
 go_loopw [4] (fun t' wr => ∃ k : Nat, k ≤ p.length ∧ t' = .int .i64 (k : Int) ∧ Hid (BgAt w wr b w.heap.size bY la lcap p k)) (fun t' _ => p.length - (intOf t').toNat)
 case atStart => exact ⟨0, by omega, rfl, (show Hid _ from ⟨HRR.out, HBL.out⟩)⟩
 case round =>
  obtain ⟨k, hk, rfl, HH⟩ := hrel
  have c0 := HH.out.rr.y0
  by_cases hlt : k < p.length
  ·have hlt' : (k : Int) < (p.length : Int) := by omega
   have ht := beginTo_th p k k (Nat.le_refl _) (by omega)
   go_wp2_with fail
   refine (on_any HH.out.rr k hlt (by rw [ht]; exact Nat.zero_le _)).mono ?_
   rintro e w2 ⟨rfl, hk2, hs2, hr2⟩
   rw [ht] at hr2
   have HR2 : Hid (RR w2 b w.heap.size bY la p.length lcap p (beginTo p (k + 1))) := hr2
   have HB2 : Hid (Below w.heap.size w w2) := HH.out.bl.trans (hk2.below hzb (Nat.le_refl _) HH.out.bl.size)
   clear hr2 hk2 ht c0
   go_wp2
   go_roundw
   case rel => exact ⟨k + 1, by omega, by go_num, (show Hid _ from ⟨HR2.out, HB2.out⟩)⟩
   case measure => simp [intOf]; omega
  ·have e : k = p.length := by omega
   subst e
   go_wp2
   go_ret
   refine ⟨b, w.heap.size, rfl, hzb, Nat.le_refl _, HH.out.bl, ?_⟩
   rw [← beginTo_all h4]
   exact HH.out.rr

theorem place_few : ∀ (s : List Nat) (inside : Bool) (lines k i : Nat), Pl.place inside lines k i s < 0 → lines ≤ 4 → (k ≠ 0 → Pl.takesName k = true) → Pl.countBytes (fun c => c == 10) s + lines ≤ 4
 | [], inside, lines, k, i, _, h, _ => by simpa [Pl.countBytes] using h
 | c :: r, inside, lines, k, i, hp, h, hk => by
  have e : Pl.countBytes (fun c => c == 10) (c :: r) = (if c = 10 then 1 else 0) + Pl.countBytes (fun c => c == 10) r := by
   unfold Pl.countBytes
   by_cases h10 : c = 10
   ·simp [h10]; omega
   ·simp [h10]
  rw [e]
  unfold Pl.place at hp
  split at hp
  ·rename_i hk0
   have hk1 : k ≠ 0 := by simpa using hk0
   split at hp
   ·rename_i hn
    have hc : c ≠ 10 := fun e10 => by
     subst e10
     have ht := hk hk1
     simp only [Pl.takesName, Bool.or_eq_true, beq_iff_eq] at ht
     have hks : k = 114 ∨ k = 119 ∨ k = 108 ∨ k = 117 ∨ k = 43 ∨ k = 45 ∨ k = 42 ∨ k = 94 ∨ k = 60 ∨ k = 63 := by omega
     rcases hks with rfl | rfl | rfl | rfl | rfl | rfl | rfl | rfl | rfl | rfl <;> exact absurd hn (by decide)
    have := place_few r _ _ _ _ hp h (fun h0 => absurd rfl h0)
    rw [if_neg hc]; omega
   ·omega
  ·split at hp
   ·rename_i ht
    have hc : c ≠ 10 := fun e10 => by subst e10; exact absurd ht (by decide)
    have := place_few r _ _ _ _ hp h (fun _ => ht)
    rw [if_neg hc]; omega
   ·split at hp
    ·rename_i h33
     have hc : c ≠ 10 := fun e10 => by subst e10; exact absurd h33 (by decide)
     have := place_few r _ _ _ _ hp h (fun h0 => absurd rfl h0)
     rw [if_neg hc]; omega
    ·split at hp
     ·rename_i h91
      have hc : c ≠ 10 := fun e10 => by subst e10; simp at h91
      have := place_few r _ _ _ _ hp h (fun h0 => absurd rfl h0)
      rw [if_neg hc]; omega
     ·split at hp
      ·rename_i h93
       have hc : c ≠ 10 := fun e10 => by subst e10; simp at h93
       have := place_few r _ _ _ _ hp h (fun h0 => absurd rfl h0)
       rw [if_neg hc]; omega
      ·split at hp
       ·rename_i hl
        simp only [Bool.and_eq_true, decide_eq_true_eq, beq_iff_eq] at hl
        have := place_few r _ _ _ _ hp (by omega) (fun h0 => absurd rfl h0)
        rw [if_pos hl.1.1]; omega
       ·omega

theorem new_few {s : List Nat} {p : List (List Pl.POp)} (h : Pl.new s = .inr p) : 1 ≤ p.length ∧ p.length ≤ 4 ∧ s.length ≤ 100 := by
 rcases Pl.new_ref s with ⟨k, n, h1, _⟩ | ⟨q, h1, h2⟩
 ·rw [h] at h1; cases h1
 ·rw [h] at h1; cases h1
  unfold Pl.refNew at h2
  split at h2
  ·cases h2
  ·split at h2
   ·cases h2
   ·split at h2
    ·cases h2
    ·rename_i c1 c2 _
     simp at h2
     have := place_few s false 1 0 0 (by omega) (by omega) (fun h0 => absurd rfl h0)
     omega

theorem split10_len : ∀ (l x : List Nat), x ∈ split10 l → x.length ≤ l.length
 | [], x, h => by simp [split10] at h; subst h; simp
 | c :: r, x, h => by
  unfold split10 at h
  split at h
  ·rcases List.mem_cons.1 h with rfl | h
   ·simp
   ·have := split10_len r x h; simp; omega
  ·rcases List.mem_cons.1 h with rfl | h
   ·cases hs : split10 r with
    | nil => exact absurd hs (split10_ne r)
    | cons a b =>
     have := split10_len r a (by rw [hs]; simp)
     simp; omega
   ·have := split10_len r x (List.mem_of_mem_tail h); simp; omega

/-- The pair in memory. -/
structure TwoAt (w : World) (lo hi b bx bY la lcap : Nat) (p : List (List Pl.POp)) : Prop where
 c0 : w.cell? ⟨b, 0, none⟩ = some (.pointer (some ⟨bx, 0, none⟩))
 c1 : w.cell? ⟨b, 1, none⟩ = some (.pointer (some ⟨bY, 0, none⟩))
 px : ProgIn w lo hi bx p
 py : YAt w lo hi bY la lcap p
 b0 : lo ≤ b
 b1 : b < hi

theorem TwoAt.below {w w' : World} {lo hi b bx bY la lcap : Nat} {p : List (List Pl.POp)} (h : TwoAt w lo hi b bx bY la lcap p) (hb : Below hi w w') : TwoAt w' lo hi b bx bY la lcap p :=
 ⟨(hb.cell (p := ⟨b, 0, none⟩) h.b1).trans h.c0, (hb.cell (p := ⟨b, 1, none⟩) h.b1).trans h.c1, h.px.below hb, h.py.below hb, h.b0, h.b1⟩

theorem two_of {w : World} {lo hi b : Nat} {s : ByteArray} {p : List (List Pl.POp)} (hn : Pl.new (bytesOf s) = .inr p) (h : PairIn w lo hi b p (cutTo s (s.size + 1)).1) : ∃ bx bY la lcap, TwoAt w lo hi b bx bY la lcap p := by
 obtain ⟨bx, bY, h1, h2, c0, c1, hx, r1, r2, a, cap, r3, r4⟩ := h
 obtain ⟨ht, hrows⟩ := cut_texts hn
 obtain ⟨f1, f4, f100⟩ := new_few hn
 have hlen : (cutTo s (s.size + 1)).1.length = p.length := by
  have := congrArg List.length ht
  simpa using this
 generalize (cutTo s (s.size + 1)).1 = L at *
 obtain ⟨g, rfl, hg0, hg1, hnc, hcm, hcell, hfz⟩ := owns_cells r4.1 (by omega)
 refine ⟨bx, bY, g, cap, c0, c1, hx, ⟨by rw [← hlen]; exact r3, fun n hn' => ?_, fun n => ?_, f1, f4, r1, r2, hg0, r4.2 g rfl⟩, h1, h2⟩
 ·have hnl : n < L.length := by omega
  have ht1 : bytesOf L[n] = textOf p[n] := by
   have := congrArg (fun l => l[n]?) ht
   simpa [hnl, hn'] using this
  refine ⟨L[n], hcell n _ (by simp [strCells, hnl]), by rw [rowOf_nat hn', ht1], ?_⟩
  have hm : textOf p[n] ∈ split10 (bytesOf s) := by
   rw [← (new_rows hn).2]
   exact List.mem_map.2 ⟨_, List.getElem_mem hn', rfl⟩
  have := split10_len _ _ hm
  rw [← ht1, bytesOf_length] at this
  omega
 ·by_cases hn' : n < p.length
  ·rw [rowOf_nat hn']; exact hrows _ (List.getElem_mem hn')
  ·rw [rowOf_past (by omega)]; exact rowOk_nil

theorem ready_idle (S : St) (p : List (List Pl.POp)) : ∀ j, readyTo S p (p.length + j) = readyTo S p p.length
 | 0 => rfl
 | j + 1 => by
  show (if canStep S p ((p.length + j : Nat) : Int) then _ else _) = _
  rw [if_neg (fun h => by have := (can_bound h).2.2; omega)]
  exact ready_idle S p j

theorem ready_all {S : St} {p : List (List Pl.POp)} (h : p.length ≤ 4) : readyTo S p p.length = readyTo S p 4 := by
 have := ready_idle S p (4 - p.length)
 rw [show p.length + (4 - p.length) = 4 by omega] at this
 exact this.symm

/-- What Ready rests on. -/
structure RdAt (S : St) (p : List (List Pl.POp)) (w wr : World) (k : Nat) (ra : Option Addr) (rcap : Nat) : Prop where
 own : wr.ownsRow w.heap.size 3 1 (.slice ra (readyTo S p k).length rcap) (readyTo S p k).length (intCells (readyTo S p k))
 bl : Below w.heap.size w wr

theorem refReady_any {w : World} {b tb bY la tcap lcap : Nat} {p : List (List Pl.POp)} {S : St} (h : RR w b tb bY la tcap lcap p S) (hok : StOk S p) :
  Calls Tryz.prog 39 #[.pointer (some ⟨b, 0, none⟩)] w fun e w' => Below w.heap.size w w' ∧ ∃ ra rcap, e = .returned (.slice ra (readyTo S p 4).length rcap) ∧ w'.ownsRow w.heap.size 3 1 (.slice ra (readyTo S p 4).length rcap) (readyTo S p 4).length (intCells (readyTo S p 4)) := by
 have H : Hid (RR w b tb bY la tcap lcap p S) := h
 have HOK : Hid (StOk S p) := hok
 have HST : Hid (∀ o m, stOp S p m = some o → Pl.isShared o.kind = true) := fun o m hm => by
  obtain ⟨n, rfl, hn, ho⟩ := stOp_some hm
  exact (hok n hn).stands o ho
 have h4 := h.p4
 clear h hok
 obtain ⟨i0, hi0, hz0, hz1, hz2⟩ := info_parts Tryz.info3
 go_enter Tryz.func39, Tryz.ntmps39
 go_wp2_with fail
 go_loopw [3, 4] (fun v3 v4 wr => ∃ (k : Nat) (ra : Option Addr) (rcap : Nat), k ≤ p.length ∧ v4 = .int .i64 (k : Int) ∧ v3 = .slice ra (readyTo S p k).length rcap ∧ Hid (RdAt S p w wr k ra rcap)) (fun _ v4 _ => p.length - (intOf v4).toNat)
 case atStart => exact ⟨0, none, 0, Nat.zero_le _, rfl, rfl, (show Hid _ from ⟨World.ownsRow_nil _ _ _ _, Below.refl _ _⟩)⟩
 case round =>
  obtain ⟨k, ra, rcap, hk, rfl, rfl, HH⟩ := hrel
  have HR : Hid (RR wr b tb bY la tcap lcap p S) := H.out.below HH.out.bl
  have c5 := HR.out.ts
  by_cases hlt : k < p.length
  ·have hlt' : (k : Int) < (p.length : Int) := by omega
   have hkl := readyTo_length S p k
   go_wp2_with fail
   refine (can_any HR.out HOK.out.posOk HST.out k).mono ?_
   rintro e w2 ⟨rfl, hb2⟩
   have HB2 : Hid (Below w.heap.size w w2) := HH.out.bl.trans (hb2.mono HH.out.bl.size)
   have HO2 : Hid (w2.ownsRow w.heap.size 3 1 (.slice ra (readyTo S p k).length rcap) (readyTo S p k).length (intCells (readyTo S p k))) := ((ownsRow_in HH.out.own).below hb2).1
   have hz2' := HB2.out.size
   clear hb2 c5
   cases hc : canStep S p (k : Int)
   ·have HS : Hid (readyTo S p (k + 1) = readyTo S p k) := by show _ = _; rw [readyTo, if_neg (by rw [hc]; simp)]
    clear hc
    go_wp2
    go_roundw
    case rel => exact ⟨k + 1, ra, rcap, by omega, by go_num, by rw [HS.out], (show Hid _ from ⟨by rw [HS.out]; exact HO2.out, HB2.out⟩)⟩
    case measure => simp [intOf]; omega
   ·have HS : Hid (readyTo S p (k + 1) = readyTo S p k ++ [(k : Int)]) := by show _ = _; rw [readyTo, if_pos hc]
    clear hc
    go_wp2_with (first | (refine wpList_append_lies _ rfl _ _ _ rfl w.heap.size 3 i0 _ 1 8 Tryz.underlying31 hi0 hz0 hz1 hz2 rfl (by omega) (.slice ra (readyTo S p k).length rcap) (readyTo S p k).length (intCells (readyTo S p k)) rfl (HO2.out.alloc _) ⟨w2.heap.size, 0, none⟩ 1 1 [Value.int .i64 (k : Int)] rfl rfl (World.news_of_block (cs := #[Value.int .i64 (k : Int)]) (t := 3) (fr := (0, 0)) (heap_alloc_new w2 _)) (by simp [Value.oneCell']) (by omega) (by unfold maxLen; omega) (by omega) (by simp; omega) (w2.heap.size + 1) (by simp) ?_; intro gg cap1 w5 hown hgrow hat hlt5))
    go_roundw
    case rel => exact ⟨k + 1, some ⟨gg, 0, none⟩, cap1, by omega, by go_num, by rw [HS.out]; simp, (show Hid _ from ⟨by rw [HS.out]; simpa [intCells] using hown, HB2.out.trans (Below.grown ((Below.refl w.heap.size w2).alloc (by omega) _) hgrow (by simp; omega) (fun x hx => (HO2.out.lt x hx).1))⟩)⟩
    case measure => simp [intOf]; omega
  ·have e : k = p.length := by omega
   subst e
   have HE : Hid _ := ready_all (S := S) h4
   go_wp2
   go_ret
   rw [← HE.out]
   exact ⟨HH.out.bl, ra, rcap, rfl, HH.out.own⟩

end Go.Proofs.YtfdafcnfefbcbabGreat
