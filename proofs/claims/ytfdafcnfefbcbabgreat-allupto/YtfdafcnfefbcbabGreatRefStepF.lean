/-
 The contract of the reference's Step: an UNLOCK of a lock that is not held.
-/
import Derived.Test.YtfdafcnfefbcbabGreatRfe
namespace Go.Proofs.YtfdafcnfefbcbabGreat
open Go.RowKit
set_option linter.unusedVariables false
set_option maxRecDepth 100000
set_option maxHeartbeats 4000000

theorem refStep_f {w : World} {b tb bY la tcap lcap : Nat} {p : List (List Pl.POp)} {S S' : St} {ev : Ev} (h : RR w b tb bY la tcap lcap p S) (hok : StOk S p) (hlo : ∀ n : Nat, n < 4 → (S.th n).h0 ≤ 1000 ∧ (S.th n).h1 ≤ 1000) (n : Nat) (hst : step S p (n : Int) = some (S', ev)) (o : Pl.POp) (hop : stOp S p (n : Int) = some o) (hkk : o.kind = 117) (hhd : (S.th n).held (lockOf o.name) = 0) :
  Calls Tryz.prog 36 #[.pointer (some ⟨b, 0, none⟩), .int .i64 (n : Int)] w
   fun e w' => e = .returned ev.val ∧ Kept b tb w w' ∧ RR w' b tb bY la tcap lcap p S' := by
 have H : Hid (RR w b tb bY la tcap lcap p S) := h
 have HKK : Hid (o.kind = 117) := hkk
 have HHD : Hid ((S.th n).held (lockOf o.name) = 0) := hhd
 clear hhd
 clear hkk
 obtain ⟨hcan, hev, hS'⟩ : canStep S p (n : Int) = true ∧ ev = ⟨n, o.kind, o.name, (shared S n o).2, o.block, 0⟩ ∧ S' = goneTo p n (shared S n o).1 := by
  unfold step at hst
  rw [hop] at hst
  simp only at hst
  split at hst
  ·rename_i hc
   simp only [Option.some.injEq, Prod.mk.injEq] at hst
   exact ⟨hc, hst.2.symm, hst.1.symm⟩
  ·cases hst
 obtain ⟨n', hnn, hn4, hopa⟩ := stOp_some hop
 obtain rfl : n = n' := by omega
 have hnp : n < p.length := by have := (can_bound hcan).2.2; omega
 have hnf : (S.th n).failed = false := by
  unfold opAt at hopa
  split at hopa
  ·cases hopa
  ·rename_i h; simpa using h
 have hro : (rowOf p (n : Int))[(S.th n).pos]? = some o := by unfold opAt at hopa; rw [hnf] at hopa; exact hopa
 have hsh : Pl.isShared o.kind = true := (hok n hn4).stands o hopa
 obtain ⟨s, l0, hs1, hsz⟩ := h.ls n hnp
 have hlen : (textOf (rowOf p (n : Int))).length = s.size := by rw [← hs1]; exact bytesOf_length s
 have hA : atOf (rowOf p (n : Int)) (S.th n) = (offs (rowOf p (n : Int)) (S.th n).pos : Int) := by unfold atOf; rw [hnf]; rfl
 have hosz : opSize o.kind = 2 := by unfold opSize; rw [shared_takes hsh]; rfl
 have hlt := offs_lt hro
 obtain ⟨hz0, hk0⟩ := byte_at (s := s) (i := offs (rowOf p (n : Int)) (S.th n).pos) (c := o.kind) (by rw [hs1]; exact text_kind hro)
 obtain ⟨hz1, hk1⟩ := byte_at (s := s) (i := offs (rowOf p (n : Int)) (S.th n).pos + 1) (c := o.name) (by rw [hs1]; exact text_name hro (shared_takes hsh))
 have HBLK : Hid (blkNo (blkTo ((bytesOf s).take (offs (rowOf p (n : Int)) (S.th n).pos))) = o.block) := by
  show _ = _
  rw [(h.rows n).blk _ o hro hsh, hs1]
  congr 2
  rw [text_split hro]
  exact List.take_left' rfl
 have HNXT : Hid (offs (rowOf p (n : Int)) ((S.th n).pos + 1) = offs (rowOf p (n : Int)) (S.th n).pos + 2) := by show _ = _; rw [offs_succ hro, hosz]
 have HOO : Hid (OpOk o) := (h.rows n).ops o (List.mem_of_getElem? hro)
 have HSH : Hid (Pl.isShared o.kind = true) := hsh
 have HPOS : Hid ((S.th n).pos < (rowOf p (n : Int)).length) := (List.getElem?_eq_some_iff.1 hro).1
 have hn' : (n : Int) < (p.length : Int) := by omega
 have hn0 : (0 : Int) ≤ (n : Int) := by omega
 have hAs : (offs (rowOf p (n : Int)) (S.th n).pos : Int) + 1 < (s.size : Int) := by omega
 have c0 := h.pp
 have c5 := h.ts
 have y0 := h.y0
 have a1 := (h.th n hnp).a
 rw [hA] at a1
 have HTH : Hid _ := h.th n hnp
 have ltx := h.lt
 have HNF : Hid _ := hnf
 have HLO : Hid _ := hlo
 clear hlo
 clear h hst hop hcan hopa hro hsh hs1 hlen hosz hlt hnf
 have HA : Hid _ := hA
 clear hA
 go_enter Tryz.func36, Tryz.ntmps36
 go_upto_region 3 with fail
 have H0 : Hid (RR (w.alloc evObj) b tb bY la tcap lcap p S) := H.out.new _
 have HE0 : Hid (EvAt (w.alloc evObj) w.heap.size 0 0 0 0 0 0) := ⟨by simp, by simp, by simp, by simp, by simp, by simp, fun j => World.frozen?_alloc_at _ _ _ _ rfl⟩
 have HK0 : Hid (Below w.heap.size w (w.alloc evObj)) := (Below.refl _ _).alloc (Nat.le_refl _) _
 have HZ0 : Hid ((w.alloc evObj).heap.size = w.heap.size + 1) := by show _ = _; simp
 have a2 := alloc_cell a1 evObj
 generalize (w.alloc evObj) = W at *
 clear c0 c5 y0 l0 a1
 generalize hAA : offs (rowOf p (n : Int)) (S.th n).pos = A at *
 have hA0 : (0 : Int) ≤ (A : Int) := by omega
 have hA10 : (0 : Int) ≤ (A : Int) + 1 := by omega
 have hAl : (A : Int) < (s.size : Int) := by omega
 have hA1k : (A : Int) ≤ 1000 := by omega
 go_cut [7] from 8 (fun v7 wr => v7 = .pointer (some ⟨w.heap.size + 1, 0, none⟩) ∧ Hid (Below W.heap.size W wr ∧ EvAt wr (w.heap.size + 1) n o.kind o.name 0 o.block 0 ∧ w.heap.size + 1 < wr.heap.size))
 case first =>
  refine wp_region_held_drew (S := fun w' => w'.cell? ⟨tb, n * 2, none⟩ = some (.int .i64 (A : Int))) (by kernel_rfl) (by exact a2) (fun hHeld => ?_)
  refine takeR 0 (.int .i64 (n : Int)) rfl hHeld ?_
  refine takeR 1 (.string s) rfl hHeld ?_
  refine takeR 2 (.pointer (some ⟨tb, n * 2, none⟩)) rfl hHeld ?_
  refine takeS 3 (.pointer (some ⟨tb, n * 2, none⟩)) rfl hHeld ?_
  refine takeS 4 (.pointer (some ⟨tb, n * 2, none⟩)) rfl hHeld ?_
  refine takeAt 5 (.int .i64 (A : Int)) rfl (.inl ⟨by rfl, fun w hw => by have hwa := hw; clear a2 hHeld; go_simp⟩) hHeld ?_
  refine takeAt 6 (.int .u8 (o.kind : Int)) rfl (.inl ⟨by rfl, fun w hw => by rw [← hk0]; go_simp⟩) hHeld ?_
  refine takeR 7 (.string s) rfl hHeld ?_
  refine takeR 8 (.pointer (some ⟨tb, n * 2, none⟩)) rfl hHeld ?_
  refine takeS 9 (.pointer (some ⟨tb, n * 2, none⟩)) rfl hHeld ?_
  refine takeS 10 (.pointer (some ⟨tb, n * 2, none⟩)) rfl hHeld ?_
  refine takeAt 11 (.int .i64 (A : Int)) rfl (.inl ⟨by rfl, fun w hw => by have hwa := hw; clear a2 hHeld; go_simp⟩) hHeld ?_
  refine takeAt 12 (.int .i64 ((A : Int) + 1)) rfl (.inl ⟨by rfl, fun w hw => by go_simp <;> (rw [IntKind.wrap_i64]; omega)⟩) hHeld ?_
  refine takeAt 13 (.int .u8 (o.name : Int)) rfl (.inl ⟨by rfl, fun w hw => by rw [← hk1]; go_simp⟩) hHeld ?_
  refine takeR 14 (.string s) rfl hHeld ?_
  refine takeR 15 (.pointer (some ⟨tb, n * 2, none⟩)) rfl hHeld ?_
  refine takeS 16 (.pointer (some ⟨tb, n * 2, none⟩)) rfl hHeld ?_
  refine takeS 17 (.pointer (some ⟨tb, n * 2, none⟩)) rfl hHeld ?_
  refine takeAt 18 (.int .i64 (A : Int)) rfl (.inl ⟨by rfl, fun w hw => by have hwa := hw; clear a2 hHeld; go_simp⟩) hHeld ?_
  have hS2 : (W.drew.alloc evObj).cell? ⟨tb, n * 2, none⟩ = some (.int .i64 (A : Int)) := alloc_cell hHeld _
  have HTHR : Hid ((W.drew.alloc evObj).there W.heap.size 0 (evN n o).size) := fun j hj => by
   have : j = 0 ∨ j = 1 ∨ j = 2 ∨ j = 3 ∨ j = 4 ∨ j = 5 := by simp at hj; omega
   refine ⟨?_, World.frozen?_alloc_at _ _ _ _ rfl⟩
   rcases this with rfl | rfl | rfl | rfl | rfl | rfl <;> (show (World.cell? _ ⟨W.heap.size, _, none⟩).isSome = true; simp [go_sem])
  have hS3 : ((W.drew.alloc evObj).setCells W.heap.size 0 (evN n o).toList).cell? ⟨tb, n * 2, none⟩ = some (.int .i64 (A : Int)) := (cell_out (by have := ltx.2.1; have := HZ0.out; omega) _ _ _).trans hS2
  have HEND : Hid (Below W.heap.size W ((W.drew.alloc evObj).setCells W.heap.size 0 (evN n o).toList) ∧ EvAt ((W.drew.alloc evObj).setCells W.heap.size 0 (evN n o).toList) (w.heap.size + 1) n o.kind o.name 0 o.block 0 ∧ w.heap.size + 1 < ((W.drew.alloc evObj).setCells W.heap.size 0 (evN n o).toList).heap.size) := by
   have hr := World.rangeAt_setCells_same (W.drew.alloc evObj) W.heap.size 0 (evN n o).toList HTHR.out
   rw [← HZ0.out]
   refine ⟨below_setCells W.heap.size (Nat.le_refl _) _ 0 _ ((Below.refl _ _).drew.alloc (Nat.le_refl _) _), ⟨hr 0 _ rfl, hr 1 _ rfl, hr 2 _ rfl, hr 3 _ rfl, hr 4 _ rfl, hr 5 _ rfl, fun j => ?_⟩, by rw [size_setCells]; simp⟩
   rw [World.frozen?_setCells]; exact World.frozen?_alloc_at _ _ _ _ rfl
  refine wpAnyH_callYield 19 21 _ _ (by kernel_rfl) rfl rfl (by rfl) (by rfl) 59 #[.string s, .int .i64 (A : Int)] (by go_simp) _ (block_any s A _ (by omega) hsz) (.pointer (some ⟨W.heap.size, 0, none⟩)) (w1 := (W.drew.alloc evObj)) (by go_simp) hS2 ?_ ?_
  ·rintro e w6 ⟨rfl, rfl⟩
   rw [HBLK.out]
   refine ⟨_, rfl, hHeld, ?_⟩
   simp only [List.getElem_toArray, List.getElem_cons_zero, List.getElem_cons_succ, Act.put, List.setIfInBounds_toArray, List.set_cons_zero, List.set_cons_succ]
   refine takeS 20 (.agg (evN n o)) rfl hHeld ?_
   refine wpAnyH_yield 21 _ (by kernel_rfl) rfl (by rfl) (.pointer (some ⟨W.heap.size, 0, none⟩)) (w1 := (W.drew.alloc evObj)) (by go_simp) hS2 ?_
   simp only [List.getElem_toArray, List.getElem_cons_zero, List.getElem_cons_succ, Act.put, List.setIfInBounds_toArray, List.set_cons_zero, List.set_cons_succ]
   refine wpAnyH_store 22 _ (by kernel_rfl) rfl rfl rfl 59 _ _ rfl W.heap.size (evN n o) rfl rfl HTHR.out Tryz.size59 (by simp [Value.oneCell']) hS3 ?_
   refine wpAnyH_done (by kernel_rfl) ?_ _
   go_wp2_with fail
   go_meet
   exact ⟨by rw [HZ0.out], (show Hid _ from HEND.out)⟩
  ·simp only [List.getElem_toArray, List.getElem_cons_zero, List.getElem_cons_succ, Act.put, List.setIfInBounds_toArray, List.set_cons_zero, List.set_cons_succ]
   refine wpAnyH_callw 19 _ (by kernel_rfl) rfl (by rfl) 59 #[.string s, .int .i64 (A : Int)] (by go_simp) _ (block_any s A _ (by omega) hsz) ?_
   rintro e w6 ⟨rfl, rfl⟩
   rw [HBLK.out]
   refine ⟨_, rfl, hS2, ?_⟩
   simp only [List.getElem_toArray, List.getElem_cons_zero, List.getElem_cons_succ, Act.put, List.setIfInBounds_toArray, List.set_cons_zero, List.set_cons_succ]
   refine takeS 20 (.agg (evN n o)) rfl hS2 ?_
   refine wpAnyH_store 22 _ (by kernel_rfl) rfl rfl rfl 59 _ _ rfl W.heap.size (evN n o) rfl rfl HTHR.out Tryz.size59 (by simp [Value.oneCell']) hS3 ?_
   refine wpAnyH_done (by kernel_rfl) ?_ _
   go_wp2_with fail
   go_meet
   exact ⟨by rw [HZ0.out], (show Hid _ from HEND.out)⟩
 case rest =>
  obtain ⟨rfl, HC⟩ := hcut
  generalize wc = V at *
  have HV : Hid (RR V b tb bY la tcap lcap p S) := H0.out.below HC.out.1
  have HEV : Hid (EvAt V (w.heap.size + 1) n o.kind o.name 0 o.block 0) := HC.out.2.1
  have HKV : Hid (Below w.heap.size w V) := HK0.out.trans (HC.out.1.mono HK0.out.size)
  have HER : Hid (EvAt V w.heap.size 0 0 0 0 0 0) := by
   have hw : w.heap.size < W.heap.size := by have := HZ0.out; omega
   have hb := HC.out.1
   have h0 := HE0.out
   exact ⟨(hb.cell (p := ⟨w.heap.size, 0, none⟩) hw).trans h0.c0, (hb.cell (p := ⟨w.heap.size, 1, none⟩) hw).trans h0.c1, (hb.cell (p := ⟨w.heap.size, 2, none⟩) hw).trans h0.c2, (hb.cell (p := ⟨w.heap.size, 3, none⟩) hw).trans h0.c3, (hb.cell (p := ⟨w.heap.size, 4, none⟩) hw).trans h0.c4, (hb.cell (p := ⟨w.heap.size, 5, none⟩) hw).trans h0.c5, fun j => (hb.frozen (p := ⟨w.heap.size, j, none⟩) hw).trans (h0.f j)⟩
  have HTV : Hid (ThAt V tb n (A : Int) (S.th n).reg) := by
   have := HV.out.th n hnp
   rw [HA.out] at this
   exact this
  have hne1 : w.heap.size ≠ b ∧ w.heap.size ≠ tb ∧ w.heap.size ≠ bY ∧ w.heap.size ≠ la := by omega
  have hne2 : w.heap.size + 1 ≠ b ∧ w.heap.size + 1 ≠ tb ∧ w.heap.size + 1 ≠ bY ∧ w.heap.size + 1 ≠ la := by omega
  have HX : Hid (RR (V.setCell ⟨tb, n * 2, none⟩ (.int .i64 ((A : Int) + 2))) b tb bY la tcap lcap p (S.setTh n ⟨(S.th n).pos + 1, false, (S.th n).reg, (S.th n).h0, (S.th n).h1⟩)) := by
   refine HV.out.move hnp ((OnlyTh.refl _ _ _).put _ (Or.inl rfl) _) _ ?_ (HV.out.sm.reg n) (fun l _ => rfl)
   have := HTV.out.putA ((A : Int) + 2)
   unfold atOf
   simp only [Bool.false_eq_true, if_false]
   rw [HNXT.out]
   simpa using this
  have HEX : Hid (EvAt (V.setCell ⟨tb, n * 2, none⟩ (.int .i64 ((A : Int) + 2))) (w.heap.size + 1) n o.kind o.name 0 o.block 0) := HEV.out.far (by omega) _ _
  have HRX : Hid (EvAt (V.setCell ⟨tb, n * 2, none⟩ (.int .i64 ((A : Int) + 2))) w.heap.size 0 0 0 0 0 0) := HER.out.far (by omega) _ _
  have HKX : Hid (Kept b tb w (V.setCell ⟨tb, n * 2, none⟩ (.int .i64 ((A : Int) + 2)))) := (Below.kept HKV.out).trans (Off.kept ((Off.refl _ _).setCell _ _))
  obtain ⟨a4, g4, f4⟩ := HTV.out
  go_upto_region 5 with fail
  generalize V.setCell ⟨tb, n * 2, none⟩ (.int .i64 ((A : Int) + 2)) = X at *
  clear a2 a4 g4 f4 HTV HV HEV HER HKV HC H0 HE0 HK0 hk0 hk1 hAs hA0 hA10 hAl hA1k
  have e1 := HEX.out.c1
  clear e1
  -- the state ahead of the going on
  have HS2 : Hid (∀ Z vv (u : Th) (T : St), T = (shared S n o).1 → u = ⟨(T.th n).pos + 1, (T.th n).failed, (T.th n).reg, (T.th n).h0, (T.th n).h1⟩ → RR Z b tb bY la tcap lcap p (T.setTh n u) → EvAt Z (w.heap.size + 1) n o.kind o.name vv o.block 0 → EvAt Z w.heap.size 0 0 0 0 0 0 → Kept b tb w Z → vv = (shared S n o).2 → RR Z b tb bY la tcap lcap p (T.setTh n u) ∧ ((T.setTh n u).th n).pos ≤ (rowOf p (n : Int)).length ∧ (T.setTh n u).setTh n (settle (rowOf p (n : Int)) ((rowOf p (n : Int)).length + 1) ((T.setTh n u).th n)) = S' ∧ ev = ⟨n, o.kind, o.name, vv, o.block, 0⟩) := fun Z vv u T hT hu h1 h2 h3 h4 h5 => by
   have hth : (T.setTh n u).th n = u := by rw [th_setTh T n u hn4 n hn4, if_pos rfl]
   refine ⟨h1, ?_, ?_, by rw [hev, h5]⟩
   ·rw [hth, hu, hT]
    simp only
    rw [(shared_th S n o hn4).1]
    have := HPOS.out
    omega
   ·rw [hth, setTh_twice _ _ hn4, hS', hT, hu, hT]
    rfl
  have hkk : o.kind = 117 := HKK.out
  obtain ⟨l, hl2, hln, hlo⟩ := lock_name HOO.out (Or.inr hkk)
  have : l = 0 ∨ l = 1 := by omega
  rcases this with rfl | rfl
  ·have hpz : (S.th n).held 0 = 0 := by have := HHD.out; rw [hlo] at this; exact this
   have HSHD : Hid (shared S n o = ((S.setTh n ⟨(S.th n).pos, true, (S.th n).reg, (S.th n).h0, (S.th n).h1⟩), -1)) := by show _ = _; unfold shared; rw [if_neg (by omega), if_neg (by omega), if_neg (by omega), hlo, if_neg (by omega)]
   obtain ⟨e0, e1, e2, e3, e4, e5, ef⟩ := HEX.out
   rw [hkk] at e1
   rw [hln] at e2
   have hh := HX.out.hd n 0 hn4 (by omega)
   rw [th_setTh S n _ hn4 n hn4, if_pos rfl] at hh
   have hh2 : X.cell? ⟨b, 6 + n * 2, none⟩ = some (.int .i64 ((S.th n).held 0 : Int)) := hh
   have hfb : X.frozen? ⟨b, 6 + n * 2, none⟩ = false := HX.out.fb _
   have hhl : (S.th n).held 0 ≤ 1000 := by have := HLO.out n hn4; unfold Th.held; split <;> omega
   have hhl' : ((S.th n).held 0 : Int) ≤ 1000 := by omega
   have hhl0 : (0 : Int) ≤ ((S.th n).held 0 : Int) := by omega
   clear hh
   rw [hpz] at hh2
   have hh3 : X.cell? ⟨b, 6 + n * 2, none⟩ = some (.int .i64 0) := hh2
   clear hh2 hhl hhl' hhl0
   go_upto_region 16 with fail
   go_cut [7] from 8 (fun v7 wz => v7 = .pointer (some ⟨w.heap.size + 1, 0, none⟩) ∧ wz = (X.setCell ⟨b, 6 + n * 2, none⟩ (.int .i64 (-1))).drew)
   case first =>
    go_region_with (fail)
    all_goals go_wp2_with fail
    all_goals go_meet
    all_goals exact ⟨rfl, rfl⟩
   case rest =>
    obtain ⟨rfl, rfl⟩ := hcut
    have HEY : Hid (EvAt (X.setCell ⟨b, 6 + n * 2, none⟩ (.int .i64 (-1))).drew (w.heap.size + 1) n o.kind o.name 0 o.block 0) := (HEX.out.far (by omega) _ _).drew
    have k2 : (X.setCell ⟨b, 6 + n * 2, none⟩ (.int .i64 (-1))).drew.cell? ⟨b, 6 + n * 2, none⟩ = some (.int .i64 (-1)) := World.cell?_setCell_same X _ _ hh3
    have HXY : Hid (∀ k j, (⟨k, j, none⟩ : Addr) ≠ ⟨b, 6 + n * 2, none⟩ → (X.setCell ⟨b, 6 + n * 2, none⟩ (.int .i64 (-1))).drew.cell? ⟨k, j, none⟩ = X.cell? ⟨k, j, none⟩) := fun k j hne => World.cell?_setCell_other X _ _ _ (Ne.symm hne)
    have HFY : Hid (∀ k j, (X.setCell ⟨b, 6 + n * 2, none⟩ (.int .i64 (-1))).drew.frozen? ⟨k, j, none⟩ = X.frozen? ⟨k, j, none⟩) := fun k j => World.frozen?_setCell X _ _ _
    have HKY : Hid (Kept b tb w (X.setCell ⟨b, 6 + n * 2, none⟩ (.int .i64 (-1))).drew) := HKX.out.trans ((Off.kept' ((Off.refl _ _).setCell _ _)).belowTrans (Below.refl _ _).drew)
    have HQY : Hid (EvAt (X.setCell ⟨b, 6 + n * 2, none⟩ (.int .i64 (-1))).drew w.heap.size 0 0 0 0 0 0) := (HRX.out.far (by omega) _ _).drew
    clear e0 e1 e2 e3 e4 e5 ef hfb
    generalize (X.setCell ⟨b, 6 + n * 2, none⟩ (.int .i64 (-1))).drew = Y at *
    obtain ⟨e0, e1, e2, e3, e4, e5, ef⟩ := HEY.out
    rw [hln] at e2
    go_upto_region 17 with fail
    have hS0 : Y.drew.cell? ⟨w.heap.size + 1, 2, none⟩ = some (.int .u8 80) ∧ Y.drew.cell? ⟨b, 6 + n * 2, none⟩ = some (.int .i64 (-1)) := ⟨e2, k2⟩
    have hS1 : (Y.setCell ⟨w.heap.size + 1, 3, none⟩ (.int .i16 (-1))).drew.cell? ⟨w.heap.size + 1, 2, none⟩ = some (.int .u8 80) ∧ (Y.setCell ⟨w.heap.size + 1, 3, none⟩ (.int .i16 (-1))).drew.cell? ⟨b, 6 + n * 2, none⟩ = some (.int .i64 (-1)) := ⟨(World.cell?_setCell_other _ _ _ _ (by simp)).trans e2, (World.cell?_setCell_far _ _ _ _ (by show w.heap.size + 1 ≠ b; omega)).trans k2⟩
    have k3 : Y.drew.cell? ⟨w.heap.size + 1, 3, none⟩ = some (.int .i16 0) := e3
    have f3 : Y.drew.frozen? ⟨w.heap.size + 1, 3, none⟩ = false := ef 3
    have HEZ : Hid (EvAt (Y.setCell ⟨w.heap.size + 1, 3, none⟩ (.int .i16 (-1))).drew (w.heap.size + 1) n o.kind o.name (-1) o.block 0) := (HEY.out.putV _).drew
    have HQZ : Hid (EvAt (Y.setCell ⟨w.heap.size + 1, 3, none⟩ (.int .i16 (-1))).drew w.heap.size 0 0 0 0 0 0) := (HQY.out.far (by omega) _ _).drew
    have HKZ : Hid (Kept b tb w (Y.setCell ⟨w.heap.size + 1, 3, none⟩ (.int .i16 (-1))).drew) := HKY.out.belowTrans (((Below.refl _ _).setCell (by simp) _).drew)
    have HXZ : Hid (∀ k j, k ≠ w.heap.size + 1 → (⟨k, j, none⟩ : Addr) ≠ ⟨b, 6 + n * 2, none⟩ → (Y.setCell ⟨w.heap.size + 1, 3, none⟩ (.int .i16 (-1))).drew.cell? ⟨k, j, none⟩ = X.cell? ⟨k, j, none⟩) := fun k j h1 h2 => (World.cell?_setCell_far Y _ _ _ (Ne.symm h1)).trans (HXY.out k j h2)
    have HFZ : Hid (∀ k j, (Y.setCell ⟨w.heap.size + 1, 3, none⟩ (.int .i16 (-1))).drew.frozen? ⟨k, j, none⟩ = X.frozen? ⟨k, j, none⟩) := fun k j => (World.frozen?_setCell Y _ _ _).trans (HFY.out k j)
    clear e0 e1 e2 e3 e4 e5 ef k2
    refine wp_region_held_drew (S := fun w' => w'.cell? ⟨w.heap.size + 1, 2, none⟩ = some (.int .u8 80) ∧ w'.cell? ⟨b, 6 + n * 2, none⟩ = some (.int .i64 (-1))) (by kernel_rfl) hS0 (fun hHeld => ?_)
    refine takeR 0 (.pointer (some ⟨b, 0, none⟩)) rfl hHeld ?_
    refine takeR 1 (.int .i64 (n : Int)) rfl hHeld ?_
    refine takeS 2 (.pointer (some ⟨w.heap.size + 1, 2, none⟩)) rfl hHeld ?_
    refine takeAt 3 (.int .u8 80) rfl (.inl ⟨by rfl, fun w hw => by have hwa := hw.1; clear hHeld hS0 hS1; go_simp⟩) hHeld ?_
    refine takeAt 4 (.int .u8 0) rfl (.inl ⟨by rfl, fun w hw => by go_simp <;> rfl⟩) hHeld ?_
    refine takeS 5 (.pointer (some ⟨b, 0, none⟩)) rfl hHeld ?_
    refine takeS 6 (.pointer (some ⟨b, 6, none⟩)) rfl hHeld ?_
    refine takeAt 7 (.pointer (some ⟨b, 6 + n * 2, none⟩)) rfl (.inl ⟨by rfl, fun w hw => by go_simp <;> (intro h; omega)⟩) hHeld ?_
    refine takeS 8 (.pointer (some ⟨b, 6 + n * 2, none⟩)) rfl hHeld ?_
    refine takeAt 9 (.int .i64 (-1)) rfl (.inl ⟨by rfl, fun w hw => by have hwa := hw.2; clear hHeld hS0 hS1; go_simp⟩) hHeld ?_
    refine takeAt 10 (.int .i16 (-1)) rfl (.inl ⟨by rfl, fun w hw => by go_simp <;> rfl⟩) hHeld ?_
    refine takeS 11 (.pointer (some ⟨w.heap.size + 1, 3, none⟩)) rfl hHeld ?_
    refine wpAnyH_skip (w1 := (Y.setCell ⟨w.heap.size + 1, 3, none⟩ (.int .i16 (-1))).drew) 12 _ (by kernel_rfl) rfl (by rfl) rfl (by clear hHeld hS0 hS1; go_simp) hS1 ?_
    refine wpAnyH_done (by kernel_rfl) ?_ _
    have k2 := hS1.2
    clear hHeld hS0 hS1 k3 f3
    generalize (Y.setCell ⟨w.heap.size + 1, 3, none⟩ (.int .i16 (-1))).drew = Q at *
    obtain ⟨e0, e1, e2, e3, e4, e5, ef⟩ := HEZ.out
    rw [hln] at e2
    have hfb : Q.frozen? ⟨b, 6 + n * 2, none⟩ = false := (HFZ.out _ _).trans (HX.out.fb _)
    have x0 := (HXZ.out tb (n * 2) (by omega) (fun e => HX.out.n1 (congrArg Addr.block e).symm)).trans (HX.out.th n hnp).a
    have xf : Q.frozen? ⟨tb, n * 2, none⟩ = false := (HFZ.out _ _).trans ((HX.out.th n hnp).f _)
    go_upto_region 19 with fail
    go_cut [7] from 8 (fun v7 wz => v7 = .pointer (some ⟨w.heap.size + 1, 0, none⟩) ∧ wz = (Q.setCell ⟨b, 6 + n * 2, none⟩ (.int .i64 0)).drew)
    case first =>
     go_region_with (fail)
     all_goals go_wp2_with fail
     all_goals go_meet
     all_goals exact ⟨rfl, rfl⟩
    case rest =>
     obtain ⟨rfl, rfl⟩ := hcut
     have HG : Hid (RR (Q.setCell ⟨b, 6 + n * 2, none⟩ (.int .i64 0)).drew b tb bY la tcap lcap p (S.setTh n ⟨(S.th n).pos + 1, false, (S.th n).reg, (S.th n).h0, (S.th n).h1⟩)) := by
      refine HX.out.ofCells (fun k j hk => ?_) (fun k j _ => (World.frozen?_setCell Q _ _ _).trans (HFZ.out k j))
      by_cases he : (⟨k, j, none⟩ : Addr) = ⟨b, 6 + n * 2, none⟩
      ·rw [he]
       exact (World.cell?_setCell_same Q _ _ k2).trans hh3.symm
      ·exact (World.cell?_setCell_other Q _ _ _ (Ne.symm he)).trans (HXZ.out k j (by omega) he)
     have HEG : Hid (EvAt (Q.setCell ⟨b, 6 + n * 2, none⟩ (.int .i64 0)).drew (w.heap.size + 1) n o.kind o.name (-1) o.block 0) := (HEZ.out.far (by omega) _ _).drew
     have HQG : Hid (EvAt (Q.setCell ⟨b, 6 + n * 2, none⟩ (.int .i64 0)).drew w.heap.size 0 0 0 0 0 0) := (HQZ.out.far (by omega) _ _).drew
     have HKG : Hid (Kept b tb w (Q.setCell ⟨b, 6 + n * 2, none⟩ (.int .i64 0)).drew) := HKZ.out.trans ((Off.kept' ((Off.refl _ _).setCell _ _)).belowTrans (Below.refl _ _).drew)
     clear e0 e1 e2 e3 e4 e5 ef k2 hfb x0 xf HEZ HQZ HKZ HXZ HFZ
     generalize (Q.setCell ⟨b, 6 + n * 2, none⟩ (.int .i64 0)).drew = G at *
     obtain ⟨x0, x1, xf⟩ := HG.out.th n hnp
     have HEZ : Hid (EvAt (G.setCell ⟨tb, n * 2, none⟩ (.int .i64 (-1))) (w.heap.size + 1) n o.kind o.name (-1) o.block 0) := HEG.out.far (by omega) _ _
     have HQZ : Hid (EvAt (G.setCell ⟨tb, n * 2, none⟩ (.int .i64 (-1))) w.heap.size 0 0 0 0 0 0) := HQG.out.far (by omega) _ _
     have HKZ : Hid (Kept b tb w (G.setCell ⟨tb, n * 2, none⟩ (.int .i64 (-1)))) := HKG.out.trans (Off.kept ((Off.refl _ _).setCell _ _))
     have HRZ : Hid (RR (G.setCell ⟨tb, n * 2, none⟩ (.int .i64 (-1))) b tb bY la tcap lcap p ((S.setTh n ⟨(S.th n).pos, true, (S.th n).reg, (S.th n).h0, (S.th n).h1⟩).setTh n ⟨(S.th n).pos + 1, true, (S.th n).reg, (S.th n).h0, (S.th n).h1⟩)) := by
      have h1 := HG.out.move hnp ((OnlyTh.refl _ _ G).put _ (Or.inl rfl) (.int .i64 (-1))) ⟨(S.th n).pos + 1, true, (S.th n).reg, (S.th n).h0, (S.th n).h1⟩ ((HG.out.th n hnp).putA (-1) |> fun h => by rw [th_setTh S n _ hn4 n hn4, if_pos rfl] at h; exact h) (by have := HG.out.sm.reg n; rw [th_setTh S n _ hn4 n hn4, if_pos rfl] at this; exact this) (fun l _ => by rw [th_setTh S n _ hn4 n hn4, if_pos rfl]; rfl)
      show RR _ _ _ _ _ _ _ _ _
      rw [setTh_twice _ _ hn4] at h1 ⊢
      exact h1
     have HTT : Hid ((S.setTh n ⟨(S.th n).pos, true, (S.th n).reg, (S.th n).h0, (S.th n).h1⟩) = (shared S n o).1) := by show _ = _; rw [HSHD.out]
     have HVV : Hid ((-1 : Int) = (shared S n o).2) := by show _ = _; rw [HSHD.out]
     have HUU : Hid ((⟨(S.th n).pos + 1, true, (S.th n).reg, (S.th n).h0, (S.th n).h1⟩ : Th) = ⟨(((S.setTh n ⟨(S.th n).pos, true, (S.th n).reg, (S.th n).h0, (S.th n).h1⟩)).th n).pos + 1, (((S.setTh n ⟨(S.th n).pos, true, (S.th n).reg, (S.th n).h0, (S.th n).h1⟩)).th n).failed, (((S.setTh n ⟨(S.th n).pos, true, (S.th n).reg, (S.th n).h0, (S.th n).h1⟩)).th n).reg, (((S.setTh n ⟨(S.th n).pos, true, (S.th n).reg, (S.th n).h0, (S.th n).h1⟩)).th n).h0, (((S.setTh n ⟨(S.th n).pos, true, (S.th n).reg, (S.th n).h0, (S.th n).h1⟩)).th n).h1⟩) := by
      show _ = _
      rw [th_setTh S n _ hn4 n hn4, if_pos rfl]
     go_upto_region 21 with fail
     generalize G.setCell ⟨tb, n * 2, none⟩ (.int .i64 (-1)) = Z at *
     clear x0 x1 xf
     obtain ⟨hr5, hp5, hs5, hev5⟩ := HS2.out Z (-1) ⟨(S.th n).pos + 1, true, (S.th n).reg, (S.th n).h0, (S.th n).h1⟩ (S.setTh n ⟨(S.th n).pos, true, (S.th n).reg, (S.th n).h0, (S.th n).h1⟩) HTT.out HUU.out HRZ.out HEZ.out HQZ.out HKZ.out HVV.out
     have HS5 : Hid _ := hs5
     have HEV5 : Hid _ := hev5
     clear hs5 hev5
     go_wp2_with fail
     refine (on_any hr5 n hnp hp5).mono ?_
     rintro e w8 ⟨rfl, hk8, hz8, h8⟩
     rw [HS5.out] at h8
     have HR8 : Hid (RR w8 b tb bY la tcap lcap p S') := h8
     have hE8 := HEZ.out.kept hk8 (by omega) (by omega)
     have hQ8 := HQZ.out.kept hk8 (by omega) (by omega)
     have HK8 : Hid (Kept b tb w w8) := HKZ.out.trans hk8
     have hrg := hE8.range
     have hth := hQ8.there
     clear hr5 hp5 h8 hk8 hz8 HS2
     go_wp2_with (first | refine wpList_load_mid rfl 59 _ rfl (w.heap.size + 1) 0 rfl _ _ hrg Tryz.underlying59 rfl Tryz.size59 ?_ | refine wpList_store_mid rfl 59 _ _ rfl w.heap.size 0 #[Value.int .i64 (n : Int), .int .u8 (o.kind : Int), .int .u8 (o.name : Int), .int .i16 (-1), .int .i64 o.block, .int .i64 0] rfl rfl hth Tryz.size59 (by simp [Value.oneCell']) ?_)
     refine bodyPost_ret (v := .agg #[Value.int .i64 (n : Int), .int .u8 (o.kind : Int), .int .u8 (o.name : Int), .int .i16 (-1), .int .i64 o.block, .int .i64 0]) (ret_one Tryz.results36 _ _ w.heap.size _ _ rfl (World.rangeAt_setCells_same _ _ _ _ hth) Tryz.underlying59 rfl Tryz.size59) rfl ⟨by rw [HEV5.out]; rfl, HK8.out.belowTrans (below_setCells w.heap.size (Nat.le_refl _) _ 0 _ (Below.refl _ _)), ?_⟩
     exact HR8.out.ofCells (fun k j hk => cell_out (by omega) _ _ _) (fun k j hk => World.frozen?_setCells _ _ _ _ _)
  ·have hpz : (S.th n).held 1 = 0 := by have := HHD.out; rw [hlo] at this; exact this
   have HSHD : Hid (shared S n o = ((S.setTh n ⟨(S.th n).pos, true, (S.th n).reg, (S.th n).h0, (S.th n).h1⟩), -1)) := by show _ = _; unfold shared; rw [if_neg (by omega), if_neg (by omega), if_neg (by omega), hlo, if_neg (by omega)]
   obtain ⟨e0, e1, e2, e3, e4, e5, ef⟩ := HEX.out
   rw [hkk] at e1
   rw [hln] at e2
   have hh := HX.out.hd n 1 hn4 (by omega)
   rw [th_setTh S n _ hn4 n hn4, if_pos rfl] at hh
   have hh2 : X.cell? ⟨b, 6 + n * 2 + 1, none⟩ = some (.int .i64 ((S.th n).held 1 : Int)) := hh
   have hfb : X.frozen? ⟨b, 6 + n * 2 + 1, none⟩ = false := HX.out.fb _
   have hhl : (S.th n).held 1 ≤ 1000 := by have := HLO.out n hn4; unfold Th.held; split <;> omega
   have hhl' : ((S.th n).held 1 : Int) ≤ 1000 := by omega
   have hhl0 : (0 : Int) ≤ ((S.th n).held 1 : Int) := by omega
   clear hh
   rw [hpz] at hh2
   have hh3 : X.cell? ⟨b, 6 + n * 2 + 1, none⟩ = some (.int .i64 0) := hh2
   clear hh2 hhl hhl' hhl0
   go_upto_region 16 with fail
   go_cut [7] from 8 (fun v7 wz => v7 = .pointer (some ⟨w.heap.size + 1, 0, none⟩) ∧ wz = (X.setCell ⟨b, 6 + n * 2 + 1, none⟩ (.int .i64 (-1))).drew)
   case first =>
    go_region_with (fail)
    all_goals go_wp2_with fail
    all_goals go_meet
    all_goals exact ⟨rfl, rfl⟩
   case rest =>
    obtain ⟨rfl, rfl⟩ := hcut
    have HEY : Hid (EvAt (X.setCell ⟨b, 6 + n * 2 + 1, none⟩ (.int .i64 (-1))).drew (w.heap.size + 1) n o.kind o.name 0 o.block 0) := (HEX.out.far (by omega) _ _).drew
    have k2 : (X.setCell ⟨b, 6 + n * 2 + 1, none⟩ (.int .i64 (-1))).drew.cell? ⟨b, 6 + n * 2 + 1, none⟩ = some (.int .i64 (-1)) := World.cell?_setCell_same X _ _ hh3
    have HXY : Hid (∀ k j, (⟨k, j, none⟩ : Addr) ≠ ⟨b, 6 + n * 2 + 1, none⟩ → (X.setCell ⟨b, 6 + n * 2 + 1, none⟩ (.int .i64 (-1))).drew.cell? ⟨k, j, none⟩ = X.cell? ⟨k, j, none⟩) := fun k j hne => World.cell?_setCell_other X _ _ _ (Ne.symm hne)
    have HFY : Hid (∀ k j, (X.setCell ⟨b, 6 + n * 2 + 1, none⟩ (.int .i64 (-1))).drew.frozen? ⟨k, j, none⟩ = X.frozen? ⟨k, j, none⟩) := fun k j => World.frozen?_setCell X _ _ _
    have HKY : Hid (Kept b tb w (X.setCell ⟨b, 6 + n * 2 + 1, none⟩ (.int .i64 (-1))).drew) := HKX.out.trans ((Off.kept' ((Off.refl _ _).setCell _ _)).belowTrans (Below.refl _ _).drew)
    have HQY : Hid (EvAt (X.setCell ⟨b, 6 + n * 2 + 1, none⟩ (.int .i64 (-1))).drew w.heap.size 0 0 0 0 0 0) := (HRX.out.far (by omega) _ _).drew
    clear e0 e1 e2 e3 e4 e5 ef hfb
    generalize (X.setCell ⟨b, 6 + n * 2 + 1, none⟩ (.int .i64 (-1))).drew = Y at *
    obtain ⟨e0, e1, e2, e3, e4, e5, ef⟩ := HEY.out
    rw [hln] at e2
    go_upto_region 17 with fail
    have hS0 : Y.drew.cell? ⟨w.heap.size + 1, 2, none⟩ = some (.int .u8 81) ∧ Y.drew.cell? ⟨b, 6 + n * 2 + 1, none⟩ = some (.int .i64 (-1)) := ⟨e2, k2⟩
    have hS1 : (Y.setCell ⟨w.heap.size + 1, 3, none⟩ (.int .i16 (-1))).drew.cell? ⟨w.heap.size + 1, 2, none⟩ = some (.int .u8 81) ∧ (Y.setCell ⟨w.heap.size + 1, 3, none⟩ (.int .i16 (-1))).drew.cell? ⟨b, 6 + n * 2 + 1, none⟩ = some (.int .i64 (-1)) := ⟨(World.cell?_setCell_other _ _ _ _ (by simp)).trans e2, (World.cell?_setCell_far _ _ _ _ (by show w.heap.size + 1 ≠ b; omega)).trans k2⟩
    have k3 : Y.drew.cell? ⟨w.heap.size + 1, 3, none⟩ = some (.int .i16 0) := e3
    have f3 : Y.drew.frozen? ⟨w.heap.size + 1, 3, none⟩ = false := ef 3
    have HEZ : Hid (EvAt (Y.setCell ⟨w.heap.size + 1, 3, none⟩ (.int .i16 (-1))).drew (w.heap.size + 1) n o.kind o.name (-1) o.block 0) := (HEY.out.putV _).drew
    have HQZ : Hid (EvAt (Y.setCell ⟨w.heap.size + 1, 3, none⟩ (.int .i16 (-1))).drew w.heap.size 0 0 0 0 0 0) := (HQY.out.far (by omega) _ _).drew
    have HKZ : Hid (Kept b tb w (Y.setCell ⟨w.heap.size + 1, 3, none⟩ (.int .i16 (-1))).drew) := HKY.out.belowTrans (((Below.refl _ _).setCell (by simp) _).drew)
    have HXZ : Hid (∀ k j, k ≠ w.heap.size + 1 → (⟨k, j, none⟩ : Addr) ≠ ⟨b, 6 + n * 2 + 1, none⟩ → (Y.setCell ⟨w.heap.size + 1, 3, none⟩ (.int .i16 (-1))).drew.cell? ⟨k, j, none⟩ = X.cell? ⟨k, j, none⟩) := fun k j h1 h2 => (World.cell?_setCell_far Y _ _ _ (Ne.symm h1)).trans (HXY.out k j h2)
    have HFZ : Hid (∀ k j, (Y.setCell ⟨w.heap.size + 1, 3, none⟩ (.int .i16 (-1))).drew.frozen? ⟨k, j, none⟩ = X.frozen? ⟨k, j, none⟩) := fun k j => (World.frozen?_setCell Y _ _ _).trans (HFY.out k j)
    clear e0 e1 e2 e3 e4 e5 ef k2
    refine wp_region_held_drew (S := fun w' => w'.cell? ⟨w.heap.size + 1, 2, none⟩ = some (.int .u8 81) ∧ w'.cell? ⟨b, 6 + n * 2 + 1, none⟩ = some (.int .i64 (-1))) (by kernel_rfl) hS0 (fun hHeld => ?_)
    refine takeR 0 (.pointer (some ⟨b, 0, none⟩)) rfl hHeld ?_
    refine takeR 1 (.int .i64 (n : Int)) rfl hHeld ?_
    refine takeS 2 (.pointer (some ⟨w.heap.size + 1, 2, none⟩)) rfl hHeld ?_
    refine takeAt 3 (.int .u8 81) rfl (.inl ⟨by rfl, fun w hw => by have hwa := hw.1; clear hHeld hS0 hS1; go_simp⟩) hHeld ?_
    refine takeAt 4 (.int .u8 1) rfl (.inl ⟨by rfl, fun w hw => by go_simp <;> rfl⟩) hHeld ?_
    refine takeS 5 (.pointer (some ⟨b, 0, none⟩)) rfl hHeld ?_
    refine takeS 6 (.pointer (some ⟨b, 6, none⟩)) rfl hHeld ?_
    refine takeAt 7 (.pointer (some ⟨b, 6 + n * 2, none⟩)) rfl (.inl ⟨by rfl, fun w hw => by go_simp <;> (intro h; omega)⟩) hHeld ?_
    refine takeS 8 (.pointer (some ⟨b, 6 + n * 2 + 1, none⟩)) rfl hHeld ?_
    refine takeAt 9 (.int .i64 (-1)) rfl (.inl ⟨by rfl, fun w hw => by have hwa := hw.2; clear hHeld hS0 hS1; go_simp⟩) hHeld ?_
    refine takeAt 10 (.int .i16 (-1)) rfl (.inl ⟨by rfl, fun w hw => by go_simp <;> rfl⟩) hHeld ?_
    refine takeS 11 (.pointer (some ⟨w.heap.size + 1, 3, none⟩)) rfl hHeld ?_
    refine wpAnyH_skip (w1 := (Y.setCell ⟨w.heap.size + 1, 3, none⟩ (.int .i16 (-1))).drew) 12 _ (by kernel_rfl) rfl (by rfl) rfl (by clear hHeld hS0 hS1; go_simp) hS1 ?_
    refine wpAnyH_done (by kernel_rfl) ?_ _
    have k2 := hS1.2
    clear hHeld hS0 hS1 k3 f3
    generalize (Y.setCell ⟨w.heap.size + 1, 3, none⟩ (.int .i16 (-1))).drew = Q at *
    obtain ⟨e0, e1, e2, e3, e4, e5, ef⟩ := HEZ.out
    rw [hln] at e2
    have hfb : Q.frozen? ⟨b, 6 + n * 2 + 1, none⟩ = false := (HFZ.out _ _).trans (HX.out.fb _)
    have x0 := (HXZ.out tb (n * 2) (by omega) (fun e => HX.out.n1 (congrArg Addr.block e).symm)).trans (HX.out.th n hnp).a
    have xf : Q.frozen? ⟨tb, n * 2, none⟩ = false := (HFZ.out _ _).trans ((HX.out.th n hnp).f _)
    go_upto_region 19 with fail
    go_cut [7] from 8 (fun v7 wz => v7 = .pointer (some ⟨w.heap.size + 1, 0, none⟩) ∧ wz = (Q.setCell ⟨b, 6 + n * 2 + 1, none⟩ (.int .i64 0)).drew)
    case first =>
     go_region_with (fail)
     all_goals go_wp2_with fail
     all_goals go_meet
     all_goals exact ⟨rfl, rfl⟩
    case rest =>
     obtain ⟨rfl, rfl⟩ := hcut
     have HG : Hid (RR (Q.setCell ⟨b, 6 + n * 2 + 1, none⟩ (.int .i64 0)).drew b tb bY la tcap lcap p (S.setTh n ⟨(S.th n).pos + 1, false, (S.th n).reg, (S.th n).h0, (S.th n).h1⟩)) := by
      refine HX.out.ofCells (fun k j hk => ?_) (fun k j _ => (World.frozen?_setCell Q _ _ _).trans (HFZ.out k j))
      by_cases he : (⟨k, j, none⟩ : Addr) = ⟨b, 6 + n * 2 + 1, none⟩
      ·rw [he]
       exact (World.cell?_setCell_same Q _ _ k2).trans hh3.symm
      ·exact (World.cell?_setCell_other Q _ _ _ (Ne.symm he)).trans (HXZ.out k j (by omega) he)
     have HEG : Hid (EvAt (Q.setCell ⟨b, 6 + n * 2 + 1, none⟩ (.int .i64 0)).drew (w.heap.size + 1) n o.kind o.name (-1) o.block 0) := (HEZ.out.far (by omega) _ _).drew
     have HQG : Hid (EvAt (Q.setCell ⟨b, 6 + n * 2 + 1, none⟩ (.int .i64 0)).drew w.heap.size 0 0 0 0 0 0) := (HQZ.out.far (by omega) _ _).drew
     have HKG : Hid (Kept b tb w (Q.setCell ⟨b, 6 + n * 2 + 1, none⟩ (.int .i64 0)).drew) := HKZ.out.trans ((Off.kept' ((Off.refl _ _).setCell _ _)).belowTrans (Below.refl _ _).drew)
     clear e0 e1 e2 e3 e4 e5 ef k2 hfb x0 xf HEZ HQZ HKZ HXZ HFZ
     generalize (Q.setCell ⟨b, 6 + n * 2 + 1, none⟩ (.int .i64 0)).drew = G at *
     obtain ⟨x0, x1, xf⟩ := HG.out.th n hnp
     have HEZ : Hid (EvAt (G.setCell ⟨tb, n * 2, none⟩ (.int .i64 (-1))) (w.heap.size + 1) n o.kind o.name (-1) o.block 0) := HEG.out.far (by omega) _ _
     have HQZ : Hid (EvAt (G.setCell ⟨tb, n * 2, none⟩ (.int .i64 (-1))) w.heap.size 0 0 0 0 0 0) := HQG.out.far (by omega) _ _
     have HKZ : Hid (Kept b tb w (G.setCell ⟨tb, n * 2, none⟩ (.int .i64 (-1)))) := HKG.out.trans (Off.kept ((Off.refl _ _).setCell _ _))
     have HRZ : Hid (RR (G.setCell ⟨tb, n * 2, none⟩ (.int .i64 (-1))) b tb bY la tcap lcap p ((S.setTh n ⟨(S.th n).pos, true, (S.th n).reg, (S.th n).h0, (S.th n).h1⟩).setTh n ⟨(S.th n).pos + 1, true, (S.th n).reg, (S.th n).h0, (S.th n).h1⟩)) := by
      have h1 := HG.out.move hnp ((OnlyTh.refl _ _ G).put _ (Or.inl rfl) (.int .i64 (-1))) ⟨(S.th n).pos + 1, true, (S.th n).reg, (S.th n).h0, (S.th n).h1⟩ ((HG.out.th n hnp).putA (-1) |> fun h => by rw [th_setTh S n _ hn4 n hn4, if_pos rfl] at h; exact h) (by have := HG.out.sm.reg n; rw [th_setTh S n _ hn4 n hn4, if_pos rfl] at this; exact this) (fun l _ => by rw [th_setTh S n _ hn4 n hn4, if_pos rfl]; rfl)
      show RR _ _ _ _ _ _ _ _ _
      rw [setTh_twice _ _ hn4] at h1 ⊢
      exact h1
     have HTT : Hid ((S.setTh n ⟨(S.th n).pos, true, (S.th n).reg, (S.th n).h0, (S.th n).h1⟩) = (shared S n o).1) := by show _ = _; rw [HSHD.out]
     have HVV : Hid ((-1 : Int) = (shared S n o).2) := by show _ = _; rw [HSHD.out]
     have HUU : Hid ((⟨(S.th n).pos + 1, true, (S.th n).reg, (S.th n).h0, (S.th n).h1⟩ : Th) = ⟨(((S.setTh n ⟨(S.th n).pos, true, (S.th n).reg, (S.th n).h0, (S.th n).h1⟩)).th n).pos + 1, (((S.setTh n ⟨(S.th n).pos, true, (S.th n).reg, (S.th n).h0, (S.th n).h1⟩)).th n).failed, (((S.setTh n ⟨(S.th n).pos, true, (S.th n).reg, (S.th n).h0, (S.th n).h1⟩)).th n).reg, (((S.setTh n ⟨(S.th n).pos, true, (S.th n).reg, (S.th n).h0, (S.th n).h1⟩)).th n).h0, (((S.setTh n ⟨(S.th n).pos, true, (S.th n).reg, (S.th n).h0, (S.th n).h1⟩)).th n).h1⟩) := by
      show _ = _
      rw [th_setTh S n _ hn4 n hn4, if_pos rfl]
     go_upto_region 21 with fail
     generalize G.setCell ⟨tb, n * 2, none⟩ (.int .i64 (-1)) = Z at *
     clear x0 x1 xf
     obtain ⟨hr5, hp5, hs5, hev5⟩ := HS2.out Z (-1) ⟨(S.th n).pos + 1, true, (S.th n).reg, (S.th n).h0, (S.th n).h1⟩ (S.setTh n ⟨(S.th n).pos, true, (S.th n).reg, (S.th n).h0, (S.th n).h1⟩) HTT.out HUU.out HRZ.out HEZ.out HQZ.out HKZ.out HVV.out
     have HS5 : Hid _ := hs5
     have HEV5 : Hid _ := hev5
     clear hs5 hev5
     go_wp2_with fail
     refine (on_any hr5 n hnp hp5).mono ?_
     rintro e w8 ⟨rfl, hk8, hz8, h8⟩
     rw [HS5.out] at h8
     have HR8 : Hid (RR w8 b tb bY la tcap lcap p S') := h8
     have hE8 := HEZ.out.kept hk8 (by omega) (by omega)
     have hQ8 := HQZ.out.kept hk8 (by omega) (by omega)
     have HK8 : Hid (Kept b tb w w8) := HKZ.out.trans hk8
     have hrg := hE8.range
     have hth := hQ8.there
     clear hr5 hp5 h8 hk8 hz8 HS2
     go_wp2_with (first | refine wpList_load_mid rfl 59 _ rfl (w.heap.size + 1) 0 rfl _ _ hrg Tryz.underlying59 rfl Tryz.size59 ?_ | refine wpList_store_mid rfl 59 _ _ rfl w.heap.size 0 #[Value.int .i64 (n : Int), .int .u8 (o.kind : Int), .int .u8 (o.name : Int), .int .i16 (-1), .int .i64 o.block, .int .i64 0] rfl rfl hth Tryz.size59 (by simp [Value.oneCell']) ?_)
     refine bodyPost_ret (v := .agg #[Value.int .i64 (n : Int), .int .u8 (o.kind : Int), .int .u8 (o.name : Int), .int .i16 (-1), .int .i64 o.block, .int .i64 0]) (ret_one Tryz.results36 _ _ w.heap.size _ _ rfl (World.rangeAt_setCells_same _ _ _ _ hth) Tryz.underlying59 rfl Tryz.size59) rfl ⟨by rw [HEV5.out]; rfl, HK8.out.belowTrans (below_setCells w.heap.size (Nat.le_refl _) _ 0 _ (Below.refl _ _)), ?_⟩
     exact HR8.out.ofCells (fun k j hk => cell_out (by omega) _ _ _) (fun k j hk => World.frozen?_setCells _ _ _ _ _)

end Go.Proofs.YtfdafcnfefbcbabGreat
