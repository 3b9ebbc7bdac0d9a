/-
 Several texts of ours in one: RefOrd1, RefOrdPl, RefMat, RefArrPl, RefLock.
-/
import Derived.Test.YtfdafcnfefbcbabGreatOrd
import Derived.Deep.QuietTactic
import Derived.BigQuiet
import Derived.Test.YtfdafcnfefbcbabGreatRfa
import Derived.Test.YtfdafcnfefbcbabGreatPla
import Derived.OwnWalk
/-
 The reference's order: the contracts of Hang, Count, thread.
-/
namespace Go.Proofs.YtfdafcnfefbcbabGreat
open Go.RowKit
set_option linter.unusedVariables false
set_option maxRecDepth 100000
set_option maxHeartbeats 2000000

/-- An event's kind and name, as operations have them. -/
def EvKind (e : Ev) : Prop := ((e.kind = 114 ∨ e.kind = 119) ∧ 97 ≤ e.name ∧ e.name ≤ 100) ∨ ((e.kind = 108 ∨ e.kind = 117) ∧ 80 ≤ e.name ∧ e.name ≤ 81)

theorem refHang_any (x y : Ev) (hx : EvKind x) (hy : EvKind y) (w : World) : Calls Tryz.prog 88 #[x.val, y.val] w fun e w' => e = .returned (.bool (hangEv x y)) ∧ Below w.heap.size w w' := by
 obtain ⟨t, k, n, v, b, g⟩ := x
 obtain ⟨t', k', n', v', b', g'⟩ := y
 unfold Ev.val
 simp only [EvKind] at hx hy ⊢
 have hkx : k = 114 ∨ k = 119 ∨ k = 108 ∨ k = 117 := by omega
 cases h1 : (t == t')
 ·cases h2 : ((n : Int) == (n' : Int))
  ·have HR : Hid (hangEv ⟨t, k, n, v, b, g⟩ ⟨t', k', n', v', b', g'⟩ = false) := by
    show _ = _
    have : (n == n') = false := by simp at h2 ⊢; omega
    simp only [hangEv, h1, this]; rfl
   clear hx hy
   rcases hkx with rfl | rfl | rfl | rfl
   all_goals
    go_enter Tryz.func88, Tryz.ntmps88
    go_wp2
    go_ret
    exact ⟨ret_bool HR.out.symm, two_new w _ _⟩
  ·have hnn : n = n' := by simp at h2; omega
   have hnb : (n == n') = true := by simpa using hnn
   rcases hkx with rfl | rfl | rfl | rfl
   ·have hk' : k' = 114 ∨ k' = 119 := by omega
    have HR : Hid (hangEv ⟨t, 114, n, v, b, g⟩ ⟨t', k', n', v', b', g'⟩ = (k' != 114)) := by show _ = _; simp only [hangEv, h1, hnb]; rfl
    clear hx hy hnn hnb
    rcases hk' with rfl | rfl
    all_goals
     go_enter Tryz.func88, Tryz.ntmps88
     go_wp2
     go_ret
     exact ⟨ret_bool HR.out.symm, two_new w _ _⟩
   ·have HR : Hid (hangEv ⟨t, 119, n, v, b, g⟩ ⟨t', k', n', v', b', g'⟩ = true) := by show _ = _; simp only [hangEv, h1, hnb]; rfl
    clear hx hy hnn hnb
    go_enter Tryz.func88, Tryz.ntmps88
    go_wp2
    go_ret
    exact ⟨ret_bool HR.out.symm, two_new w _ _⟩
   ·have HR : Hid (hangEv ⟨t, 108, n, v, b, g⟩ ⟨t', k', n', v', b', g'⟩ = true) := by show _ = _; simp only [hangEv, h1, hnb]; rfl
    clear hx hy hnn hnb
    go_enter Tryz.func88, Tryz.ntmps88
    go_wp2
    go_ret
    exact ⟨ret_bool HR.out.symm, two_new w _ _⟩
   ·have HR : Hid (hangEv ⟨t, 117, n, v, b, g⟩ ⟨t', k', n', v', b', g'⟩ = true) := by show _ = _; simp only [hangEv, h1, hnb]; rfl
    clear hx hy hnn hnb
    go_enter Tryz.func88, Tryz.ntmps88
    go_wp2
    go_ret
    exact ⟨ret_bool HR.out.symm, two_new w _ _⟩
 ·have HR : Hid (hangEv ⟨t, k, n, v, b, g⟩ ⟨t', k', n', v', b', g'⟩ = true) := by show _ = _; simp only [hangEv, h1]; rfl
  clear hx hy
  rcases hkx with rfl | rfl | rfl | rfl
  all_goals
   go_enter Tryz.func88, Tryz.ntmps88
   go_wp2
   go_ret
   exact ⟨ret_bool HR.out.symm, two_new w _ _⟩

/-- How many groups there are. -/
def countTo (es : List Ev) (n : Int) : Int := es.foldl (fun n e => if n ≤ e.group then e.group + 1 else n) n

theorem countTo_cons (e : Ev) (r : List Ev) (n : Int) : countTo (e :: r) n = countTo r (if n ≤ e.group then e.group + 1 else n) := rfl

theorem refCount_any (es : List Ev) (a : Option Addr) (cap lo : Nat) (w : World) (h : w.ownsRow lo 59 6 (.slice a es.length cap) es.length (evCells es)) (hl : es.length ≤ 4000) (hg : ∀ e ∈ es, 0 ≤ e.group ∧ e.group ≤ 4000) :
  Calls Tryz.prog 66 #[.slice a es.length cap] w fun e w' => e = .returned (.int .i64 (countTo es 0)) ∧ Below w.heap.size w w' := by
 have HO : Hid (w.ownsRow lo 59 6 (.slice a es.length cap) es.length (evCells es)) := h
 have HG : Hid (∀ e ∈ es, 0 ≤ e.group ∧ e.group ≤ 4000) := hg
 clear h hg
 go_enter Tryz.func66, Tryz.ntmps66
 go_wp2_with fail
 go_loopw [3, 4] (fun v3 t' wr => ∃ (i : Nat) (n : Int), i ≤ es.length ∧ 0 ≤ n ∧ n ≤ 4001 ∧ t' = .int .i64 (i : Int) ∧ v3 = .int .i64 n ∧ Hid (Below w.heap.size w wr ∧ countTo es 0 = countTo (es.drop i) n)) (fun _ t' _ => es.length - (intOf t').toNat)
 case atStart => exact ⟨0, 0, Nat.zero_le _, by omega, by omega, rfl, rfl, (show Hid _ from ⟨Below.refl _ _, rfl⟩)⟩
 case round =>
  obtain ⟨i, n, hi, hn0, hn1, rfl, rfl, H1⟩ := hrel
  by_cases hlt : i < es.length
  ·have hlt' : (i : Int) < (es.length : Int) := by omega
   obtain ⟨x0, x1, x2, x3, x4, x5⟩ := evCells_at es i es[i] (by simp [hlt])
   obtain ⟨gb, rfl, -, hg1, -, -, hcell, -⟩ := owns_cells HO.out (by omega)
   have c5 := (H1.out.1.cell (p := ⟨gb, i * 6 + 5, none⟩) hg1).trans (hcell _ _ x5)
   have hge := HG.out es[i] (List.getElem_mem hlt)
   have HS : Hid (countTo es 0 = countTo (es.drop (i + 1)) (if n ≤ es[i].group then es[i].group + 1 else n)) := by
    show _ = _
    rw [H1.out.2, List.drop_eq_getElem_cons hlt, countTo_cons]
   clear hcell x0 x1 x2 x3 x4 x5
   generalize es[i] = ev at *
   by_cases hc : n ≤ ev.group
   ·have HS2 : Hid (countTo es 0 = countTo (es.drop (i + 1)) (ev.group + 1)) := HS.out.trans (by rw [if_pos hc])
    clear HS
    go_wp2
    go_roundw
    case rel => exact ⟨i + 1, ev.group + 1, by omega, by omega, by omega, by go_num, by go_num, (show Hid _ from ⟨H1.out.1, HS2.out⟩)⟩
    case measure => simp [intOf]; omega
   ·have HS2 : Hid (countTo es 0 = countTo (es.drop (i + 1)) n) := HS.out.trans (by rw [if_neg hc])
    have hc' : ¬ ev.group ≥ n := by omega
    clear HS
    go_wp2
    go_roundw
    case rel => exact ⟨i + 1, n, by omega, hn0, hn1, by go_num, rfl, (show Hid _ from ⟨H1.out.1, HS2.out⟩)⟩
    case measure => simp [intOf]; omega
  ·have hlt' : ¬ (i : Int) < (es.length : Int) := by omega
   have HE : Hid (countTo es 0 = n) := by show _ = _; rw [H1.out.2, List.drop_eq_nil_of_le (by omega)]; rfl
   go_wp2
   go_ret
   exact ⟨ret_int HE.out.symm, H1.out.1⟩

/-- The thread of a group. -/
def grpThread (g : Int) : List Ev → Int
 | [] => -1
 | e :: r => if e.group = g then e.thread else grpThread g r

theorem refThread_any (es : List Ev) (a : Option Addr) (cap lo : Nat) (g : Int) (w : World) (h : w.ownsRow lo 59 6 (.slice a es.length cap) es.length (evCells es)) (hl : es.length ≤ 4000) :
  Calls Tryz.prog 89 #[.slice a es.length cap, .int .i64 g] w fun e w' => e = .returned (.int .i64 (grpThread g es)) ∧ Below w.heap.size w w' := by
 have HO : Hid (w.ownsRow lo 59 6 (.slice a es.length cap) es.length (evCells es)) := h
 clear h
 go_enter Tryz.func89, Tryz.ntmps89
 go_wp2_with fail
 go_loopw [5] (fun t' wr => ∃ i : Nat, i ≤ es.length ∧ t' = .int .i64 (i : Int) ∧ Hid (Below w.heap.size w wr ∧ grpThread g es = grpThread g (es.drop i))) (fun t' _ => es.length - (intOf t').toNat)
 case atStart => exact ⟨0, Nat.zero_le _, rfl, (show Hid _ from ⟨Below.refl _ _, rfl⟩)⟩
 case round =>
  obtain ⟨i, hi, rfl, H1⟩ := hrel
  by_cases hlt : i < es.length
  ·have hlt' : (i : Int) < (es.length : Int) := by omega
   obtain ⟨x0, x1, x2, x3, x4, x5⟩ := evCells_at es i es[i] (by simp [hlt])
   obtain ⟨gb, rfl, -, hg1, -, -, hcell, -⟩ := owns_cells HO.out (by omega)
   have c0 := (H1.out.1.cell (p := ⟨gb, i * 6, none⟩) hg1).trans (hcell _ _ x0)
   have c5 := (H1.out.1.cell (p := ⟨gb, i * 6 + 5, none⟩) hg1).trans (hcell _ _ x5)
   have HS : Hid (grpThread g es = if es[i].group = g then es[i].thread else grpThread g (es.drop (i + 1))) := by
    show _ = _
    rw [H1.out.2, List.drop_eq_getElem_cons hlt]; rfl
   clear hcell x0 x1 x2 x3 x4 x5
   generalize es[i] = ev at *
   by_cases hc : ev.group = g
   ·have hc' : (ev.group == g) = true := by simpa using hc
    have HS2 : Hid (grpThread g es = ev.thread) := HS.out.trans (by rw [if_pos hc])
    clear HS hc
    go_wp2
    go_ret
    exact ⟨ret_int HS2.out.symm, H1.out.1⟩
   ·have hc' : (ev.group == g) = false := by simpa using hc
    have HS2 : Hid (grpThread g es = grpThread g (es.drop (i + 1))) := HS.out.trans (by rw [if_neg hc])
    clear HS hc
    go_wp2
    go_roundw
    case rel => exact ⟨i + 1, by omega, by go_num, (show Hid _ from ⟨H1.out.1, HS2.out⟩)⟩
    case measure => simp [intOf]; omega
  ·have hlt' : ¬ (i : Int) < (es.length : Int) := by omega
   have HE : Hid (grpThread g es = -1) := by show _ = _; rw [H1.out.2, List.drop_eq_nil_of_le (by omega)]; rfl
   go_wp2
   go_ret
   exact ⟨ret_int HE.out.symm, H1.out.1⟩

theorem op_kind {o : Pl.POp} (h : OpOk o) (hs : Pl.isShared o.kind = true) : ((o.kind = 114 ∨ o.kind = 119) ∧ 97 ≤ o.name ∧ o.name ≤ 100) ∨ ((o.kind = 108 ∨ o.kind = 117) ∧ 80 ≤ o.name ∧ o.name ≤ 81) := by
 have hk : o.kind = 114 ∨ o.kind = 119 ∨ o.kind = 108 ∨ o.kind = 117 := by simp only [Pl.isShared, Bool.or_eq_true, beq_iff_eq] at hs; omega
 rcases h with ⟨-, h2⟩ | h | h | h
 ·simp only [Pl.isName] at h2
  rcases hk with hk | hk | hk | hk <;> (rw [hk] at h2 ⊢; simp at h2 ⊢; omega)
 all_goals omega

theorem step_kind {S S' : St} {p : List (List Pl.POp)} {m : Int} {e : Ev} (hok : StOk S p) (hr : ∀ n : Nat, RowOk (rowOf p n)) (h : step S p m = some (S', e)) : EvKind e := by
 unfold step at h
 split at h
 ·cases h
 ·rename_i o ho
  obtain ⟨n, rfl, hn, hop⟩ := stOp_some ho
  have hs := (hok n hn).stands o hop
  have hm : o ∈ rowOf p n := by
   unfold opAt at hop
   split at hop
   ·cases hop
   ·exact List.mem_of_getElem? hop
  have hk := op_kind ((hr n).ops o hm) hs
  split at h
  ·simp only [Option.some.injEq, Prod.mk.injEq] at h
   obtain ⟨-, rfl⟩ := h
   exact hk
  ·cases h

/-- The groups are numbered from 0, none left out. -/
structure Grp (es : List Ev) (g : Nat) : Prop where
 in_ : ∀ e ∈ es, 0 ≤ e.group ∧ e.group < (g : Int)
 all : ∀ k : Nat, k < g → ∃ e ∈ es, e.group = (k : Int)
 cnt : countTo es 0 = (g : Int)
 le : g ≤ es.length

theorem countTo_snoc (es : List Ev) (e : Ev) (n : Int) : countTo (es ++ [e]) n = if countTo es n ≤ e.group then e.group + 1 else countTo es n := by
 unfold countTo
 rw [List.foldl_append]
 rfl

theorem Grp.snoc {es : List Ev} {g : Nat} (h : Grp es g) (t : Int) (k n : Nat) (v b : Int) :
  Grp (es ++ [⟨t, k, n, v, b, groupOf es t b g⟩]) (if groupOf es t b g = (g : Int) then g + 1 else g) := by
 have hc : groupOf es t b g = (g : Int) ∨ ∃ x ∈ es, groupOf es t b g = x.group := by
  by_cases hb : b = -1
  ·left; unfold groupOf; rw [if_pos hb]
  ·rcases groupOf_cases t b g hb es with ⟨h1, -⟩ | ⟨x, h1, -, -, h2⟩
   ·exact .inl h1
   ·exact .inr ⟨x, h1, h2⟩
 rcases hc with hc | ⟨x, hx, hc⟩
 ·rw [if_pos hc, hc]
  refine ⟨fun e he => ?_, fun k' hk => ?_, ?_, ?_⟩
  ·rcases List.mem_append.1 he with he | he
   ·have := h.in_ e he; omega
   ·rw [List.mem_singleton.1 he]; simp; omega
  ·by_cases e : k' = g
   ·exact ⟨_, List.mem_append_right _ (List.mem_singleton.2 rfl), by rw [e]⟩
   ·obtain ⟨y, h1, h2⟩ := h.all k' (by omega)
    exact ⟨y, List.mem_append_left _ h1, h2⟩
  ·rw [countTo_snoc, h.cnt, if_pos (by simp)]; simp
  ·have := h.le; simp; omega
 ·have hl := h.in_ x hx
  rw [if_neg (by rw [hc]; omega), hc]
  refine ⟨fun e he => ?_, fun k' hk => ?_, ?_, ?_⟩
  ·rcases List.mem_append.1 he with he | he
   ·exact h.in_ e he
   ·rw [List.mem_singleton.1 he]; exact hl
  ·obtain ⟨y, h1, h2⟩ := h.all k' hk
   exact ⟨y, List.mem_append_left _ h1, h2⟩
  ·rw [countTo_snoc, h.cnt, if_neg (by simp; omega)]
  ·have := h.le; simp; omega

theorem follow_kept (p : List (List Pl.POp)) (hr : ∀ n : Nat, RowOk (rowOf p n)) : ∀ (ms : List Int) (S : St) (es : List Ev) (g : Nat) (S1 : St) (es1 : List Ev), StOk S p → (∀ e ∈ es, EvKind e) → Grp es g → follow p S es g ms = some (S1, es1) → (∀ e ∈ es1, EvKind e) ∧ ∃ g1, Grp es1 g1
 | [], S, es, g, S1, es1, _, hk, hg, h => by
  simp only [follow, Option.some.injEq, Prod.mk.injEq] at h
  obtain ⟨-, rfl⟩ := h
  exact ⟨hk, g, hg⟩
 | m :: ms, S, es, g, S1, es1, hok, hk, hg, h => by
  rw [follow] at h
  split at h
  ·cases h
  ·rename_i S' e hs
   refine follow_kept p hr ms S' _ _ S1 es1 (step_ok hok hs) (fun x hx => ?_) (hg.snoc _ _ _ _ _) h
   rcases List.mem_append.1 hx with hx | hx
   ·exact hk x hx
   ·have hke := step_kind hok hr hs
    rw [List.mem_singleton.1 hx]; exact hke

theorem follow_told {p : List (List Pl.POp)} (hr : ∀ n : Nat, RowOk (rowOf p n)) {ms : List Int} {S : St} {es : List Ev} (h : follow p (beginTo p 4) [] 0 ms = some (S, es)) : (∀ e ∈ es, EvKind e) ∧ ∃ g, Grp es g :=
 follow_kept p hr ms _ [] 0 S es (begin_ok p) (fun e he => by cases he) ⟨fun e he => (by cases he), fun k hk => (by omega), rfl, Nat.le_refl _⟩ h

/-- A square of truths in memory: a block of rows, k of them made. -/
structure MatAt (w : World) (B mb n : Nat) (R : Nat → Nat) (M : Nat → Nat → Bool) (k : Nat) : Prop where
 row : ∀ g, g < k → w.cell? ⟨mb, g, none⟩ = some (.slice (some ⟨R g, 0, none⟩) n n)
 rest : ∀ g, k ≤ g → g < n → w.cell? ⟨mb, g, none⟩ = some (.slice none 0 0)
 cell : ∀ g h, g < k → h < n → w.cell? ⟨R g, h, none⟩ = some (.bool (M g h))
 mf : ∀ j, w.frozen? ⟨mb, j, none⟩ = false
 rf : ∀ g, g < k → ∀ j, w.frozen? ⟨R g, j, none⟩ = false
 inj : ∀ g g', g < k → g' < k → R g = R g' → g = g'
 ne : ∀ g, g < k → R g ≠ mb
 lo : B ≤ mb ∧ ∀ g, g < k → B ≤ R g
 hi : mb < w.heap.size ∧ ∀ g, g < k → R g < w.heap.size

theorem MatAt.below {w w' : World} {B mb n k : Nat} {R : Nat → Nat} {M : Nat → Nat → Bool} (h : MatAt w B mb n R M k) (hb : Below w.heap.size w w') : MatAt w' B mb n R M k :=
 ⟨fun g hg => (hb.cell (p := ⟨mb, g, none⟩) h.hi.1).trans (h.row g hg), fun g h1 h2 => (hb.cell (p := ⟨mb, g, none⟩) h.hi.1).trans (h.rest g h1 h2), fun g j hg hj => (hb.cell (p := ⟨R g, j, none⟩) (h.hi.2 g hg)).trans (h.cell g j hg hj),
   fun j => (hb.frozen (p := ⟨mb, j, none⟩) h.hi.1).trans (h.mf j), fun g hg j => (hb.frozen (p := ⟨R g, j, none⟩) (h.hi.2 g hg)).trans (h.rf g hg j), h.inj, h.ne, h.lo, Nat.lt_of_lt_of_le h.hi.1 hb.size, fun g hg => Nat.lt_of_lt_of_le (h.hi.2 g hg) hb.size⟩

/-- One truth more. -/
theorem MatAt.put {w : World} {B mb n : Nat} {R : Nat → Nat} {M : Nat → Nat → Bool} (h : MatAt w B mb n R M n) {g j : Nat} (hg : g < n) (hj : j < n) (v : Bool) :
  MatAt (w.setCell ⟨R g, j, none⟩ (.bool v)) B mb n R (fun a b => if a = g ∧ b = j then v else M a b) n := by
 have hne := h.ne g hg
 refine ⟨fun a ha => (World.cell?_setCell_far _ _ _ _ hne).trans (h.row a ha), fun a h1 h2 => by omega, fun a b ha hb => ?_, fun i => by rw [World.frozen?_setCell]; exact h.mf i, fun a ha i => by rw [World.frozen?_setCell]; exact h.rf a ha i, h.inj, h.ne, h.lo, by rw [World.size_setCell]; exact h.hi.1, fun a ha => by rw [World.size_setCell]; exact h.hi.2 a ha⟩
 by_cases e : a = g
 ·subst e
  by_cases e2 : b = j
  ·subst e2
   rw [if_pos ⟨rfl, rfl⟩]
   exact World.cell?_setCell_same _ _ _ (h.cell a b ha hb)
  ·rw [if_neg (fun x => e2 x.2)]
   exact (World.cell?_setCell_other _ _ _ _ (fun x => e2 (by simpa using (congrArg Addr.off x).symm))).trans (h.cell a b ha hb)
 ·rw [if_neg (fun x => e x.1)]
  exact (World.cell?_setCell_far _ _ _ _ (fun x => e (h.inj a g ha hg x.symm))).trans (h.cell a b ha hb)

theorem Tryz.info4 : (Tryz.prog.info? 4).map (fun i => (i.zero, i.size, i.bytes)) = some (some (.bool false), 1, 1) := by kernel_rfl
theorem Tryz.info151 : (Tryz.prog.info? 151).map (fun i => (i.zero, i.size, i.bytes)) = some (some (.slice none 0 0), 1, 24) := by kernel_rfl

/-- The block of rows, newly made. -/
theorem MatAt.made {w w1 : World} {B n : Nat} (hB : B ≤ w.heap.size) {base : Nat} {t0 : TypeId} (ho : w1.ownsRow base t0 1 (.slice (some ⟨w.heap.size, 0, none⟩) n n) n (madeCells (Value.slice none 0 0).cells (n * 1)).toList) (R : Nat → Nat) (M : Nat → Nat → Bool) : MatAt w1 B w.heap.size n R M 0 := by
 refine ⟨fun g hg => by omega, fun g _ hg => ?_, fun g h hg => by omega, fun j => ho.frozenAt j, fun g hg => by omega, fun g g' hg => by omega, fun g hg => by omega, ⟨hB, fun g hg => by omega⟩, (ho.lt w.heap.size rfl).2, fun g hg => by omega⟩
 rw [ho.cellAt _ (by omega)]
 have e : (Value.slice none 0 0).cells = #[.slice none 0 0] := by kernel_rfl
 rw [e, toList_madeCells_one]
 simp [hg]

/-- A row more. -/
theorem MatAt.more {w w1 : World} {B mb n k : Nat} {R : Nat → Nat} {M : Nat → Nat → Bool} (h : MatAt w B mb n R M k) (hB : B ≤ w.heap.size) (hk : k < n) {base : Nat} {t0 : TypeId} (ho : w1.ownsRow base t0 1 (.slice (some ⟨w.heap.size, 0, none⟩) n n) n (madeCells (Value.bool false).cells (n * 1)).toList) (hg : w.grownBy w1 none) :
  MatAt (w1.setCell ⟨mb, k, none⟩ (.slice (some ⟨w.heap.size, 0, none⟩) n n)) B mb n (fun g => if g = k then w.heap.size else R g) (fun a b => if a = k then false else M a b) (k + 1) := by
 have hb : Below w.heap.size w w1 := Below.grown (Below.refl _ _) hg (Nat.le_refl _) (fun _ h => by cases h)
 have h1 := h.below hb
 have hlt := (ho.lt w.heap.size rfl).2
 have hm := h.hi.1
 refine ⟨fun g hg' => ?_, fun g h2 h3 => ?_, fun g j hg' hj => ?_, fun j => by rw [World.frozen?_setCell]; exact h1.mf j, fun g hg' j => ?_, fun g g' h2 h3 e => ?_, fun g hg' => ?_, ⟨h.lo.1, fun g hg' => ?_⟩, by rw [World.size_setCell]; exact h1.hi.1, fun g hg' => ?_⟩
 ·by_cases e : g = k
  ·subst e
   rw [if_pos rfl]
   exact World.cell?_setCell_same _ _ _ (h1.rest g (Nat.le_refl _) hk)
  ·rw [if_neg e]
   exact (World.cell?_setCell_other _ _ _ _ (fun x => e (by simpa using (congrArg Addr.off x).symm))).trans (h1.row g (by omega))
 ·exact (World.cell?_setCell_other _ _ _ _ (fun x => by have := congrArg Addr.off x; simp at this; omega)).trans (h1.rest g (by omega) h3)
 ·by_cases e : g = k
  ·subst e
   simp only [if_true]
   rw [World.cell?_setCell_far _ _ _ _ (by show mb ≠ w.heap.size; omega), ho.cellAt _ (by omega)]
   have e : (Value.bool false).cells = #[.bool false] := by kernel_rfl
   rw [e, toList_madeCells_one]
   simp [hj]
  ·simp only [if_neg e]
   exact (World.cell?_setCell_far _ _ _ _ (fun x => h.ne g (by omega) x.symm)).trans (h1.cell g j (by omega) hj)
 ·rw [World.frozen?_setCell]
  by_cases e : g = k
  ·subst e; simp only [if_true]; exact ho.frozenAt j
  ·simp only [if_neg e]; exact h1.rf g (by omega) j
 ·by_cases e1 : g = k <;> by_cases e2 : g' = k
  ·omega
  ·simp only [e1, if_true, if_neg e2] at e
   have := h.hi.2 g' (by omega)
   omega
  ·simp only [e2, if_true, if_neg e1] at e
   have := h.hi.2 g (by omega)
   omega
  ·simp only [if_neg e1, if_neg e2] at e
   exact h.inj g g' (by omega) (by omega) e
 ·by_cases e : g = k
  ·simp only [e, if_true]; omega
  ·simp only [if_neg e]; exact h.ne g (by omega)
 ·by_cases e : g = k
  ·simp only [e, if_true]; exact hB
  ·simp only [if_neg e]; exact h.lo.2 g (by omega)
 ·rw [World.size_setCell]
  by_cases e : g = k
  ·simp only [e, if_true]; exact hlt
  ·simp only [if_neg e]; exact h1.hi.2 g (by omega)

/-- Two groups of which one is ahead of the other, by a pair of steps looked at ahead of the pair (i, j). -/
def AhTo (es : List Ev) (i j : Nat) (a b : Nat) : Prop :=
 ∃ (i' j' : Nat) (x y : Ev), es[i']? = some x ∧ es[j']? = some y ∧ i' < j' ∧ (i' < i ∨ (i' = i ∧ j' < j)) ∧ x.group = (a : Int) ∧ y.group = (b : Int) ∧ a ≠ b ∧ hangEv x y = true

theorem ahTo_all (es : List Ev) (a b : Nat) : AhTo es es.length 0 a b ↔ AheadEv es (a : Int) (b : Int) := by
 constructor
 ·rintro ⟨i, j, x, y, h1, h2, h3, -, h5, h6, h7, h8⟩
  refine ⟨x, y, pair_of h2 ?_, h5, h6, by omega, h8⟩
  have : (es.take j)[i]? = some x := by rw [List.getElem?_take, if_pos h3]; exact h1
  exact List.mem_of_getElem? this
 ·rintro ⟨x, y, h1, h2, h3, h4, h5⟩
  obtain ⟨j, h6, h7⟩ := pair_at h1
  obtain ⟨i, hi, e⟩ := List.mem_iff_getElem.1 h7
  have hij : i < j := by simp at hi; omega
  have hx : es[i]? = some x := by
   have : (es.take j)[i]? = some x := by rw [List.getElem?_eq_getElem hi, e]
   rwa [List.getElem?_take, if_pos hij] at this
  exact ⟨i, j, x, y, hx, h6, hij, .inl (List.getElem?_eq_some_iff.1 hx).1, h2, h3, by omega, h5⟩

theorem ahTo_start (es : List Ev) (i a b : Nat) : AhTo es i (i + 1) a b ↔ AhTo es i 0 a b := by
 constructor
 ·rintro ⟨i', j', x, y, h1, h2, h3, h4, h5⟩
  exact ⟨i', j', x, y, h1, h2, h3, by omega, h5⟩
 ·rintro ⟨i', j', x, y, h1, h2, h3, h4, h5⟩
  exact ⟨i', j', x, y, h1, h2, h3, by omega, h5⟩

theorem ahTo_row (es : List Ev) (i a b : Nat) : AhTo es i es.length a b ↔ AhTo es (i + 1) 0 a b := by
 constructor
 ·rintro ⟨i', j', x, y, h1, h2, h3, h4, h5⟩
  exact ⟨i', j', x, y, h1, h2, h3, by omega, h5⟩
 ·rintro ⟨i', j', x, y, h1, h2, h3, h4, h5⟩
  have := (List.getElem?_eq_some_iff.1 h2).1
  exact ⟨i', j', x, y, h1, h2, h3, by omega, h5⟩

theorem ahTo_next {es : List Ev} {i j : Nat} {x y : Ev} (hx : es[i]? = some x) (hy : es[j]? = some y) (hij : i < j) (a b : Nat) : AhTo es i (j + 1) a b ↔ AhTo es i j a b ∨ (x.group = (a : Int) ∧ y.group = (b : Int) ∧ a ≠ b ∧ hangEv x y = true) := by
 constructor
 ·rintro ⟨i', j', x', y', h1, h2, h3, h4, h5⟩
  by_cases e : i' = i ∧ j' = j
  ·obtain ⟨rfl, rfl⟩ := e
   rw [hx] at h1
   rw [hy] at h2
   cases h1
   cases h2
   exact .inr h5
  ·exact .inl ⟨i', j', x', y', h1, h2, h3, by omega, h5⟩
 ·rintro (⟨i', j', x', y', h1, h2, h3, h4, h5⟩ | h)
  ·exact ⟨i', j', x', y', h1, h2, h3, by omega, h5⟩
  ·exact ⟨i, j, x, y, hx, hy, hij, by omega, h⟩

/-- The steps whose groups are not gone. -/
def stay (gone : Int → Bool) (es : List Ev) : List Ev := es.filter fun e => !gone e.group

theorem ahead_stay (es : List Ev) (gone : Int → Bool) {g h : Int} (hg : gone g = false) (hh : gone h = false) : AheadEv (stay gone es) g h ↔ AheadEv es g h := by
 constructor
 ·exact AheadEv.sub List.filter_sublist
 ·rintro ⟨a, b, h1, h2, h3, h4, h5⟩
  refine ⟨a, b, ?_, h2, h3, h4, h5⟩
  have := h1.filter (fun e => !gone e.group)
  simpa [stay, h2, h3, hg, hh] using this

theorem ahead_gone {es : List Ev} {gone : Int → Bool} {g h : Int} (hA : AheadEv (stay gone es) g h) : gone g = false ∧ gone h = false := by
 obtain ⟨a, b, h1, rfl, rfl, -, -⟩ := hA
 have ha : a ∈ stay gone es := h1.subset (by simp)
 have hb : b ∈ stay gone es := h1.subset (by simp)
 simp only [stay, List.mem_filter, Bool.not_eq_true'] at ha hb
 exact ⟨ha.2, hb.2⟩

theorem stay_left (gone : Int → Bool) (es : List Ev) (g : Int) : leftOf (stay gone es) g = stay (fun x => gone x || x == g) es := by
 unfold leftOf stay
 rw [List.filter_filter]
 congr 1
 funext e
 show (!(e.group == g) && !gone e.group) = !(gone e.group || e.group == g)
 cases gone e.group <;> cases e.group == g <;> rfl

theorem stay_taken (gone : Int → Bool) (es : List Ev) (g : Int) (hg : gone g = false) : takenOf (stay gone es) g = takenOf es g := by
 unfold takenOf stay
 rw [List.filter_filter]
 congr 1
 apply List.filter_congr
 intro e _
 by_cases h : e.group = g
 ·simp [h, hg]
 ·simp [h]

theorem first_iff (a b : Ev) : firstEv a b = true ↔ a.thread < b.thread ∨ (a.thread = b.thread ∧ a.group < b.group) := by
 unfold firstEv
 by_cases h : a.thread = b.thread
 ·simp [h]
 ·simp [h]

theorem nfStep_least {es : List Ev} {st : Option Ev} {e : Ev} {P : Ev → Prop} (hs : ∀ x, P x → ∃ y, st = some y ∧ ¬ firstEv x y = true) :
  ∀ x, (P x ∨ (x = e ∧ aheadOf es e.group = none)) → ∃ y, nfStep es st e = some y ∧ ¬ firstEv x y = true := by
 have irr : ¬ firstEv e e = true := by rw [first_iff]; omega
 intro x hx
 cases st with
 | none =>
  rcases hx with hx | ⟨rfl, hx⟩
  ·obtain ⟨y, hy, -⟩ := hs x hx; cases hy
  ·refine ⟨x, ?_, irr⟩
   show (if (aheadOf es x.group).isSome = true then none else some x) = some x
   rw [hx]; rfl
 | some nx =>
  show ∃ y, (if firstEv e nx = true then (if (aheadOf es e.group).isSome = true then some nx else some e) else some nx) = some y ∧ _
  by_cases hf : firstEv e nx = true
  ·rw [if_pos hf]
   by_cases ha : (aheadOf es e.group).isSome = true
   ·rw [if_pos ha]
    rcases hx with hx | ⟨rfl, hx⟩
    ·obtain ⟨y, hy, h2⟩ := hs x hx; cases hy; exact ⟨nx, rfl, h2⟩
    ·rw [hx] at ha; cases ha
   ·rw [if_neg ha]
    refine ⟨e, rfl, ?_⟩
    rcases hx with hx | ⟨rfl, hx⟩
    ·obtain ⟨y, hy, h2⟩ := hs x hx
     cases hy
     rw [first_iff] at hf h2 ⊢
     omega
    ·exact irr
  ·rw [if_neg hf]
   refine ⟨nx, rfl, ?_⟩
   rcases hx with hx | ⟨rfl, hx⟩
   ·obtain ⟨y, hy, h2⟩ := hs x hx; cases hy; exact h2
   ·exact hf

theorem fold_least (es : List Ev) : ∀ (l : List Ev) (st : Option Ev) (P : Ev → Prop), (∀ x, P x → ∃ y, st = some y ∧ ¬ firstEv x y = true) →
  ∀ x, (P x ∨ (x ∈ l ∧ aheadOf es x.group = none)) → ∃ y, l.foldl (nfStep es) st = some y ∧ ¬ firstEv x y = true
 | [], st, P, hs, x, hx => by
  rcases hx with hx | ⟨hx, -⟩
  ·exact hs x hx
  ·cases hx
 | e :: r, st, P, hs, x, hx => by
  refine fold_least es r (nfStep es st e) (fun x => P x ∨ (x = e ∧ aheadOf es e.group = none)) (nfStep_least hs) x ?_
  rcases hx with hx | ⟨hx, hf⟩
  ·exact .inl (.inl hx)
  ·rcases List.mem_cons.1 hx with rfl | hx
   ·exact .inl (.inr ⟨rfl, hf⟩)
   ·exact .inr ⟨hx, hf⟩

/-- nextFree takes the least of the free. -/
theorem nextFree_least {es : List Ev} {x : Ev} (hx : x ∈ es) (hf : aheadOf es x.group = none) : ∃ y, nextFree es = some y ∧ ¬ firstEv x y = true :=
 fold_least es es none (fun _ => False) (fun x h => h.elim) x (.inr ⟨hx, hf⟩)

/-- A group is of one thread. -/
def OneTh (es : List Ev) : Prop := ∀ x, x ∈ es → ∀ y, y ∈ es → x.group = y.group → x.thread = y.thread

theorem grpThread_is (g : Int) : ∀ es : List Ev, (∃ e ∈ es, e.group = g) → ∃ e ∈ es, e.group = g ∧ grpThread g es = e.thread
 | [], ⟨e, he, _⟩ => by cases he
 | e :: r, h => by
  unfold grpThread
  by_cases hg : e.group = g
  ·rw [if_pos hg]; exact ⟨e, by simp, hg, rfl⟩
  ·rw [if_neg hg]
   obtain ⟨x, hx, h1⟩ := h
   have hx' : x ∈ r := by
    rcases List.mem_cons.1 hx with rfl | hx
    ·exact absurd h1 hg
    ·exact hx
   obtain ⟨y, h2, h3⟩ := grpThread_is g r ⟨x, hx', h1⟩
   exact ⟨y, by simp [h2], h3⟩

theorem grpThread_mem {es : List Ev} (h : OneTh es) {e : Ev} (he : e ∈ es) : grpThread e.group es = e.thread := by
 obtain ⟨y, h1, h2, h3⟩ := grpThread_is e.group es ⟨e, he, rfl⟩
 rw [h3]
 exact h y h1 e he h2

theorem OneTh.snoc {es : List Ev} {g : Nat} (hg : Grp es g) (h : OneTh es) (t : Int) (k n : Nat) (v b : Int) : OneTh (es ++ [⟨t, k, n, v, b, groupOf es t b g⟩]) := by
 have hc : groupOf es t b g = (g : Int) ∨ ∃ x ∈ es, x.thread = t ∧ groupOf es t b g = x.group := by
  by_cases hb : b = -1
  ·left; unfold groupOf; rw [if_pos hb]
  ·rcases groupOf_cases t b g hb es with ⟨h1, -⟩ | ⟨x, h1, h0, -, h2⟩
   ·exact .inl h1
   ·exact .inr ⟨x, h1, h0, h2⟩
 have key : ∀ x, x ∈ es → x.group = groupOf es t b g → x.thread = t := fun x hx he => by
  rcases hc with hc | ⟨y, h1, h2, h3⟩
  ·have := hg.in_ x hx; omega
  ·rw [← h2]; exact h x hx y h1 (he.trans h3)
 intro x hx y hy hxy
 rcases List.mem_append.1 hx with hx | hx <;> rcases List.mem_append.1 hy with hy | hy
 ·exact h x hx y hy hxy
 ·rw [List.mem_singleton.1 hy] at hxy ⊢; exact key x hx hxy
 ·rw [List.mem_singleton.1 hx] at hxy ⊢; exact (key y hy hxy.symm).symm
 ·rw [List.mem_singleton.1 hx, List.mem_singleton.1 hy]

theorem follow_one (p : List (List Pl.POp)) : ∀ (ms : List Int) (S : St) (es : List Ev) (g : Nat) (S1 : St) (es1 : List Ev), Grp es g → OneTh es → follow p S es g ms = some (S1, es1) → OneTh es1
 | [], S, es, g, S1, es1, _, hk, h => by
  simp only [follow, Option.some.injEq, Prod.mk.injEq] at h
  obtain ⟨-, rfl⟩ := h
  exact hk
 | m :: ms, S, es, g, S1, es1, hg, hk, h => by
  rw [follow] at h
  split at h
  ·cases h
  ·exact follow_one p ms _ _ _ S1 es1 (hg.snoc _ _ _ _ _) (hk.snoc hg _ _ _ _ _) h

/-- What the reference's order asks of the events of a schedule. -/
structure Told (es : List Ev) (n : Nat) : Prop where
 kind : ∀ e ∈ es, EvKind e
 grp : Grp es n
 one : OneTh es

theorem follow_tells {p : List (List Pl.POp)} (hr : ∀ n : Nat, RowOk (rowOf p n)) {ms : List Int} {S : St} {es : List Ev} (h : follow p (beginTo p 4) [] 0 ms = some (S, es)) : ∃ n, Told es n := by
 obtain ⟨h1, n, h2⟩ := follow_told hr h
 exact ⟨n, h1, h2, follow_one p ms _ [] 0 S es ⟨fun e he => (by cases he), fun k hk => (by omega), rfl, Nat.le_refl _⟩ (fun x hx => by cases hx) h⟩

/-- A group is left, and none that is left is ahead of it. -/
def FreeAt (n : Nat) (G : Nat → Bool) (M : Nat → Nat → Bool) (g : Nat) : Prop := G g = false ∧ ∀ h, h < n → G h = true ∨ M h g = false

/-- The first of the free below k. -/
def BestAt (F : Nat → Prop) (T : Nat → Int) (k : Nat) (best : Int) : Prop :=
 (best = -1 ∧ ∀ g, g < k → ¬ F g) ∨ ∃ b : Nat, best = (b : Int) ∧ b < k ∧ F b ∧ ∀ g, g < k → F g → T b < T g ∨ (T b = T g ∧ b ≤ g)

theorem BestAt.zero (F : Nat → Prop) (T : Nat → Int) : BestAt F T 0 (-1) := .inl ⟨rfl, fun g hg => by omega⟩

theorem BestAt.not {F : Nat → Prop} {T : Nat → Int} {k : Nat} {best : Int} (h : BestAt F T k best) (hk : ¬ F k) : BestAt F T (k + 1) best := by
 rcases h with ⟨h1, h2⟩ | ⟨b, h1, h2, h3, h4⟩
 ·exact .inl ⟨h1, fun g hg => by by_cases e : g = k; subst e; exact hk; exact h2 g (by omega)⟩
 ·exact .inr ⟨b, h1, by omega, h3, fun g hg hF => by by_cases e : g = k; subst e; exact absurd hF hk; exact h4 g (by omega) hF⟩

theorem BestAt.fresh {F : Nat → Prop} {T : Nat → Int} {k : Nat} {best : Int} (h : BestAt F T k best) (hb : best < 0) (hk : F k) : BestAt F T (k + 1) (k : Int) := by
 rcases h with ⟨h1, h2⟩ | ⟨b, h1, h2, h3, h4⟩
 ·exact .inr ⟨k, rfl, by omega, hk, fun g hg hF => by by_cases e : g = k; subst e; exact .inr ⟨rfl, Nat.le_refl _⟩; exact absurd hF (h2 g (by omega))⟩
 ·omega

theorem BestAt.better {F : Nat → Prop} {T : Nat → Int} {k b : Nat} (h : BestAt F T k (b : Int)) (hk : F k) (ht : T k < T b) : BestAt F T (k + 1) (k : Int) := by
 rcases h with ⟨h1, h2⟩ | ⟨b', h1, h2, h3, h4⟩
 ·omega
 ·have : b' = b := by omega
  subst this
  exact .inr ⟨k, rfl, by omega, hk, fun g hg hF => by by_cases e : g = k; subst e; exact .inr ⟨rfl, Nat.le_refl _⟩; (have := h4 g (by omega) hF; left; omega)⟩

theorem BestAt.worse {F : Nat → Prop} {T : Nat → Int} {k b : Nat} (h : BestAt F T k (b : Int)) (ht : ¬ T k < T b) : BestAt F T (k + 1) (b : Int) := by
 rcases h with ⟨h1, h2⟩ | ⟨b', h1, h2, h3, h4⟩
 ·omega
 ·have : b' = b := by omega
  subst this
  exact .inr ⟨b', rfl, by omega, h3, fun g hg hF => by by_cases e : g = k; (subst e; omega); exact h4 g (by omega) hF⟩

theorem BestAt.lt {F : Nat → Prop} {T : Nat → Int} {k : Nat} {best : Int} (h : BestAt F T k best) (hb : ¬ best < 0) : ∃ b : Nat, best = (b : Int) ∧ b < k ∧ F b := by
 rcases h with ⟨h1, h2⟩ | ⟨b, h1, h2, h3, h4⟩
 ·omega
 ·exact ⟨b, h1, h2, h3⟩

def goneI (G : Nat → Bool) (x : Int) : Bool := G x.toNat

theorem goneI_nat (G : Nat → Bool) (g : Nat) : goneI G (g : Int) = G g := rfl

theorem free_iff {es : List Ev} {n : Nat} {G : Nat → Bool} {M : Nat → Nat → Bool} (hg : Grp es n) (hM : ∀ a b : Nat, a < n → b < n → (M a b = true ↔ AheadEv es (a : Int) (b : Int))) {g : Nat} (hgn : g < n) :
  FreeAt n G M g ↔ ∃ e ∈ stay (goneI G) es, e.group = (g : Int) ∧ aheadOf (stay (goneI G) es) e.group = none := by
 constructor
 ·rintro ⟨h1, h2⟩
  obtain ⟨e, he, hge⟩ := hg.all g hgn
  refine ⟨e, ?_, hge, ?_⟩
  ·unfold stay
   rw [List.mem_filter]
   exact ⟨he, by rw [hge, goneI_nat, h1]; rfl⟩
  ·cases ha : aheadOf (stay (goneI G) es) e.group with
   | none => rfl
   | some x =>
    exfalso
    have hA := aheadOf_some ha
    rw [hge] at hA
    have hx := (ahead_gone hA).1
    have hA' : AheadEv es x (g : Int) := hA.sub List.filter_sublist
    obtain ⟨a, b, hs, hax, -⟩ := id hA'
    have hin := hg.in_ a (hs.subset (by simp))
    have hxn : x = ((x.toNat : Nat) : Int) := by omega
    have hlt : x.toNat < n := by omega
    rcases h2 x.toNat hlt with h3 | h3
    ·have : goneI G x = true := h3
     rw [hx] at this; cases this
    ·rw [(hM x.toNat g hlt hgn).2 (by rw [← hxn]; exact hA')] at h3
     cases h3
 ·rintro ⟨e, he, hge, ha⟩
  unfold stay at he
  rw [List.mem_filter] at he
  have hG : G g = false := by
   have := he.2
   rw [hge, goneI_nat] at this
   simpa using this
  refine ⟨hG, fun h hh => ?_⟩
  cases hGh : G h with
  | true => exact .inl rfl
  | false =>
   right
   cases hMh : M h g with
   | false => rfl
   | true =>
    exfalso
    have hA := (hM h g hh hgn).1 hMh
    rw [hge] at ha
    exact aheadOf_none ha (h : Int) ((ahead_stay es (goneI G) (by rw [goneI_nat]; exact hGh) (by rw [goneI_nat]; exact hG)).2 hA)

/-- The reference's first and the program's next free group are one. -/
theorem best_next {es : List Ev} {n : Nat} {G : Nat → Bool} {M : Nat → Nat → Bool} (ht : Told es n) (hM : ∀ a b : Nat, a < n → b < n → (M a b = true ↔ AheadEv es (a : Int) (b : Int))) {best : Int}
  (hb : BestAt (FreeAt n G M) (fun g => grpThread (g : Int) es) n best) : (best = -1 ∧ nextFree (stay (goneI G) es) = none) ∨ ∃ (b : Nat) (y : Ev), best = (b : Int) ∧ b < n ∧ G b = false ∧ nextFree (stay (goneI G) es) = some y ∧ y.group = (b : Int) := by
 have hmem : ∀ {y : Ev}, nextFree (stay (goneI G) es) = some y → ∃ g : Nat, y.group = (g : Int) ∧ g < n ∧ y ∈ es ∧ FreeAt n G M g := fun {y} hy => by
  have h1 := nextFree_mem hy
  have h2 := nextFree_free hy
  have h3 : y ∈ es := (List.mem_filter.1 h1).1
  have hin := ht.grp.in_ y h3
  have hyn : y.group = ((y.group.toNat : Nat) : Int) := by omega
  exact ⟨y.group.toNat, hyn, by omega, h3, (free_iff ht.grp hM (by omega)).2 ⟨y, h1, hyn, h2⟩⟩
 rcases hb with ⟨h1, h2⟩ | ⟨b, h1, h2, h3, h4⟩
 ·refine .inl ⟨h1, ?_⟩
  cases hy : nextFree (stay (goneI G) es) with
  | none => rfl
  | some y =>
   obtain ⟨g, -, hg, -, hF⟩ := hmem hy
   exact absurd hF (h2 g hg)
 ·right
  obtain ⟨e, he, hge, ha⟩ := (free_iff ht.grp hM h2).1 h3
  obtain ⟨y, hy, hf⟩ := nextFree_least he ha
  obtain ⟨g, hyg, hg, hye, hF⟩ := hmem hy
  refine ⟨b, y, h1, h2, h3.1, hy, ?_⟩
  have h5 := h4 g hg hF
  have he' : e ∈ es := (List.mem_filter.1 he).1
  have t1 : grpThread (b : Int) es = e.thread := by rw [← hge]; exact grpThread_mem ht.one he'
  have t2 : grpThread (g : Int) es = y.thread := by rw [← hyg]; exact grpThread_mem ht.one hye
  simp only at h5
  rw [t1, t2] at h5
  rw [first_iff] at hf
  omega

def setG (G : Nat → Bool) (g : Nat) : Nat → Bool := fun a => if a = g then true else G a

theorem countP_set (G : Nat → Bool) (g : Nat) (hG : G g = false) : ∀ n : Nat, (List.range n).countP (setG G g) = (List.range n).countP G + if g < n then 1 else 0
 | 0 => by simp
 | n + 1 => by
  rw [List.range_succ, List.countP_append, List.countP_append, countP_set G g hG n]
  simp only [List.countP_singleton]
  by_cases e : n = g
  ·subst e
   have h1 : setG G n n = true := by simp [setG]
   rw [h1, hG]
   simp
  ·have h1 : setG G g n = G n := by simp [setG, e]
   rw [h1]
   by_cases h2 : g < n
   ·have h3 : g < n + 1 := by omega
    rw [if_pos h2, if_pos h3]; omega
   ·have h3 : ¬ g < n + 1 := by omega
    rw [if_neg h2, if_neg h3]; omega

/-- The reference's round and the program's. -/
structure Lock (es : List Ev) (n : Nat) (G : Nat → Bool) (t : List Int) (k : Nat) : Prop where
 run : ∃ K, (stay (goneI G) es).length < K ∧ takeGo K (stay (goneI G) es) t = takeGroups es
 cnt : (List.range n).countP G = k

theorem stay_none (es : List Ev) : stay (goneI fun _ => false) es = es := by
 unfold stay
 rw [List.filter_eq_self]
 intro e _
 rfl

theorem Lock.start (es : List Ev) (n : Nat) : Lock es n (fun _ => false) [] 0 := by
 refine ⟨⟨es.length + 1, ?_, ?_⟩, ?_⟩
 ·rw [stay_none]; omega
 ·rw [stay_none]; rfl
 ·simp

theorem stay_set {es : List Ev} {n : Nat} (hg : Grp es n) (G : Nat → Bool) (g : Nat) : stay (goneI (setG G g)) es = leftOf (stay (goneI G) es) (g : Int) := by
 rw [stay_left]
 unfold stay
 apply List.filter_congr
 intro e he
 have := hg.in_ e he
 show (!(if e.group.toNat = g then true else G e.group.toNat)) = !(G e.group.toNat || e.group == (g : Int))
 by_cases h : e.group.toNat = g
 ·have h' : (e.group == (g : Int)) = true := by rw [beq_iff_eq]; omega
  rw [if_pos h, h']; simp
 ·have h' : (e.group == (g : Int)) = false := by rw [beq_eq_false_iff_ne]; omega
  rw [if_neg h, h']; simp

theorem Lock.next {es : List Ev} {n : Nat} {G : Nat → Bool} {t : List Int} {k : Nat} (h : Lock es n G t k) (hg : Grp es n) {b : Nat} {y : Ev} (hb : b < n) (hG : G b = false) (hy : nextFree (stay (goneI G) es) = some y) (hyb : y.group = (b : Int)) :
  Lock es n (setG G b) (t ++ takenOf es (b : Int)) (k + 1) := by
 obtain ⟨⟨K, h1, h2⟩, h3⟩ := h
 refine ⟨?_, ?_⟩
 ·cases K with
  | zero => omega
  | succ K =>
   rw [takeGo, hy] at h2
   refine ⟨K, ?_, ?_⟩
   ·rw [stay_set hg, ← hyb]
    have := left_shorter (nextFree_mem hy)
    omega
   ·rw [stay_set hg, ← stay_taken (goneI G) es (b : Int) (by rw [goneI_nat]; exact hG), ← hyb]
    exact h2
 ·rw [countP_set G b hG, h3, if_pos hb]

theorem Lock.left {es : List Ev} {n : Nat} {G : Nat → Bool} {t : List Int} {k : Nat} (h : Lock es n G t k) (hg : Grp es n) (hk : k < n) (hy : nextFree (stay (goneI G) es) = none) : (takeGroups es).2 ≠ [] := by
 obtain ⟨⟨K, h1, h2⟩, h3⟩ := h
 have : ∃ g, g < n ∧ G g = false := by
  by_cases hh : ∃ g, g < n ∧ G g = false
  ·exact hh
  ·exfalso
   have : (List.range n).countP G = (List.range n).length := List.countP_eq_length.2 fun a ha => by
    cases hGa : G a with
    | true => rfl
    | false => exact absurd ⟨a, List.mem_range.1 ha, hGa⟩ hh
   rw [List.length_range] at this
   omega
 obtain ⟨g, h4, h5⟩ := this
 obtain ⟨e, he, hge⟩ := hg.all g h4
 have hes : e ∈ stay (goneI G) es := by
  unfold stay
  rw [List.mem_filter]
  exact ⟨he, by rw [hge, goneI_nat, h5]; rfl⟩
 cases K with
 | zero => omega
 | succ K =>
  rw [takeGo, hy] at h2
  have h6 : stay (goneI G) es = (takeGroups es).2 := congrArg Prod.snd h2
  rw [← h6]
  intro hc
  rw [hc] at hes
  cases hes

theorem Lock.done {es : List Ev} {n : Nat} {G : Nat → Bool} {t : List Int} (h : Lock es n G t n) (hg : Grp es n) : takeGroups es = (t, []) := by
 obtain ⟨⟨K, h1, h2⟩, h3⟩ := h
 have hs : stay (goneI G) es = [] := by
  unfold stay
  rw [List.filter_eq_nil_iff]
  intro e he
  have hin := hg.in_ e he
  have : (List.range n).countP G = (List.range n).length := by rw [h3, List.length_range]
  have := List.countP_eq_length.1 this e.group.toNat (List.mem_range.2 (by omega))
  show ¬ (!(G e.group.toNat)) = true
  rw [this]; simp
 rw [hs] at h2
 rw [← h2]
 cases K with
 | zero => rfl
 | succ K => rfl

/-- If the schedule is atomic, there is a free group as long as one is left. -/
theorem Lock.some {es : List Ev} {n : Nat} {G : Nat → Bool} {t : List Int} {k : Nat} (h : Lock es n G t k) (hg : Grp es n) (hk : k < n) (ha : (takeGroups es).2 = []) : nextFree (stay (goneI G) es) ≠ none := fun hy => h.left hg hk hy ha

end Go.Proofs.YtfdafcnfefbcbabGreat
