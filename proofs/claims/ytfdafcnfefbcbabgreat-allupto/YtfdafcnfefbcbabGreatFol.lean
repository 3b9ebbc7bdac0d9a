/-
 Several texts of ours in one: FollowPl, Follow, Ready, End.
-/
import Derived.Test.YtfdafcnfefbcbabGreatBeg
import Derived.Deep.LoopGhost
/-
 Follow in plain terms, and how its variables lie in memory.
-/
namespace Go.Proofs.YtfdafcnfefbcbabGreat
open Go.RowKit
set_option linter.unusedVariables false
set_option maxRecDepth 100000
set_option maxHeartbeats 2000000

/-- A state's places as they are made. -/
abbrev z24 : Array Value := #[.int .i16 0, .int .i16 0, .int .i16 0, .int .i16 0, .int .i64 0, .bool false, .int .i16 0, .int .i64 0, .int .i64 0, .int .i64 0, .bool false, .int .i16 0, .int .i64 0, .int .i64 0, .int .i64 0, .bool false, .int .i16 0, .int .i64 0, .int .i64 0, .int .i64 0, .bool false, .int .i16 0, .int .i64 0, .int .i64 0]

/-- The run behind a schedule: the state, the events so far, the number of groups so far. -/
def follow (p : List (List Pl.POp)) : St → List Ev → Nat → List Int → Option (St × List Ev)
 | S, es, _, [] => some (S, es)
 | S, es, g, m :: ms => match step S p m with
  | none => none
  | some (S', e) => follow p S' (es ++ [⟨e.thread, e.kind, e.name, e.value, e.block, groupOf es e.thread e.block g⟩]) (if groupOf es e.thread e.block g = (g : Int) then g + 1 else g) ms

def posSum (S : St) : Nat := (S.th 0).pos + (S.th 1).pos + (S.th 2).pos + (S.th 3).pos

theorem settle_pos (r : List Pl.POp) : ∀ (k : Nat) (t : Th), t.pos ≤ (settle r k t).pos
 | 0, t => Nat.le_refl _
 | k + 1, t => by
  cases h : opAt t r with
  | none => rw [settle_none h]; exact Nat.le_refl _
  | some o =>
   cases hs : Pl.isShared o.kind with
   | true => rw [settle_shared h hs]; exact Nat.le_refl _
   | false =>
    rw [settle_own h hs]
    have := settle_pos r k (ownStep t r o)
    have := ownStep_pos (o := o) (opAt_lt h).1
    omega

theorem step_pos {S S' : St} {p : List (List Pl.POp)} {m : Int} {e : Ev} (h : step S p m = some (S', e)) : posSum S + 1 ≤ posSum S' := by
 unfold step at h
 split at h
 ·cases h
 ·rename_i o ho
  split at h
  ·obtain ⟨n, rfl, hn, hop⟩ := stOp_some ho
   simp only [Option.some.injEq, Prod.mk.injEq, Int.toNat_natCast] at h
   obtain ⟨rfl, -⟩ := h
   obtain ⟨h1, -, h3⟩ := shared_th S n o hn
   have hp := settle_pos (rowOf p n) ((rowOf p n).length + 1) ⟨((shared S n o).1.th n).pos + 1, ((shared S n o).1.th n).failed, ((shared S n o).1.th n).reg, ((shared S n o).1.th n).h0, ((shared S n o).1.th n).h1⟩
   simp only [h1] at hp
   unfold goneTo posSum
   rw [th_setTh _ _ _ hn 0 (by omega), th_setTh _ _ _ hn 1 (by omega), th_setTh _ _ _ hn 2 (by omega), th_setTh _ _ _ hn 3 (by omega)]
   have hh : n = 0 ∨ n = 1 ∨ n = 2 ∨ n = 3 := by omega
   rcases hh with rfl | rfl | rfl | rfl
   ·simp only [h3 1 (by omega) (by omega), h3 2 (by omega) (by omega), h3 3 (by omega) (by omega)] at hp ⊢
    simp [h1] at hp ⊢
    omega
   ·simp only [h3 0 (by omega) (by omega), h3 2 (by omega) (by omega), h3 3 (by omega) (by omega)] at hp ⊢
    simp [h1] at hp ⊢
    omega
   ·simp only [h3 0 (by omega) (by omega), h3 1 (by omega) (by omega), h3 3 (by omega) (by omega)] at hp ⊢
    simp [h1] at hp ⊢
    omega
   ·simp only [h3 0 (by omega) (by omega), h3 1 (by omega) (by omega), h3 2 (by omega) (by omega)] at hp ⊢
    simp [h1] at hp ⊢
    omega
  ·cases h

theorem posSum_le {w : World} {lo hi : Nat} {a : Option Addr} {cap : Nat} {p : List (List Pl.POp)} {S : St} (hp : ProgOk w lo hi a cap p) (hS : StOk S p) : posSum S ≤ 4000 := by
 have h0 := (hS 0 (by omega)).pos
 have h1 := (hS 1 (by omega)).pos
 have h2 := (hS 2 (by omega)).pos
 have h3 := (hS 3 (by omega)).pos
 have g0 := (hp.row ((0 : Nat) : Int)).1
 have g1 := (hp.row ((1 : Nat) : Int)).1
 have g2 := (hp.row ((2 : Nat) : Int)).1
 have g3 := (hp.row ((3 : Nat) : Int)).1
 unfold posSum
 omega

/-- A list of ints behind a slice. -/
def IntsIn (w : World) (a : Option Addr) (ms : List Int) : Prop :=
 0 < ms.length → ∃ g, a = some ⟨g, 0, none⟩ ∧ g < w.heap.size ∧ ∀ i m, ms[i]? = some m → w.cell? ⟨g, i, none⟩ = some (.int .i64 m)

theorem IntsIn.below {w w' : World} {a : Option Addr} {ms : List Int} (h : IntsIn w a ms) (hb : Below w.heap.size w w') : IntsIn w' a ms := fun h0 => by
 obtain ⟨g, e, hg, hc⟩ := h h0
 exact ⟨g, e, Nat.lt_of_lt_of_le hg hb.size, fun i m hm => (hb.cell (p := ⟨g, i, none⟩) hg).trans (hc i m hm)⟩

def intCells (l : List Int) : List Value := l.map fun m => .int .i64 m

theorem ints_of_owns {w : World} {lo : Nat} {a : Option Addr} {cap : Nat} {ms : List Int} (h : w.ownsRow lo 3 1 (.slice a ms.length cap) ms.length (intCells ms)) : IntsIn w a ms := fun h0 => by
 obtain ⟨g, rfl, -, hg, -, -, hc, -⟩ := owns_cells h h0
 exact ⟨g, rfl, hg, fun i m hm => hc i _ (by simp [intCells, hm])⟩

/-- How Follow's variables lie: the program, the result, the state; nothing before turned. -/
structure FolAt (w wr : World) (b : Nat) (S : St) (v : Value) : Prop where
 pr : wr.cell? ⟨w.heap.size, 0, none⟩ = some v
 r : ∀ j, wr.cell? ⟨w.heap.size + 1, j, none⟩ = (stL st0)[j]?
 rf : ∀ j, wr.frozen? ⟨w.heap.size + 1, j, none⟩ = false
 s : ∀ j, wr.cell? ⟨b, j, none⟩ = (stL S)[j]?
 sf : ∀ j, wr.frozen? ⟨b, j, none⟩ = false
 bl : Below w.heap.size w wr
 b0 : w.heap.size + 1 < b
 b1 : b < wr.heap.size

theorem FolAt.below {w wr wr' : World} {b : Nat} {S : St} {v : Value} {B : Nat} (h : FolAt w wr b S v) (hb : Below B wr wr') (hB : b < B) : FolAt w wr' b S v := by
 have hs := hb.size
 have h0 := h.b0
 exact ⟨(hb.cell (p := ⟨w.heap.size, 0, none⟩) (by show w.heap.size < B; omega)).trans h.pr, fun j => (hb.cell (p := ⟨w.heap.size + 1, j, none⟩) (by show w.heap.size + 1 < B; omega)).trans (h.r j),
   fun j => (hb.frozen (p := ⟨w.heap.size + 1, j, none⟩) (by show w.heap.size + 1 < B; omega)).trans (h.rf j), fun j => (hb.cell (p := ⟨b, j, none⟩) hB).trans (h.s j), fun j => (hb.frozen (p := ⟨b, j, none⟩) hB).trans (h.sf j),
   h.bl.trans (hb.mono (by omega)), h0, Nat.lt_of_lt_of_le h.b1 hb.size⟩

/-- A new state is laid into the state's variable. -/
theorem FolAt.put {w wr : World} {b : Nat} {S : St} {v : Value} (h : FolAt w wr b S v) (S' : St) : FolAt w (wr.setCells b 0 (stL S').toArray.toList) b S' v := by
 have h0 := h.b0
 have hth : wr.there b 0 24 := fun j hj => by
  rw [Nat.zero_add, h.s j, List.getElem?_eq_getElem (by rw [stL_length]; exact hj)]; exact ⟨rfl, h.sf j⟩
 refine ⟨(World.cell?_setCells_out _ _ _ _ _ (by intro e; simp at e; omega)).trans h.pr, fun j => (World.cell?_setCells_out _ _ _ _ _ (by intro e; simp at e; omega)).trans (h.r j), fun j => (World.frozen?_setCells _ _ _ _ _).trans (h.rf j), fun j => ?_, fun j => (World.frozen?_setCells _ _ _ _ _).trans (h.sf j),
   below_setCells _ (by omega) _ _ _ h.bl, h0, by rw [size_setCells]; exact h.b1⟩
 by_cases hj : j < 24
 ·have := World.rangeAt_setCells_same wr b 0 (stL S') (by rw [stL_length]; exact hth) j _ (List.getElem?_eq_getElem (by rw [stL_length]; exact hj))
  rw [Nat.zero_add] at this
  rw [List.getElem?_eq_getElem (by rw [stL_length]; exact hj)]
  simpa using this
 ·rw [World.cell?_setCells_out _ _ _ _ _ (by intro _ _; right; simp [stL_length]; omega), h.s j, List.getElem?_eq_none (by rw [stL_length]; omega), List.getElem?_eq_none (by rw [stL_length]; omega)]

/-- A row stays where blocks below it turn. -/
theorem owns_setCells {w : World} {lo : Nat} {e : TypeId} {size : Nat} {v : Value} {n : Nat} {xs : List Value} (h : w.ownsRow lo e size v n xs) (b : Nat) (hb : b < lo) : ∀ (vs : List Value) (o : Nat) (w' : World), (w'.ownsRow lo e size v n xs) → (w'.setCells b o vs).ownsRow lo e size v n xs
 | [], _, _, h' => h'
 | x :: vs, o, w', h' => owns_setCells h b hb vs (o + 1) _ (ownsRow_setCell_below h' (a := ⟨b, o, none⟩) hb x)

/-- What the two new variables of a round hold behind Step's answer. -/
def outW (w1 : World) (S' : St) : World := ((w1.alloc (.cells z24 108)).alloc (.cells #[.int .i64 0, .int .u8 0, .int .u8 0, .int .i16 0, .int .i64 0, .int .i64 0] 59)).setCells w1.heap.size 0 (stL S').toArray.toList

theorem outW_there (w1 : World) (S' : St) : ((w1.alloc (.cells z24 108)).alloc (.cells #[.int .i64 0, .int .u8 0, .int .u8 0, .int .i16 0, .int .i64 0, .int .i64 0] 59)).there w1.heap.size 0 (stL S').toArray.size := fun j hj => by
 have := new_there w1 j hj
 refine ⟨?_, ?_⟩
 ·rw [World.cell?_alloc_past _ _ _ (by simp)]; exact this.1
 ·rw [World.frozen?_of_block (w := w1.alloc (.cells z24 108)) (Below.heap_alloc _ _ _ (by simp))]; exact this.2

theorem outW_facts (w1 : World) (S' : St) : (∀ j, (outW w1 S').cell? ⟨w1.heap.size, j, none⟩ = (stL S')[j]?) ∧ (outW w1 S').cell? ⟨w1.heap.size + 1, 0, none⟩ = some (.int .i64 0) ∧ (outW w1 S').cell? ⟨w1.heap.size + 1, 1, none⟩ = some (.int .u8 0) ∧ (outW w1 S').cell? ⟨w1.heap.size + 1, 2, none⟩ = some (.int .u8 0)
  ∧ (outW w1 S').cell? ⟨w1.heap.size + 1, 3, none⟩ = some (.int .i16 0) ∧ (outW w1 S').cell? ⟨w1.heap.size + 1, 4, none⟩ = some (.int .i64 0) ∧ (outW w1 S').cell? ⟨w1.heap.size + 1, 5, none⟩ = some (.int .i64 0) ∧ (∀ j, (outW w1 S').frozen? ⟨w1.heap.size + 1, j, none⟩ = false) ∧ Below w1.heap.size w1 (outW w1 S') ∧ (outW w1 S').heap.size = w1.heap.size + 2 := by
 have hout : ∀ j, (outW w1 S').cell? ⟨w1.heap.size + 1, j, none⟩ = ((w1.alloc (.cells z24 108)).alloc (.cells #[.int .i64 0, .int .u8 0, .int .u8 0, .int .i16 0, .int .i64 0, .int .i64 0] 59)).cell? ⟨w1.heap.size + 1, j, none⟩ := fun j => World.cell?_setCells_out _ _ _ _ _ (by simp)
 refine ⟨fun j => ?_, ?_, ?_, ?_, ?_, ?_, ?_, fun j => ?_, ?_, ?_⟩
 ·unfold outW
  by_cases hj : j < 24
  ·have := World.rangeAt_setCells_same _ w1.heap.size 0 (stL S') (by have := outW_there w1 S'; simpa using this) j _ (List.getElem?_eq_getElem (by rw [stL_length]; exact hj))
   rw [Nat.zero_add] at this
   rw [List.getElem?_eq_getElem (by rw [stL_length]; exact hj)]
   simpa using this
  ·rw [World.cell?_setCells_out _ _ _ _ _ (by intro _ _; right; simp [stL_length]; omega), World.cell?_alloc_past _ _ _ (by simp), List.getElem?_eq_none (by rw [stL_length]; omega)]
   have := box_cell w1 st0 j
   rw [List.getElem?_eq_none (by rw [stL_length]; omega)] at this
   exact this
 ·rw [hout]; simp [go_sem]
 ·rw [hout]; simp [go_sem]
 ·rw [hout]; simp [go_sem]
 ·rw [hout]; simp [go_sem]
 ·rw [hout]; simp [go_sem]
 ·rw [hout]; simp [go_sem]
 ·unfold outW; rw [World.frozen?_setCells, World.frozen?_alloc_at _ _ _ _ (by simp)]
 ·exact below_setCells _ (Nat.le_refl _) _ _ _ (two_new w1 _ _)
 ·unfold outW; rw [size_setCells]; simp

theorem outW_there2 (w1 : World) (S' : St) : (outW w1 S').there (w1.heap.size + 1) 0 6 := fun j hj => by
 obtain ⟨-, x0, x1, x2, x3, x4, x5, xf, -, -⟩ := outW_facts w1 S'
 have : j = 0 ∨ j = 1 ∨ j = 2 ∨ j = 3 ∨ j = 4 ∨ j = 5 := by omega
 refine ⟨?_, xf _⟩
 rcases this with rfl | rfl | rfl | rfl | rfl | rfl
 ·rw [x0]; rfl
 ·rw [x1]; rfl
 ·rw [x2]; rfl
 ·rw [x3]; rfl
 ·rw [x4]; rfl
 ·rw [x5]; rfl

theorem outE_facts (w1 : World) (S' : St) (vs : List Value) (hv : vs.length = 6) : (∀ j, ((outW w1 S').setCells (w1.heap.size + 1) 0 vs).cell? ⟨w1.heap.size, j, none⟩ = (stL S')[j]?) ∧ ((outW w1 S').setCells (w1.heap.size + 1) 0 vs).rangeAt (w1.heap.size + 1) 0 vs ∧
  (∀ j, ((outW w1 S').setCells (w1.heap.size + 1) 0 vs).frozen? ⟨w1.heap.size + 1, j, none⟩ = false) ∧ Below w1.heap.size w1 ((outW w1 S').setCells (w1.heap.size + 1) 0 vs) ∧ ((outW w1 S').setCells (w1.heap.size + 1) 0 vs).heap.size = w1.heap.size + 2 := by
 obtain ⟨ho, x0, x1, x2, x3, x4, x5, xf, xb, xz⟩ := outW_facts w1 S'
 refine ⟨fun j => ?_, World.rangeAt_setCells_same _ _ _ _ (by rw [hv]; exact outW_there2 w1 S'), fun j => ?_, below_setCells _ (by omega) _ _ _ xb, by rw [size_setCells]; exact xz⟩
 ·rw [cell_out (by omega)]; exact ho j
 ·rw [World.frozen?_setCells]; exact xf j

theorem Tryz.info59 : (Tryz.prog.info? 59).map (fun i => (i.zero, i.size, i.bytes)) = some (some (.agg #[.int .i64 0, .int .u8 0, .int .u8 0, .int .i16 0, .int .i64 0, .int .i64 0]), 6, 32) := by kernel_rfl

/-- Three results, the first of them a state in memory. -/
theorem ret_state3 {fn : Func} {p u v : Tmp} (h : fn.results = #[.cell p 108, .tmp u, .tmp v]) (tmps : Array Value) (F : World) (b : Nat) (S : St) (hp : tmps.getD p undef = .pointer (some ⟨b, 0, none⟩)) (hr : F.rangeAt b 0 (stL S)) :
  (results fn tmps).run Tryz.prog F = .ok (.tuple #[.agg (stL S).toArray, tmps.getD u undef, tmps.getD v undef]) F := by
 have hl := run_loadVar_mid (P := Tryz.prog) F b 0 108 _ _ hr Tryz.underlying108 rfl Tryz.size108
 have hp' : tmps[p]?.getD undef = .pointer (some ⟨b, 0, none⟩) := by simpa using hp
 simp [results, h, hp', asAddr, hl]

structure FolInv (p : List (List Pl.POp)) (ms : List Int) (w wr : World) (b : Nat) (v : Value) (i : Nat) (S : St) (es : List Ev) (g : Nat) (ea : Option Addr) (ecap : Nat) : Prop where
 at_ : FolAt w wr b S v
 own : wr.ownsRow (b + 1) 59 6 (.slice ea es.length ecap) es.length (evCells es)
 ok : StOk S p
 len : es.length = i
 gle : g ≤ i
 pos : es.length ≤ posSum S
 fol : follow p (beginTo p 4) [] 0 ms = follow p S es g (ms.drop i)

def FollowSays (p : List (List Pl.POp)) (ms : List Int) (w : World) (e : Ending) (w' : World) : Prop :=
 Below w.heap.size w w' ∧ match follow p (beginTo p 4) [] 0 ms with
 | none => e = .returned (.tuple #[.agg (stL st0).toArray, .slice none 0 0, .bool false])
 | some (S, es) => ∃ ea ecap, e = .returned (.tuple #[.agg (stL S).toArray, .slice ea es.length ecap, .bool true]) ∧ w'.ownsRow w.heap.size 59 6 (.slice ea es.length ecap) es.length (evCells es)

theorem stepV_form (x : Option (St × Ev)) : ∃ S' t k n vv b g c, stepV x = .tuple #[.agg (stL S').toArray, .agg #[.int .i64 t, .int .u8 k, .int .u8 n, .int .i16 vv, .int .i64 b, .int .i64 g], .bool c] ∧
  (c = false → x = none) ∧ (c = true → ∃ k' n' : Nat, k = (k' : Int) ∧ n = (n' : Int) ∧ x = some (S', ⟨t, k', n', vv, b, g⟩)) := by
 match x with
 | none => exact ⟨st0, 0, 0, 0, 0, 0, 0, false, rfl, fun _ => rfl, (fun h => by cases h)⟩
 | some (S', ⟨t, k, n, vv, b, g⟩) => exact ⟨S', t, k, n, vv, b, g, true, rfl, (fun h => by cases h), fun _ => ⟨k, n, rfl, rfl, rfl⟩⟩

theorem follow_any (p : List (List Pl.POp)) (a : Option Addr) (cap lo hi : Nat) (ms : List Int) (sa : Option Addr) (scap : Nat) (w : World) (hp : ProgOk w lo hi a cap p) (hm : IntsIn w sa ms) (hlen : ms.length ≤ maxLen) :
  Calls Tryz.prog 31 #[.agg #[.slice a p.length cap], .slice sa ms.length scap] w fun e w' => FollowSays p ms w e w' := by
 have HP : Hid (ProgOk w lo hi a cap p) := hp
 have HM : Hid (IntsIn w sa ms) := hm
 clear hp hm
 unfold maxLen at hlen
 obtain ⟨i0, hi0, hz0, hz1, hz2⟩ := info_parts Tryz.info59
 go_enter Tryz.func31, Tryz.ntmps31
 go_upto_region 1 with fail
 have hw0 : ((w.alloc (.cells #[.slice a p.length cap] 71)).alloc (.cells z24 108)).cell? ⟨w.heap.size, 0, none⟩ = some (.slice a p.length cap) := by
  show ((w.alloc (.cells #[.slice a p.length cap] 71)).alloc (.cells (stL st0).toArray 108)).cell? ⟨w.heap.size, 0, none⟩ = _
  rw [World.cell?_alloc_past _ _ _ (by simp)]; simp
 have hwr : ∀ j, ((w.alloc (.cells #[.slice a p.length cap] 71)).alloc (.cells z24 108)).cell? ⟨w.heap.size + 1, j, none⟩ = (stL st0)[j]? := fun j => by
  have := box_cell (w.alloc (.cells #[.slice a p.length cap] 71)) st0 j
  rw [World.size_alloc] at this
  exact this
 have hwf : ∀ j, ((w.alloc (.cells #[.slice a p.length cap] 71)).alloc (.cells z24 108)).frozen? ⟨w.heap.size + 1, j, none⟩ = false := fun j => by
  show ((w.alloc (.cells #[.slice a p.length cap] 71)).alloc (.cells (stL st0).toArray 108)).frozen? _ = _
  rw [World.frozen?_alloc_at _ _ _ _ (by simp)]
 have hwz : ((w.alloc (.cells #[.slice a p.length cap] 71)).alloc (.cells z24 108)).heap.size = w.heap.size + 2 := by simp
 have hwb : Below w.heap.size w ((w.alloc (.cells #[.slice a p.length cap] 71)).alloc (.cells z24 108)) := two_new w _ _
 generalize ((w.alloc (.cells #[.slice a p.length cap] 71)).alloc (.cells z24 108)) = W at *
 have HWR : Hid _ := hwr
 have HWF : Hid _ := hwf
 have HWZ : Hid _ := hwz
 clear hwr hwf hwz
 go_wp2_with fail
 refine (begin_any p a cap lo hi _ (HP.out.below hwb HP.out.size)).mono ?_
 rintro e w1 ⟨rfl, hb1⟩
 have hXt : (w1.alloc (.cells z24 108)).there w1.heap.size 0 (stL (beginTo p 4)).toArray.size := new_there w1
 have HX : Hid (∀ j, ((w1.alloc (.cells z24 108)).setCells w1.heap.size 0 (stL (beginTo p 4)).toArray.toList).cell? ⟨w1.heap.size, j, none⟩ = (stL (beginTo p 4))[j]?) := new_all w1 _
 have HXF : Hid (∀ j, ((w1.alloc (.cells z24 108)).setCells w1.heap.size 0 (stL (beginTo p 4)).toArray.toList).frozen? ⟨w1.heap.size, j, none⟩ = false) := new_frozen w1 _
 have HXB : Hid (Below w1.heap.size w1 ((w1.alloc (.cells z24 108)).setCells w1.heap.size 0 (stL (beginTo p 4)).toArray.toList)) := new_below w1 _
 have HXZ : Hid (((w1.alloc (.cells z24 108)).setCells w1.heap.size 0 (stL (beginTo p 4)).toArray.toList).heap.size = w1.heap.size + 1) := by show _ = _; rw [size_setCells]; simp
 have HXT : Hid _ := hXt
 clear hXt
 go_upto_region 2 with (first | (refine wpList_store_mid rfl 108 _ _ rfl w1.heap.size 0 (stL (beginTo p 4)).toArray rfl rfl (by exact HXT.out) Tryz.size108 (all_oneCell_toArray (stL_one _)) ?_; generalize ((w1.alloc (.cells z24 108)).setCells w1.heap.size 0 (stL (beginTo p 4)).toArray.toList) = X at *))
 have HF0 : Hid (FolAt w X w1.heap.size (beginTo p 4) (.slice a p.length cap)) := by
  have z1 := hb1.size
  have z2 := HWZ.out
  have z3 := HXZ.out
  have hbX := hb1.trans (HXB.out.mono hb1.size)
  exact ⟨(hbX.cell (p := ⟨w.heap.size, 0, none⟩) (show w.heap.size < W.heap.size by omega)).trans hw0, fun j => (hbX.cell (p := ⟨w.heap.size + 1, j, none⟩) (show w.heap.size + 1 < W.heap.size by omega)).trans (HWR.out j),
    fun j => (hbX.frozen (p := ⟨w.heap.size + 1, j, none⟩) (show w.heap.size + 1 < W.heap.size by omega)).trans (HWF.out j), HX.out, HXF.out, hwb.trans (hbX.mono hwb.size), by omega, by omega⟩
 clear hw0 hwb HWR HWF HWZ HX HXF HXB HXZ HXT hb1
 go_wp2_with fail
 generalize w1.heap.size = b at *
 go_loopw [8, 9, 19] (fun e' g' t' wr => ∃ (i : Nat) (S : St) (es : List Ev) (g : Nat) (ea : Option Addr) (ecap : Nat), i ≤ ms.length ∧ t' = .int .i64 (i : Int) ∧ g' = .int .i64 (g : Int) ∧ e' = .slice ea es.length ecap ∧ Hid (FolInv p ms w wr b (.slice a p.length cap) i S es g ea ecap)) (fun _ _ t' _ => ms.length - (intOf t').toNat)
 case atStart => exact ⟨0, beginTo p 4, [], 0, none, 0, Nat.zero_le _, rfl, rfl, rfl, ⟨HF0.out, World.ownsRow_nil _ _ _ _, begin_ok p, rfl, Nat.le_refl _, Nat.zero_le _, rfl⟩⟩
 case round =>
  obtain ⟨i, S, es, g, ea, ecap, hil, rfl, rfl, rfl, HH⟩ := hrel
  by_cases hlt : i < ms.length
  ·have pr := HH.out.at_.pr
   have hr := range_of_all HH.out.at_.s
   obtain ⟨gb, rfl, hgb, hgc⟩ := HM.out (by omega)
   have c0 : wr.cell? ⟨gb, i, none⟩ = some (.int .i64 ms[i]) := (HH.out.at_.bl.cell (p := ⟨gb, i, none⟩) hgb).trans (hgc i _ (List.getElem?_eq_getElem hlt))
   have HD : Hid (ms.drop i = ms[i] :: ms.drop (i + 1)) := List.drop_eq_getElem_cons hlt
   clear hgb hgc
   generalize ms[i] = m at *
   go_wp2_with (first | refine wpList_load_mid rfl 108 _ rfl b 0 rfl (stL S) _ hr Tryz.underlying108 rfl Tryz.size108 ?_)
   refine (step_any S p a cap lo hi m _ (HP.out.below HH.out.at_.bl HP.out.size) HH.out.ok).mono ?_
   rintro e w2 ⟨rfl, hb2⟩
   obtain ⟨S', t, k, n, vv, bk, gr, c, hV, hF, hT⟩ := stepV_form (step S p m)
   rw [hV]
   have HF : Hid _ := hF
   have HT : Hid _ := hT
   clear hV hF hT c0 pr hr
   have hF2 : Hid (FolAt w w2 b S (.slice a p.length cap)) := HH.out.at_.below hb2 HH.out.at_.b1
   have HTH : Hid (World.there ((w2.alloc (.cells z24 108)).alloc (.cells #[.int .i64 0, .int .u8 0, .int .u8 0, .int .i16 0, .int .i64 0, .int .i64 0] 59)) w2.heap.size 0 (stL S').toArray.size) := outW_there w2 S'
   have HTE : Hid (World.there (((w2.alloc (.cells z24 108)).alloc (.cells #[.int .i64 0, .int .u8 0, .int .u8 0, .int .i16 0, .int .i64 0, .int .i64 0] 59)).setCells w2.heap.size 0 (stL S').toArray.toList) (w2.heap.size + 1) 0 #[Value.int .i64 t, .int .u8 k, .int .u8 n, .int .i16 vv, .int .i64 bk, .int .i64 gr].size) := outW_there2 w2 S'
   have HY : Hid (_ ∧ _) := outE_facts w2 S' #[Value.int .i64 t, .int .u8 k, .int .u8 n, .int .i16 vv, .int .i64 bk, .int .i64 gr].toList rfl
   unfold outW at HY
   go_upto_region 8 with (first | (refine wpList_store_mid rfl 108 _ _ rfl w2.heap.size 0 (stL S').toArray rfl rfl (by exact HTH.out) Tryz.size108 (all_oneCell_toArray (stL_one _)) ?_; refine wpList_store_mid rfl 59 _ _ rfl (w2.heap.size + 1) 0 #[Value.int .i64 t, .int .u8 k, .int .u8 n, .int .i16 vv, .int .i64 bk, .int .i64 gr] rfl rfl (by exact HTE.out) Tryz.size59 (by simp [Value.oneCell']) ?_; generalize (((w2.alloc (.cells z24 108)).alloc (.cells #[.int .i64 0, .int .u8 0, .int .u8 0, .int .i16 0, .int .i64 0, .int .i64 0] 59)).setCells w2.heap.size 0 (stL S').toArray.toList).setCells (w2.heap.size + 1) 0 #[Value.int .i64 t, .int .u8 k, .int .u8 n, .int .i16 vv, .int .i64 bk, .int .i64 gr].toList = Y at *))
   obtain ⟨ys, ye, yf, yb, yz⟩ := HY.out
   have HFY : Hid (FolAt w Y b S (.slice a p.length cap)) := hF2.out.below yb hF2.out.b1
   have HYS : Hid _ := ys
   have HYE : Hid _ := ye
   have HYF : Hid _ := yf
   have HYB : Hid _ := yb
   have HYZ : Hid _ := yz
   clear ys ye yf yb yz HY HTH HTE
   cases c
   ·have HN : Hid (step S p m = none) := HF.out rfl
    clear HF HT
    have hth : Y.there (w.heap.size + 1) 0 (stL st0).toArray.size := fun j hj => by
     rw [Nat.zero_add, HFY.out.r j, List.getElem?_eq_getElem (by simpa using hj)]; exact ⟨rfl, HFY.out.rf j⟩
    go_wp2_with (first | refine wpList_store_mid rfl 108 _ _ rfl (w.heap.size + 1) 0 (stL st0).toArray rfl rfl hth Tryz.size108 (all_oneCell_toArray (stL_one _)) ?_)
    refine bodyPost_ret (v := .tuple #[.agg (stL st0).toArray, .slice none 0 0, .bool false]) (ret_state3 Tryz.results31 _ _ (w.heap.size + 1) _ rfl (World.rangeAt_setCells_same _ _ _ _ (by simpa using hth))) rfl ⟨below_setCells _ (by omega) _ _ _ HFY.out.bl, ?_⟩
    have hfn : follow p (beginTo p 4) [] 0 ms = none := by rw [HH.out.fol, HD.out, follow, HN.out]
    rw [hfn]
   ·obtain ⟨k', n', rfl, rfl, hst⟩ := HT.out rfl
    have HST : Hid _ := hst
    clear hst HT HF
    have hrY := range_of_all HYS.out
    have hth : Y.there b 0 (stL S').toArray.size := fun j hj => by
     have hj' : j < 24 := by simpa [stL_length] using hj
     rw [Nat.zero_add, HFY.out.s j, List.getElem?_eq_getElem (by rw [stL_length]; exact hj')]; exact ⟨rfl, HFY.out.sf j⟩
    have HFZ : Hid _ := HFY.out.put S'
    have hb0 := hF2.out.b1
    have HOW2 : Hid (w2.ownsRow (b + 1) 59 6 (.slice ea es.length ecap) es.length (evCells es)) := ((ownsRow_in HH.out.own).below hb2).1
    have HOY : Hid (Y.ownsRow (b + 1) 59 6 (.slice ea es.length ecap) es.length (evCells es)) := ((ownsRow_in HOW2.out).below HYB.out).1
    have HOZ : Hid ((Y.setCells b 0 (stL S').toArray.toList).ownsRow (b + 1) 59 6 (.slice ea es.length ecap) es.length (evCells es)) := owns_setCells HOY.out b (by omega) _ _ _ HOY.out
    have HZE : Hid (∀ j v, [Value.int .i64 t, .int .u8 (k' : Int), .int .u8 (n' : Int), .int .i16 vv, .int .i64 bk, .int .i64 gr][j]? = some v → (Y.setCells b 0 (stL S').toArray.toList).cell? ⟨w2.heap.size + 1, j, none⟩ = some v) := fun j v hv => by
     rw [cell_out (by omega)]; have := HYE.out j v hv; rwa [Nat.zero_add] at this
    have HZF : Hid (∀ j, (Y.setCells b 0 (stL S').toArray.toList).frozen? ⟨w2.heap.size + 1, j, none⟩ = false) := fun j => by rw [World.frozen?_setCells]; exact HYF.out j
    have HZZ : Hid ((Y.setCells b 0 (stL S').toArray.toList).heap.size = w2.heap.size + 2) := by show _ = _; rw [size_setCells]; exact HYZ.out
    go_upto_region 11 with (first | refine wpList_load_mid rfl 108 _ rfl w2.heap.size 0 rfl (stL S') _ hrY Tryz.underlying108 rfl Tryz.size108 ?_ | (refine wpList_store_mid rfl 108 _ _ rfl b 0 (stL S').toArray rfl rfl hth Tryz.size108 (all_oneCell_toArray (stL_one _)) ?_; generalize Y.setCells b 0 (stL S').toArray.toList = Z at *))
    clear hrY hth HFY HYS HYE HYF HYB HYZ HOY
    have z0 := HZE.out 0 _ rfl
    have z1 := HZE.out 1 _ rfl
    have z2 := HZE.out 2 _ rfl
    have z3 := HZE.out 3 _ rfl
    have z4 := HZE.out 4 _ rfl
    have z5 := HZE.out 5 _ rfl
    have zz := HZZ.out
    have hlen2 : Hid (es.length + 1 ≤ 4000) := by
     have h1 := posSum_le HP.out (step_ok HH.out.ok HST.out)
     have h2 := step_pos HST.out
     have h3 := HH.out.pos
     show es.length + 1 ≤ 4000
     omega
    clear zz
    go_wp2_with fail
    refine (groupOf_any es ea ecap (b + 1) t k' n' vv bk gr (g : Int) _ HOZ.out (by have := hlen2.out; omega)).mono ?_
    rintro e w3 ⟨rfl, hb3⟩
    have lt3 : w2.heap.size + 1 < Z.heap.size := by have := HZZ.out; omega
    have v0 := (hb3.cell (p := ⟨w2.heap.size + 1, 0, none⟩) lt3).trans z0
    have v1 := (hb3.cell (p := ⟨w2.heap.size + 1, 1, none⟩) lt3).trans z1
    have v2 := (hb3.cell (p := ⟨w2.heap.size + 1, 2, none⟩) lt3).trans z2
    have v3 := (hb3.cell (p := ⟨w2.heap.size + 1, 3, none⟩) lt3).trans z3
    have v4 := (hb3.cell (p := ⟨w2.heap.size + 1, 4, none⟩) lt3).trans z4
    have v5 := (hb3.cell (p := ⟨w2.heap.size + 1, 5, none⟩) lt3).trans z5
    have vf := (hb3.frozen (p := ⟨w2.heap.size + 1, 5, none⟩) lt3).trans (HZF.out 5)
    clear z0 z1 z2 z3 z4 z5
    have HF3 : Hid _ := HFZ.out.below hb3 HFZ.out.b1
    have HO3 : Hid _ := ((ownsRow_in HOZ.out).below hb3).1
    have HZ3 : Hid (w2.heap.size + 1 < w3.heap.size) := Nat.lt_of_lt_of_le lt3 hb3.size
    clear lt3 HFZ HOZ HZE HZF HZZ hb3 hb2
    have HG : Hid (follow p (beginTo p 4) [] 0 ms = follow p S' (es ++ [⟨t, k', n', vv, bk, groupOf es t bk g⟩]) (if groupOf es t bk g = (g : Int) then g + 1 else g) (ms.drop (i + 1))) := by
     show _ = _
     rw [HH.out.fol, HD.out, follow, HST.out]
    have HPS : Hid _ := step_pos HST.out
    have HOK : Hid _ := step_ok HH.out.ok HST.out
    generalize groupOf es t bk (g : Int) = g' at *
    go_upto_region 12 with fail
    have c0 : (w3.setCell ⟨w2.heap.size + 1, 5, none⟩ (.int .i64 g')).cell? ⟨w2.heap.size + 1, 0, none⟩ = some (.int .i64 t) := (World.cell?_setCell_other _ _ _ _ (by simp)).trans v0
    have c1 : (w3.setCell ⟨w2.heap.size + 1, 5, none⟩ (.int .i64 g')).cell? ⟨w2.heap.size + 1, 1, none⟩ = some (.int .u8 (k' : Int)) := (World.cell?_setCell_other _ _ _ _ (by simp)).trans v1
    have c2 : (w3.setCell ⟨w2.heap.size + 1, 5, none⟩ (.int .i64 g')).cell? ⟨w2.heap.size + 1, 2, none⟩ = some (.int .u8 (n' : Int)) := (World.cell?_setCell_other _ _ _ _ (by simp)).trans v2
    have c3 : (w3.setCell ⟨w2.heap.size + 1, 5, none⟩ (.int .i64 g')).cell? ⟨w2.heap.size + 1, 3, none⟩ = some (.int .i16 vv) := (World.cell?_setCell_other _ _ _ _ (by simp)).trans v3
    have c4 : (w3.setCell ⟨w2.heap.size + 1, 5, none⟩ (.int .i64 g')).cell? ⟨w2.heap.size + 1, 4, none⟩ = some (.int .i64 bk) := (World.cell?_setCell_other _ _ _ _ (by simp)).trans v4
    have c5 : (w3.setCell ⟨w2.heap.size + 1, 5, none⟩ (.int .i64 g')).cell? ⟨w2.heap.size + 1, 5, none⟩ = some (.int .i64 g') := World.cell?_setCell_same _ _ _ v5
    have HFV : Hid (FolAt w (w3.setCell ⟨w2.heap.size + 1, 5, none⟩ (.int .i64 g')) b S' (.slice a p.length cap)) := HF3.out.below ((Below.refl (b + 1) w3).setCell (p := ⟨w2.heap.size + 1, 5, none⟩) (show b + 1 ≤ w2.heap.size + 1 by omega) _) (Nat.lt_succ_self b)
    have HOV : Hid ((w3.setCell ⟨w2.heap.size + 1, 5, none⟩ (.int .i64 g')).ownsRow (b + 1) 59 6 (.slice ea es.length ecap) es.length (evCells es)) := (OwnsIn.below (hi := w2.heap.size) ⟨HO3.out, fun x hx => (HOW2.out.lt x hx).2⟩ ((Below.refl _ w3).setCell (p := ⟨w2.heap.size + 1, 5, none⟩) (show w2.heap.size ≤ w2.heap.size + 1 by omega) _)).1
    generalize w3.setCell ⟨w2.heap.size + 1, 5, none⟩ (.int .i64 g') = V at *
    clear v0 v1 v2 v3 v4 v5 vf HF3 HO3 HZ3 HOW2 HST HD hF2 hb0
    have hgl := HH.out.gle
    have hll := HH.out.len
    have hvb := HFV.out.b1
    have HIN : Hid (∀ gg cap1 w5 g2, w5.ownsRow (b + 1) 59 6 (.slice (some ⟨gg, 0, none⟩) (es.length + 1) cap1) (es.length + 1) (evCells es ++ [Value.int .i64 t, .int .u8 (k' : Int), .int .u8 (n' : Int), .int .i16 vv, .int .i64 bk, .int .i64 g']) → (V.alloc (.cells #[Value.int .i64 t, .int .u8 (k' : Int), .int .u8 (n' : Int), .int .i16 vv, .int .i64 bk, .int .i64 g'] 59)).grownBy w5 (Value.slice ea es.length ecap).ownBlock → g2 = (if g' = (g : Int) then g + 1 else g) → FolInv p ms w w5 b (.slice a p.length cap) (i + 1) S' (es ++ [⟨t, k', n', vv, bk, g'⟩]) g2 (some ⟨gg, 0, none⟩) cap1) := by
     intro gg cap1 w5 g2 hown hgrow hg2
     have hps := HPS.out
     have hpo := HH.out.pos
     refine ⟨HFV.out.below (Below.grown ((Below.refl (b + 1) V).alloc (by omega) _) hgrow (by simp; omega) (fun x hx => (HOV.out.lt x hx).1)) (Nat.lt_succ_self b), by simpa [evCells_append, evCells, Ev.cells] using hown, HOK.out, by simp; omega, by rw [hg2]; split <;> omega, by simp; omega, by rw [hg2]; exact HG.out⟩
    by_cases hgg : g' = (g : Int)
    ·have e1 : (g' == (g : Int)) = true := by simpa using hgg
     have HGG : Hid (_ = if g' = (g : Int) then g + 1 else g) := (if_pos hgg).symm
     clear hgg
     go_wp2_with (first | (refine wpList_append_lies _ rfl _ _ _ rfl (b + 1) 59 i0 _ 6 32 Tryz.underlying53 hi0 hz0 hz1 hz2 rfl (by omega) (.slice ea es.length ecap) es.length (evCells es) rfl (HOV.out.alloc _) ⟨V.heap.size, 0, none⟩ 1 1 [Value.int .i64 t, .int .u8 (k' : Int), .int .u8 (n' : Int), .int .i16 vv, .int .i64 bk, .int .i64 g'] rfl rfl (World.news_of_block (cs := #[Value.int .i64 t, .int .u8 (k' : Int), .int .u8 (n' : Int), .int .i16 vv, .int .i64 bk, .int .i64 g']) (t := 59) (fr := (0, 0)) (heap_alloc_new V _)) (by simp [Value.oneCell']) (by omega) (by have := hlen2.out; unfold maxLen; omega) (by have := hlen2.out; omega) (by simp; omega) (V.heap.size + 1) (by simp) ?_; intro gg cap1 w5 hown hgrow hat hlt5))
     go_roundw
     case rel => exact ⟨i + 1, S', es ++ [Ev.mk t k' n' vv bk g'], g + 1, some ⟨gg, 0, none⟩, cap1, by omega, by go_num, by go_num, by simp; omega, (show Hid _ from HIN.out gg cap1 w5 _ hown hgrow HGG.out)⟩
     case measure => simp [intOf]; omega
    ·have e1 : (g' == (g : Int)) = false := by simpa using hgg
     have HGG : Hid (_ = if g' = (g : Int) then g + 1 else g) := (if_neg hgg).symm
     clear hgg
     go_wp2_with (first | (refine wpList_append_lies _ rfl _ _ _ rfl (b + 1) 59 i0 _ 6 32 Tryz.underlying53 hi0 hz0 hz1 hz2 rfl (by omega) (.slice ea es.length ecap) es.length (evCells es) rfl (HOV.out.alloc _) ⟨V.heap.size, 0, none⟩ 1 1 [Value.int .i64 t, .int .u8 (k' : Int), .int .u8 (n' : Int), .int .i16 vv, .int .i64 bk, .int .i64 g'] rfl rfl (World.news_of_block (cs := #[Value.int .i64 t, .int .u8 (k' : Int), .int .u8 (n' : Int), .int .i16 vv, .int .i64 bk, .int .i64 g']) (t := 59) (fr := (0, 0)) (heap_alloc_new V _)) (by simp [Value.oneCell']) (by omega) (by have := hlen2.out; unfold maxLen; omega) (by have := hlen2.out; omega) (by simp; omega) (V.heap.size + 1) (by simp) ?_; intro gg cap1 w5 hown hgrow hat hlt5))
     go_roundw
     case rel => exact ⟨i + 1, S', es ++ [Ev.mk t k' n' vv bk g'], g, some ⟨gg, 0, none⟩, cap1, by omega, by go_num, by go_num, by simp; omega, (show Hid _ from HIN.out gg cap1 w5 _ hown hgrow HGG.out)⟩
     case measure => simp [intOf]; omega
  ·have hr := range_of_all HH.out.at_.s
   have hth : wr.there (w.heap.size + 1) 0 (stL S).toArray.size := fun j hj => by
    have hj' : j < 24 := by simpa [stL_length] using hj
    rw [Nat.zero_add, HH.out.at_.r j, List.getElem?_eq_getElem (by rw [stL_length]; exact hj')]; exact ⟨rfl, HH.out.at_.rf j⟩
   go_wp2_with (first | refine wpList_load_mid rfl 108 _ rfl b 0 rfl (stL S) _ hr Tryz.underlying108 rfl Tryz.size108 ?_ | refine wpList_store_mid rfl 108 _ _ rfl (w.heap.size + 1) 0 (stL S).toArray rfl rfl hth Tryz.size108 (all_oneCell_toArray (stL_one _)) ?_)
   refine bodyPost_ret (v := .tuple #[.agg (stL S).toArray, .slice ea es.length ecap, .bool true]) (ret_state3 Tryz.results31 _ _ (w.heap.size + 1) _ rfl (World.rangeAt_setCells_same _ _ _ _ (by simpa using hth))) rfl ⟨below_setCells _ (by omega) _ _ _ HH.out.at_.bl, ?_⟩
   have hfn : follow p (beginTo p 4) [] 0 ms = some (S, es) := by rw [HH.out.fol, List.drop_eq_nil_of_le (by omega)]; rfl
   rw [hfn]
   have hb0 := HH.out.at_.b0
   exact ⟨ea, ecap, rfl, ((ownsRow_in (owns_setCells HH.out.own (w.heap.size + 1) (by omega) (stL S).toArray.toList 0 wr HH.out.own)).mono (by omega) (Nat.le_refl _)).1⟩

theorem Tryz.info3 : (Tryz.prog.info? 3).map (fun i => (i.zero, i.size, i.bytes)) = some (some (.int .i64 0), 1, 8) := by kernel_rfl

/-- The threads up to number k that can step. -/
def readyTo (S : St) (p : List (List Pl.POp)) : Nat → List Int
 | 0 => []
 | k + 1 => if canStep S p (k : Int) then readyTo S p k ++ [(k : Int)] else readyTo S p k

theorem readyTo_length (S : St) (p : List (List Pl.POp)) : ∀ k, (readyTo S p k).length ≤ k
 | 0 => Nat.le_refl _
 | k + 1 => by
  have := readyTo_length S p k
  unfold readyTo
  split
  ·simp; omega
  ·omega

structure ReadyAt (S : St) (p : List (List Pl.POp)) (v : Value) (w wr : World) (k : Nat) (ra : Option Addr) (rcap : Nat) : Prop where
 own : wr.ownsRow (w.heap.size + 2) 3 1 (.slice ra (readyTo S p k).length rcap) (readyTo S p k).length (intCells (readyTo S p k))
 st : ∀ j, wr.cell? ⟨w.heap.size, j, none⟩ = (stL S)[j]?
 pr : wr.cell? ⟨w.heap.size + 1, 0, none⟩ = some v
 bl : Below w.heap.size w wr
 size : w.heap.size + 2 ≤ wr.heap.size

theorem ReadyAt.grown {S : St} {p : List (List Pl.POp)} {v : Value} {w wr wr' : World} {k : Nat} {ra : Option Addr} {rcap : Nat} (h : ReadyAt S p v w wr k ra rcap) {k' : Nat} {ra' : Option Addr} {rcap' : Nat} (hb : Below (w.heap.size + 2) wr wr')
  (own : wr'.ownsRow (w.heap.size + 2) 3 1 (.slice ra' (readyTo S p k').length rcap') (readyTo S p k').length (intCells (readyTo S p k'))) : ReadyAt S p v w wr' k' ra' rcap' :=
 ⟨own, fun j => (hb.cell (p := ⟨w.heap.size, j, none⟩) (by show w.heap.size < _; omega)).trans (h.st j), (hb.cell (p := ⟨w.heap.size + 1, 0, none⟩) (by show w.heap.size + 1 < _; omega)).trans h.pr, h.bl.trans (hb.mono (by omega)), Nat.le_trans h.size hb.size⟩

theorem ready_any (S : St) (p : List (List Pl.POp)) (a : Option Addr) (cap lo hi : Nat) (w : World) (hp : ProgOk w lo hi a cap p) :
  Calls Tryz.prog 60 #[.agg (stL S).toArray, .agg #[.slice a p.length cap]] w
   fun e w' => (∃ ra rcap, e = .returned (.slice ra (readyTo S p 4).length rcap) ∧ w'.ownsRow w.heap.size 3 1 (.slice ra (readyTo S p 4).length rcap) (readyTo S p 4).length (intCells (readyTo S p 4))) ∧ Below w.heap.size w w' := by
 have HP : Hid (ProgOk w lo hi a cap p) := hp
 clear hp
 obtain ⟨i0, hi0, hz0, hz1, hz2⟩ := info_parts Tryz.info3
 go_enter Tryz.func60, Tryz.ntmps60
 go_wp2_with fail
 go_loopw [5, 7] (fun v' t' wr => ∃ (k : Nat) (ra : Option Addr) (rcap : Nat), k ≤ 4 ∧ t' = .int .i64 (k : Int) ∧ v' = .slice ra (readyTo S p k).length rcap ∧ Hid (ReadyAt S p (.slice a p.length cap) w wr k ra rcap)) (fun _ t' _ => 4 - (intOf t').toNat)
 case atStart =>
  refine ⟨0, none, 0, by omega, rfl, rfl, ?_⟩
  exact ⟨World.ownsRow_nil _ _ _ _, fun j => by rw [World.cell?_alloc_past _ _ _ (by simp), box_cell], by simp [go_sem], two_new w _ _, by simp⟩
 case round =>
  obtain ⟨k, ra, rcap, hk, rfl, rfl, HH⟩ := hrel
  by_cases hlt : k < 4
  ·have pr := HH.out.pr
   have hr := range_of_all HH.out.st
   have hz := HH.out.size
   have hkl := readyTo_length S p k
   go_wp2_with (first | refine wpList_load_mid rfl 108 _ rfl w.heap.size 0 rfl (stL S) _ hr Tryz.underlying108 rfl Tryz.size108 ?_)
   refine (canStep_any S p a cap lo hi k _ (HP.out.below HH.out.bl HP.out.size)).mono ?_
   rintro e w2 ⟨rfl, hb2⟩
   have hz2' := hb2.size
   have HB2 : Hid (Below (w.heap.size + 2) wr w2) := hb2.mono hz
   have HO2 : Hid (w2.ownsRow (w.heap.size + 2) 3 1 (.slice ra (readyTo S p k).length rcap) (readyTo S p k).length (intCells (readyTo S p k))) := ((ownsRow_in HH.out.own).below hb2).1
   clear pr hr hb2
   cases hc : canStep S p (k : Int)
   ·have HS : Hid (readyTo S p (k + 1) = readyTo S p k) := by show _ = _; rw [readyTo, if_neg (by rw [hc]; simp)]
    clear hc
    go_wp2
    go_roundw
    case rel => exact ⟨k + 1, ra, rcap, by omega, by go_num, by rw [HS.out], (show Hid _ from HH.out.grown HB2.out (by rw [HS.out]; exact HO2.out))⟩
    case measure => simp [intOf]; omega
   ·have HS : Hid (readyTo S p (k + 1) = readyTo S p k ++ [(k : Int)]) := by show _ = _; rw [readyTo, if_pos hc]
    clear hc
    go_wp2_with (first | (refine wpList_append_lies _ rfl _ _ _ rfl (w.heap.size + 2) 3 i0 _ 1 8 Tryz.underlying31 hi0 hz0 hz1 hz2 rfl (by omega) (.slice ra (readyTo S p k).length rcap) (readyTo S p k).length (intCells (readyTo S p k)) rfl (HO2.out.alloc _) ⟨w2.heap.size, 0, none⟩ 1 1 [Value.int .i64 (k : Int)] rfl rfl (World.news_of_block (cs := #[Value.int .i64 (k : Int)]) (t := 3) (fr := (0, 0)) (heap_alloc_new w2 _)) (by simp [Value.oneCell']) (by omega) (by unfold maxLen; omega) (by omega) (by simp; omega) (w2.heap.size + 1) (by simp) ?_; intro gg cap1 w5 hown hgrow hat hlt5))
    go_roundw
    case rel =>
     refine ⟨k + 1, some ⟨gg, 0, none⟩, cap1, by omega, by go_num, by rw [HS.out]; simp, (show Hid _ from HH.out.grown (HB2.out.trans (Below.grown ((Below.refl (w.heap.size + 2) w2).alloc (by omega) _) hgrow (by simp; omega) (fun x hx => (HO2.out.lt x hx).1))) (by rw [HS.out]; simpa [intCells] using hown))⟩
    case measure => simp [intOf]; omega
  ·have e : k = 4 := by omega
   subst e
   go_wp2
   go_ret
   exact ⟨⟨ra, rcap, rfl, ((ownsRow_in HH.out.own).mono (by omega) (Nat.le_refl _)).1⟩, HH.out.bl⟩

/-- End behind thread n. -/
def endOne (S : St) (p : List (List Pl.POp)) (n e : Nat) : Nat :=
 if (S.th n).failed = true ∧ (if waits S p (n : Int) then 3 else e) = 1 then 2 else (if waits S p (n : Int) then 3 else e)

/-- How the run stands, told by the threads from number n on (k of them), e so far. -/
def endFrom (S : St) (p : List (List Pl.POp)) : Nat → Nat → Nat → Nat
 | 0, _, e => e
 | k + 1, n, e => if canStep S p (n : Int) then 0 else endFrom S p k (n + 1) (endOne S p n e)

def endOf (S : St) (p : List (List Pl.POp)) : Nat := endFrom S p 4 0 1

theorem endFrom_yes {S : St} {p : List (List Pl.POp)} {k n e : Nat} (h : canStep S p (n : Int) = true) : endFrom S p (k + 1) n e = 0 := by rw [endFrom, if_pos h]
theorem endFrom_no {S : St} {p : List (List Pl.POp)} {k n e : Nat} (h : canStep S p (n : Int) = false) : endFrom S p (k + 1) n e = endFrom S p k (n + 1) (endOne S p n e) := by rw [endFrom, if_neg (by rw [h]; simp)]

theorem ths_any (S : St) (k : Nat) (hk : k < 4) (w : World) : (Instr.index 106 (.agg (thsL S).toArray) (.int .i64 (k : Int))).run Tryz.prog w = .ok (.agg #[.int .i64 ((S.th k).pos : Int), .bool (S.th k).failed, .int .i16 (S.th k).reg, .int .i64 ((S.th k).h0 : Int), .int .i64 ((S.th k).h1 : Int)]) w := by
 have h2 : k = 0 ∨ k = 1 ∨ k = 2 ∨ k = 3 := by omega
 rcases h2 with rfl | rfl | rfl | rfl
 ·exact ths_0 S w
 ·exact ths_1 S w
 ·exact ths_2 S w
 ·exact ths_3 S w

structure EndAt (S : St) (v : Value) (w wr : World) : Prop where
 st : ∀ j, wr.cell? ⟨w.heap.size, j, none⟩ = (stL S)[j]?
 pr : wr.cell? ⟨w.heap.size + 1, 0, none⟩ = some v
 bl : Below w.heap.size w wr
 size : w.heap.size + 2 ≤ wr.heap.size

theorem EndAt.below {S : St} {v : Value} {w wr wr' : World} (h : EndAt S v w wr) {B : Nat} (hb : Below B wr wr') (hB : w.heap.size + 2 ≤ B) : EndAt S v w wr' :=
 ⟨fun j => (hb.cell (p := ⟨w.heap.size, j, none⟩) (by show w.heap.size < _; omega)).trans (h.st j), (hb.cell (p := ⟨w.heap.size + 1, 0, none⟩) (by show w.heap.size + 1 < _; omega)).trans h.pr, h.bl.trans (hb.mono (by omega)), Nat.le_trans h.size hb.size⟩

theorem end_any (S : St) (p : List (List Pl.POp)) (a : Option Addr) (cap lo hi : Nat) (w : World) (hp : ProgOk w lo hi a cap p) :
  Calls Tryz.prog 57 #[.agg (stL S).toArray, .agg #[.slice a p.length cap]] w
   fun e w' => e = .returned (.int .u8 (endOf S p : Int)) ∧ Below w.heap.size w w' := by
 have HP : Hid (ProgOk w lo hi a cap p) := hp
 clear hp
 have hr : ∀ y, ((w.alloc (.cells (stL S).toArray 108)).alloc y).rangeAt w.heap.size 4 (thsL S) := fun y => World.rangeAt_alloc (box_ths w S) y
 go_enter Tryz.func57, Tryz.ntmps57
 go_wp2_with (first | refine wpList_load_mid rfl 106 _ rfl w.heap.size 4 rfl (thsL S) _ (hr _) Tryz.underlying106 rfl Tryz.size106 ?_)
 clear hr
 go_loopw [5, 10] (fun v' t' wr => ∃ (k e : Nat), k ≤ 4 ∧ e ≤ 3 ∧ t' = .int .i64 (k : Int) ∧ v' = .int .u8 (e : Int) ∧ Hid (EndAt S (.slice a p.length cap) w wr ∧ endOf S p = endFrom S p (4 - k) k e)) (fun _ t' _ => 4 - (intOf t').toNat)
 case atStart =>
  refine ⟨0, 1, by omega, by omega, rfl, rfl, ?_⟩
  exact ⟨⟨fun j => by rw [World.cell?_alloc_past _ _ _ (by simp), box_cell], by simp [go_sem], two_new w _ _, by simp⟩, rfl⟩
 case round =>
  obtain ⟨k, e, hk, he, rfl, rfl, HH⟩ := hrel
  by_cases hlt : k < 4
  ·have HE : Hid (endOf S p = endFrom S p (3 - k + 1) k e) := by rw [show 3 - k + 1 = 4 - k by omega]; exact HH.out.2
   have hix := ths_any S k hlt
   go_upto_region 5 with fail
   have HA1 : Hid (EndAt S (.slice a p.length cap) w (wr.alloc (.cells #[.int .i64 ((S.th k).pos : Int), .bool (S.th k).failed, .int .i16 (S.th k).reg, .int .i64 ((S.th k).h0 : Int), .int .i64 ((S.th k).h1 : Int)] 105))) := HH.out.1.below ((Below.refl _ _).alloc (Nat.le_refl _) _) HH.out.1.size
   have t1 : (wr.alloc (.cells #[.int .i64 ((S.th k).pos : Int), .bool (S.th k).failed, .int .i16 (S.th k).reg, .int .i64 ((S.th k).h0 : Int), .int .i64 ((S.th k).h1 : Int)] 105)).cell? ⟨wr.heap.size, 1, none⟩ = some (.bool (S.th k).failed) := by simp
   have hsz : Hid ((wr.alloc (.cells #[.int .i64 ((S.th k).pos : Int), .bool (S.th k).failed, .int .i16 (S.th k).reg, .int .i64 ((S.th k).h0 : Int), .int .i64 ((S.th k).h1 : Int)] 105)).heap.size = wr.heap.size + 1) := by show _ = _; simp
   generalize wr.alloc (.cells #[.int .i64 ((S.th k).pos : Int), .bool (S.th k).failed, .int .i16 (S.th k).reg, .int .i64 ((S.th k).h0 : Int), .int .i64 ((S.th k).h1 : Int)] 105) = X at *
   have hz := HH.out.1.size
   have pr := HA1.out.pr
   have hr := range_of_all HA1.out.st
   clear hix
   go_wp2_with (first | refine wpList_load_mid rfl 108 _ rfl w.heap.size 0 rfl (stL S) _ hr Tryz.underlying108 rfl Tryz.size108 ?_)
   refine (canStep_any S p a cap lo hi k _ (HP.out.below HA1.out.bl HP.out.size)).mono ?_
   rintro e2 w2 ⟨rfl, hb2⟩
   have lt2 : wr.heap.size < X.heap.size := by have := hsz.out; omega
   have t2 := (hb2.cell (p := ⟨wr.heap.size, 1, none⟩) lt2).trans t1
   have HA2 : Hid _ := HA1.out.below hb2 HA1.out.size
   have HB2 : Hid _ := hb2
   clear t1 pr hr hb2
   have pr := HA2.out.pr
   have hr := range_of_all HA2.out.st
   cases hc : canStep S p (k : Int)
   ·have HE2 : Hid _ := HE.out.trans (endFrom_no hc)
    clear hc
    go_wp2_with (first | refine wpList_load_mid rfl 108 _ rfl w.heap.size 0 rfl (stL S) _ hr Tryz.underlying108 rfl Tryz.size108 ?_)
    refine (waits_any S p a cap lo hi k _ (HP.out.below HA2.out.bl HP.out.size)).mono ?_
    rintro e3 w3 ⟨rfl, hb3⟩
    have t3 := (hb3.cell (p := ⟨wr.heap.size, 1, none⟩) (Nat.lt_of_lt_of_le lt2 HB2.out.size)).trans t2
    have HA3 : Hid _ := HA2.out.below hb3 HA2.out.size
    clear t2 pr hr hb3
    have HO : Hid (∀ e', endOne S p k e = e' → endOf S p = endFrom S p (4 - (k + 1)) (k + 1) e') := fun e' he' => by
     rw [HE2.out, he', show 4 - (k + 1) = 3 - k by omega]
    cases hw : waits S p (k : Int) <;> cases hf : (S.th k).failed <;> rw [hf] at t3
    ·have HV : Hid (endOne S p k e = e) := by show _ = _; unfold endOne; rw [hw, hf]; simp
     clear hw hf
     go_wp2
     go_roundw
     case rel => exact ⟨k + 1, e, by omega, by omega, by go_num, rfl, (show Hid _ from ⟨HA3.out, HO.out _ HV.out⟩)⟩
     case measure => simp [intOf]; omega
    ·by_cases h1 : e = 1
     ·have h1' : ((e : Int) == 1) = true := by simp; omega
      have HV : Hid (endOne S p k e = 2) := by show _ = _; unfold endOne; rw [hw, hf]; simp [h1]
      clear hw hf h1
      go_wp2
      go_roundw
      case rel => exact ⟨k + 1, 2, by omega, by omega, by go_num, rfl, (show Hid _ from ⟨HA3.out, HO.out _ HV.out⟩)⟩
      case measure => simp [intOf]; omega
     ·have h1' : ((e : Int) == 1) = false := by simp; omega
      have HV : Hid (endOne S p k e = e) := by show _ = _; unfold endOne; rw [hw, hf]; simp [h1]
      clear hw hf h1
      go_wp2
      go_roundw
      case rel => exact ⟨k + 1, e, by omega, by omega, by go_num, rfl, (show Hid _ from ⟨HA3.out, HO.out _ HV.out⟩)⟩
      case measure => simp [intOf]; omega
    ·have HV : Hid (endOne S p k e = 3) := by show _ = _; unfold endOne; rw [hw, hf]; simp
     clear hw hf
     go_wp2
     go_roundw
     case rel => exact ⟨k + 1, 3, by omega, by omega, by go_num, rfl, (show Hid _ from ⟨HA3.out, HO.out _ HV.out⟩)⟩
     case measure => simp [intOf]; omega
    ·have HV : Hid (endOne S p k e = 3) := by show _ = _; unfold endOne; rw [hw, hf]; simp
     clear hw hf
     go_wp2
     go_roundw
     case rel => exact ⟨k + 1, 3, by omega, by omega, by go_num, rfl, (show Hid _ from ⟨HA3.out, HO.out _ HV.out⟩)⟩
     case measure => simp [intOf]; omega
   ·have HE2 : Hid _ := HE.out.trans (endFrom_yes hc)
    clear hc
    go_wp2
    go_ret
    exact ⟨ret_int (by rw [HE2.out]; rfl), HA2.out.bl⟩
  ·have e : k = 4 := by omega
   subst e
   go_wp2
   go_ret
   exact ⟨ret_int (by rw [HH.out.2]; rfl), HH.out.1.bl⟩

end Go.Proofs.YtfdafcnfefbcbabGreat
