/-
 Several texts of ours in one: Settled, State.
-/
import Derived.Test.YtfdafcnfefbcbabGreatBehind
import Derived.Deep.LoopGhost
import Derived.Deep.MidRow
/-
 The contract of settled: a thread goes on till it stands at a shared operation, has ended or has failed.
-/
namespace Go.Proofs.YtfdafcnfefbcbabGreat
open Go.RowKit
set_option linter.unusedVariables false
set_option maxRecDepth 100000
set_option maxHeartbeats 4000000

def settle (r : List Pl.POp) : Nat → Th → Th
 | 0, t => t
 | n + 1, t => match opAt t r with
  | none => t
  | some o => if Pl.isShared o.kind then t else settle r n (ownStep t r o)

theorem settle_none {r : List Pl.POp} {t : Th} (h : opAt t r = none) (k : Nat) : settle r k t = t := by
 cases k with
 | zero => rfl
 | succ k => simp [settle, h]
theorem settle_shared {r : List Pl.POp} {t : Th} {o : Pl.POp} (h : opAt t r = some o) (hs : Pl.isShared o.kind = true) (k : Nat) : settle r k t = t := by
 cases k with
 | zero => rfl
 | succ k => simp [settle, h, hs]
theorem settle_own {r : List Pl.POp} {t : Th} {o : Pl.POp} (h : opAt t r = some o) (hs : Pl.isShared o.kind = false) (k : Nat) : settle r (k + 1) t = settle r k (ownStep t r o) := by
 simp [settle, h, hs]

theorem opAt_lt {r : List Pl.POp} {t : Th} {o : Pl.POp} (h : opAt t r = some o) : t.pos < r.length ∧ o ∈ r := by
 unfold opAt at h
 split at h
 ·cases h
 ·exact ⟨(List.getElem?_eq_some_iff.1 h).1, List.mem_of_getElem? h⟩

theorem ownStep_pos {r : List Pl.POp} {t : Th} {o : Pl.POp} (h : t.pos < r.length) : t.pos < (ownStep t r o).pos ∧ (ownStep t r o).pos ≤ r.length := by
 have := (passed_le (r.drop (t.pos + 1)) (digitOf o.name)).1
 unfold ownStep
 repeat' split
 all_goals (simp at *; omega)

/-- The three variables of settled in memory. -/
structure SetAt (w : World) (bt br bo : Nat) (t : Th) (k n : Nat) (b : Int) : Prop where
 t0 : w.cell? ⟨bt, 0, none⟩ = some (.int .i64 (t.pos : Int))
 t1 : w.cell? ⟨bt, 1, none⟩ = some (.bool t.failed)
 t2 : w.cell? ⟨bt, 2, none⟩ = some (.int .i16 t.reg)
 t3 : w.cell? ⟨bt, 3, none⟩ = some (.int .i64 (t.h0 : Int))
 t4 : w.cell? ⟨bt, 4, none⟩ = some (.int .i64 (t.h1 : Int))
 o0 : w.cell? ⟨bo, 0, none⟩ = some (.int .u8 (k : Int))
 o1 : w.cell? ⟨bo, 1, none⟩ = some (.int .u8 (n : Int))
 o2 : w.cell? ⟨bo, 2, none⟩ = some (.int .i64 b)
 r0 : w.cell? ⟨br, 0, none⟩ = some (.int .i64 0)
 r1 : w.cell? ⟨br, 1, none⟩ = some (.bool false)
 r2 : w.cell? ⟨br, 2, none⟩ = some (.int .i16 0)
 r3 : w.cell? ⟨br, 3, none⟩ = some (.int .i64 0)
 r4 : w.cell? ⟨br, 4, none⟩ = some (.int .i64 0)
 ft : ∀ j, w.frozen? ⟨bt, j, none⟩ = false
 fo : ∀ j, w.frozen? ⟨bo, j, none⟩ = false
 fr : ∀ j, w.frozen? ⟨br, j, none⟩ = false

theorem SetAt.below {w w' : World} {bt br bo : Nat} {t : Th} {k n : Nat} {b : Int} {B : Nat} (h : SetAt w bt br bo t k n b) (hb : Below B w w') (h1 : bt < B) (h2 : br < B) (h3 : bo < B) : SetAt w' bt br bo t k n b :=
 ⟨(hb.cell (p := ⟨bt, 0, none⟩) h1).trans h.t0, (hb.cell (p := ⟨bt, 1, none⟩) h1).trans h.t1, (hb.cell (p := ⟨bt, 2, none⟩) h1).trans h.t2, (hb.cell (p := ⟨bt, 3, none⟩) h1).trans h.t3, (hb.cell (p := ⟨bt, 4, none⟩) h1).trans h.t4,
  (hb.cell (p := ⟨bo, 0, none⟩) h3).trans h.o0, (hb.cell (p := ⟨bo, 1, none⟩) h3).trans h.o1, (hb.cell (p := ⟨bo, 2, none⟩) h3).trans h.o2,
  (hb.cell (p := ⟨br, 0, none⟩) h2).trans h.r0, (hb.cell (p := ⟨br, 1, none⟩) h2).trans h.r1, (hb.cell (p := ⟨br, 2, none⟩) h2).trans h.r2, (hb.cell (p := ⟨br, 3, none⟩) h2).trans h.r3, (hb.cell (p := ⟨br, 4, none⟩) h2).trans h.r4,
  fun j => (hb.frozen (p := ⟨bt, j, none⟩) h1).trans (h.ft j), fun j => (hb.frozen (p := ⟨bo, j, none⟩) h3).trans (h.fo j), fun j => (hb.frozen (p := ⟨br, j, none⟩) h2).trans (h.fr j)⟩

/-- What stands in the operation's variable. -/
def Stood (q : Option Pl.POp) (k n : Nat) (b : Int) : Prop := match q with
 | none => True
 | some o => k = o.kind ∧ n = o.name ∧ b = o.block

theorem operation_any (t : Th) (r : List Pl.POp) (a : Option Addr) (cap lo hi : Nat) (w : World) (hr : RowIn w lo hi a cap r) (hl : r.length ≤ 1000) :
  Calls Tryz.prog 92 #[.agg #[.int .i64 (t.pos : Int), .bool t.failed, .int .i16 t.reg, .int .i64 (t.h0 : Int), .int .i64 (t.h1 : Int)], .slice a r.length cap] w
   fun e w' => (∃ (k n : Nat) (b : Int), Stood (opAt t r) k n b ∧ e = .returned (.tuple #[.agg #[.int .u8 (k : Int), .int .u8 (n : Int), .int .i64 b], .bool (opAt t r).isSome])) ∧ Below w.heap.size w w' := by
 cases h : opAt t r with
 | none => exact (operation_none t r a cap lo hi w hr hl h).mono fun e w' ⟨h1, h2⟩ => ⟨⟨0, 0, 0, trivial, h1⟩, h2⟩
 | some o => exact (operation_some t r o a cap lo hi w hr hl h).mono fun e w' ⟨h1, h2⟩ => ⟨⟨o.kind, o.name, o.block, ⟨rfl, rfl, rfl⟩, h1⟩, h2⟩

theorem SetAt.put {w : World} {bt br bo : Nat} {t : Th} {k n : Nat} {b : Int} (h : SetAt w bt br bo t k n b) (h1 : bt ≠ br) (h2 : bt ≠ bo) (u : Th) :
  SetAt (((((w.setCell ⟨bt, 0, none⟩ (.int .i64 (u.pos : Int))).setCell ⟨bt, 1, none⟩ (.bool u.failed)).setCell ⟨bt, 2, none⟩ (.int .i16 u.reg)).setCell ⟨bt, 3, none⟩ (.int .i64 (u.h0 : Int))).setCell ⟨bt, 4, none⟩ (.int .i64 (u.h1 : Int))) bt br bo u k n b := by
 obtain ⟨t0, t1, t2, t3, t4, o0, o1, o2, r0, r1, r2, r3, r4, ft, fo, fr⟩ := h
 refine ⟨?_, ?_, ?_, ?_, ?_, ?_, ?_, ?_, ?_, ?_, ?_, ?_, ?_, ?_, ?_, ?_⟩
 all_goals first
  | (intro j; simp only [World.frozen?_setCell]; first | exact ft j | exact fo j | exact fr j)
  | (simp [World.cell?_setCell_other, World.cell?_setCell_same', *])

theorem SetAt.putOp {w : World} {bt br bo : Nat} {t : Th} {k n : Nat} {b : Int} (h : SetAt w bt br bo t k n b) (h1 : bo ≠ br) (h2 : bo ≠ bt) (k' n' : Nat) (b' : Int) :
  SetAt (((w.setCell ⟨bo, 0, none⟩ (.int .u8 (k' : Int))).setCell ⟨bo, 1, none⟩ (.int .u8 (n' : Int))).setCell ⟨bo, 2, none⟩ (.int .i64 b')) bt br bo t k' n' b' := by
 obtain ⟨t0, t1, t2, t3, t4, o0, o1, o2, r0, r1, r2, r3, r4, ft, fo, fr⟩ := h
 refine ⟨?_, ?_, ?_, ?_, ?_, ?_, ?_, ?_, ?_, ?_, ?_, ?_, ?_, ?_, ?_, ?_⟩
 all_goals first
  | (intro j; simp only [World.frozen?_setCell]; first | exact ft j | exact fo j | exact fr j)
  | (simp [World.cell?_setCell_other, World.cell?_setCell_same', *])

/-- How settled stands at a round's head. -/
def Settles (r : List Pl.POp) (t : Th) (w wr : World) (bo f : Nat) (t' : Th) (k n : Nat) (b : Int) : Prop :=
 SetAt wr w.heap.size (w.heap.size + 1) bo t' k n b ∧ Stood (opAt t' r) k n b ∧ t'.pos ≤ 1000 ∧ Below w.heap.size w wr ∧ w.heap.size + 1 < bo ∧ bo < wr.heap.size ∧ settle r (r.length + 1) t = settle r f t' ∧ r.length + 1 ≤ f + t'.pos

theorem settled_any (t : Th) (r : List Pl.POp) (a : Option Addr) (cap lo hi : Nat) (w : World) (hr : RowIn w lo hi a cap r) (hh : hi ≤ w.heap.size) (hl : r.length ≤ 1000) (hp : t.pos ≤ 1000) (hby : Bytes r) :
  Calls Tryz.prog 77 #[.agg #[.int .i64 (t.pos : Int), .bool t.failed, .int .i16 t.reg, .int .i64 (t.h0 : Int), .int .i64 (t.h1 : Int)], .slice a r.length cap] w
   fun e w' => e = .returned (thV (settle r (r.length + 1) t)) ∧ Below w.heap.size w w' := by
 have HB : Hid (Bytes r) := hby
 clear hby
 have HR : Hid (RowIn w lo hi a cap r) := hr
 clear hr
 have hb2 : ∀ x y : Obj, Below w.heap.size w ((w.alloc x).alloc y) := fun x y => ((Below.refl _ _).alloc (Nat.le_refl _) _).alloc (by simp) _
 go_enter Tryz.func77, Tryz.ntmps77
 go_wp2_with fail
 refine (operation_any t r a cap lo hi _ (HR.out.below ((hb2 _ _).mono hh)) hl).mono ?_
 rintro e w1 ⟨⟨k, n, b, hst, rfl⟩, hb1⟩
 have HST : Hid (Stood (opAt t r) k n b) := hst
 clear hst
 go_wp2_with fail
 have hst0 : Settles r t w (w1.alloc (.cells #[.int .u8 (k : Int), .int .u8 (n : Int), .int .i64 b] 165)) w1.heap.size (r.length + 1) t k n b := by
  have z1 := hb1.size
  simp at z1
  have base := fun (B o : Nat) (hB : B < w.heap.size + 2) => hb1.cell (p := ⟨B, o, none⟩) (by simp; omega)
  have basef := fun (B o : Nat) (hB : B < w.heap.size + 2) => hb1.frozen (p := ⟨B, o, none⟩) (by simp; omega)
  refine ⟨?_, HST.out, hp, (hb2 _ _).trans ((hb1.mono (by simp; omega)).alloc (by omega) _), by omega, by simp, rfl, by omega⟩
  refine ⟨?_, ?_, ?_, ?_, ?_, by simp, by simp, by simp, ?_, ?_, ?_, ?_, ?_, fun j => ?_, fun j => by simp, fun j => ?_⟩
  all_goals first
   | (rw [World.cell?_alloc_past _ _ _ (by omega), base _ _ (by omega)]; simp [go_sem]; done)
   | (rw [World.frozen?_alloc_past _ _ _ (by omega), basef _ _ (by omega)]; simp [go_sem]; done)
 have hbo : ∃ bo, w1.heap.size = bo := ⟨_, rfl⟩
 obtain ⟨bo, hbo⟩ := hbo
 rw [hbo] at hst0 ⊢
 go_loopg [6] (r.length + 1) (fun f st wr => ∃ t' k n b, st = .bool (opAt t' r).isSome ∧ Hid (Settles r t w wr bo f t' k n b))
 case atStart => exact ⟨t, k, n, b, rfl, hst0⟩
 case round =>
  obtain ⟨t', k', n', b', rfl, HS⟩ := hrel
  obtain ⟨hat, hsd, hp', hbw, hbo1, hbo2, heq, hfu⟩ := HS.out
  cases ho : opAt t' r with
  | none =>
   have HE : Hid _ := heq
   have e : Hid (settle r (r.length + 1) t = t') := heq.trans (settle_none ho _)
   obtain ⟨t0, t1, t2, t3, t4, o0, o1, o2, r0, r1, r2, r3, r4, ft, fo, fr⟩ := hat
   clear heq hsd ho HS
   go_wp2
   rw [e.out]
   refine bodyPost_ret (v := thV t') (by simp [results, Tryz.results77, go_sem, r0, r1, r2, r3, r4, thV]) rfl ⟨rfl, ?_⟩
   exact (((((hbw.setCell (by simp) _).setCell (by simp) _).setCell (by simp) _).setCell (by simp) _).setCell (by simp) _)
  | some o =>
   rw [ho] at hsd
   obtain ⟨rfl, rfl, rfl⟩ := hsd
   have hlt := (opAt_lt ho).1
   have hby := HB.out o (opAt_lt ho).2
   have HO : Hid _ := ho
   have HE : Hid _ := heq
   clear heq ho HS
   cases hsh : Pl.isShared o.kind
   ·have hz1 := hbw.size
    have HAT : Hid _ := hat
    obtain ⟨t0, t1, t2, t3, t4, o0, o1, o2, r0, r1, r2, r3, r4, ft, fo, fr⟩ := hat
    go_wp2_with fail
    refine (isShared_any _ _ _ _).mono ?_
    rintro e2 w2 ⟨rfl, hw2⟩
    have hat2 := HAT.out.below hw2 (by omega) (by omega) hbo2
    have HAT2 : Hid _ := hat2
    have hz2 := hw2.size
    clear t0 t1 t2 t3 t4 o0 o1 o2 r0 r1 r2 r3 r4 ft fo fr
    obtain ⟨t0, t1, t2, t3, t4, o0, o1, o2, r0, r1, r2, r3, r4, ft, fo, fr⟩ := hat2
    have hbw2 := hbw.trans (hw2.mono hz1)
    go_wp2_with fail
    refine (behindOwn_any t' r o a cap lo hi _ (HR.out.below (hbw2.mono hh)) (by omega) hl hp' hby.2).mono ?_
    rintro e3 w3 ⟨rfl, hw3⟩
    have hown := ownStep_pos (o := o) hlt
    have HOWN : Hid (settle r (r.length + 1) t = settle r (gk - 1) (ownStep t' r o)) := by
     show settle r (r.length + 1) t = _
     rw [HE.out, show gk = (gk - 1) + 1 by omega]; exact settle_own HO.out hsh _
    generalize ownStep t' r o = u at *
    have hz3 := hw3.size
    have hat3 := HAT2.out.below hw3 (by omega) (by omega) (by omega)
    have HAT3 : Hid _ := hat3
    clear t0 t1 t2 t3 t4 o0 o1 o2 r0 r1 r2 r3 r4 ft fo fr
    obtain ⟨t0, t1, t2, t3, t4, o0, o1, o2, r0, r1, r2, r3, r4, ft, fo, fr⟩ := hat3
    unfold thV
    go_wp2_with fail
    have hat4 := HAT3.out.put (by omega) (by omega) u
    have hb4 : Below w.heap.size w (((((w3.setCell ⟨w.heap.size, 0, none⟩ (.int .i64 (u.pos : Int))).setCell ⟨w.heap.size, 1, none⟩ (.bool u.failed)).setCell ⟨w.heap.size, 2, none⟩ (.int .i16 u.reg)).setCell ⟨w.heap.size, 3, none⟩ (.int .i64 (u.h0 : Int))).setCell ⟨w.heap.size, 4, none⟩ (.int .i64 (u.h1 : Int))) :=
     ((((((hbw2.trans (hw3.mono (by omega))).setCell (Nat.le_refl _) _).setCell (Nat.le_refl _) _).setCell (Nat.le_refl _) _).setCell (Nat.le_refl _) _).setCell (Nat.le_refl _) _)
    have hz4 : (((((w3.setCell ⟨w.heap.size, 0, none⟩ (.int .i64 (u.pos : Int))).setCell ⟨w.heap.size, 1, none⟩ (.bool u.failed)).setCell ⟨w.heap.size, 2, none⟩ (.int .i16 u.reg)).setCell ⟨w.heap.size, 3, none⟩ (.int .i64 (u.h0 : Int))).setCell ⟨w.heap.size, 4, none⟩ (.int .i64 (u.h1 : Int))).heap.size = w3.heap.size := by simp
    refine (operation_any u r a cap lo hi _ (HR.out.below (hb4.mono hh)) hl).mono ?_
    rintro e5 w5 ⟨⟨k5, n5, b5, hst5, rfl⟩, hb5⟩
    have hat5 := hat4.below hb5 (by omega) (by omega) (by omega)
    have HAT5 : Hid _ := hat5
    have HST5 : Hid _ := hst5
    have hz5 := hb5.size
    have HB5 : Hid (Below w.heap.size w w5) := hb4.trans (hb5.mono (by omega))
    clear t0 t1 t2 t3 t4 o0 o1 o2 r0 r1 r2 r3 r4 ft fo fr hat4 hb4 hb5 hst5
    rw [hz4] at hz5
    obtain ⟨t0, t1, t2, t3, t4, o0, o1, o2, r0, r1, r2, r3, r4, ft, fo, fr⟩ := hat5
    go_wp2_with fail
    go_roundg (gk - 1)
    case measure => omega
    case rel =>
     refine ⟨u, k5, n5, b5, rfl, ?_, HST5.out, by omega, ?_, hbo1, by simp; omega, HOWN.out, by omega⟩
     ·exact HAT5.out.putOp (by omega) (by omega) k5 n5 b5
     ·exact ((HB5.out.setCell (by simp; omega) _).setCell (by simp; omega) _).setCell (by simp; omega) _
   ·have e : Hid (settle r (r.length + 1) t = t') := HE.out.trans (settle_shared HO.out hsh _)
    obtain ⟨t0, t1, t2, t3, t4, o0, o1, o2, r0, r1, r2, r3, r4, ft, fo, fr⟩ := hat
    have lt0 : w.heap.size < wr.heap.size := by omega
    have lt1 : w.heap.size + 1 < wr.heap.size := by omega
    go_wp2_with (go_at_call 74; refine (isShared_any _ _ _ _).mono ?_; rintro e2 w2 ⟨rfl, hw2⟩; have y0 := (hw2.cell (p := ⟨w.heap.size, 0, none⟩) lt0).trans t0; have y1 := (hw2.cell (p := ⟨w.heap.size, 1, none⟩) lt0).trans t1; have y2 := (hw2.cell (p := ⟨w.heap.size, 2, none⟩) lt0).trans t2; have y3 := (hw2.cell (p := ⟨w.heap.size, 3, none⟩) lt0).trans t3; have y4 := (hw2.cell (p := ⟨w.heap.size, 4, none⟩) lt0).trans t4; have z0 := (hw2.cell (p := ⟨w.heap.size + 1, 0, none⟩) lt1).trans r0; have z1 := (hw2.cell (p := ⟨w.heap.size + 1, 1, none⟩) lt1).trans r1; have z2 := (hw2.cell (p := ⟨w.heap.size + 1, 2, none⟩) lt1).trans r2; have z3 := (hw2.cell (p := ⟨w.heap.size + 1, 3, none⟩) lt1).trans r3; have z4 := (hw2.cell (p := ⟨w.heap.size + 1, 4, none⟩) lt1).trans r4; have fz := fun j => (hw2.frozen (p := ⟨w.heap.size + 1, j, none⟩) lt1).trans (fr j))
    rw [e.out]
    refine bodyPost_ret (v := thV t') (by simp [results, Tryz.results77, go_sem, z0, z1, z2, z3, z4, thV]) rfl ⟨rfl, ?_⟩
    exact ((((((hbw.trans (hw2.mono (by omega))).setCell (by simp) _).setCell (by simp) _).setCell (by simp) _).setCell (by simp) _).setCell (by simp) _)

/-- How a run stands. -/
structure St where
 v0 : Int
 v1 : Int
 v2 : Int
 v3 : Int
 t0 : Th
 t1 : Th
 t2 : Th
 t3 : Th

def St.th (S : St) : Nat → Th
 | 0 => S.t0
 | 1 => S.t1
 | 2 => S.t2
 | _ => S.t3

def stL (S : St) : List Value := [.int .i16 S.v0, .int .i16 S.v1, .int .i16 S.v2, .int .i16 S.v3, .int .i64 (S.t0.pos : Int), .bool S.t0.failed, .int .i16 S.t0.reg, .int .i64 (S.t0.h0 : Int), .int .i64 (S.t0.h1 : Int), .int .i64 (S.t1.pos : Int), .bool S.t1.failed, .int .i16 S.t1.reg, .int .i64 (S.t1.h0 : Int), .int .i64 (S.t1.h1 : Int), .int .i64 (S.t2.pos : Int), .bool S.t2.failed, .int .i16 S.t2.reg, .int .i64 (S.t2.h0 : Int), .int .i64 (S.t2.h1 : Int), .int .i64 (S.t3.pos : Int), .bool S.t3.failed, .int .i16 S.t3.reg, .int .i64 (S.t3.h0 : Int), .int .i64 (S.t3.h1 : Int)]
def thsL (S : St) : List Value := [.int .i64 (S.t0.pos : Int), .bool S.t0.failed, .int .i16 S.t0.reg, .int .i64 (S.t0.h0 : Int), .int .i64 (S.t0.h1 : Int), .int .i64 (S.t1.pos : Int), .bool S.t1.failed, .int .i16 S.t1.reg, .int .i64 (S.t1.h0 : Int), .int .i64 (S.t1.h1 : Int), .int .i64 (S.t2.pos : Int), .bool S.t2.failed, .int .i16 S.t2.reg, .int .i64 (S.t2.h0 : Int), .int .i64 (S.t2.h1 : Int), .int .i64 (S.t3.pos : Int), .bool S.t3.failed, .int .i16 S.t3.reg, .int .i64 (S.t3.h0 : Int), .int .i64 (S.t3.h1 : Int)]

theorem stL_length (S : St) : (stL S).length = 24 := rfl
theorem stL_ths (S : St) (j : Nat) : (stL S)[4 + j]? = (thsL S)[j]? := by
 rw [Nat.add_comm]; rfl

theorem box_cell (w : World) (S : St) (j : Nat) : (w.alloc (.cells (stL S).toArray 108)).cell? ⟨w.heap.size, j, none⟩ = (stL S)[j]? := by
 rw [cell_of_row _ w.heap.size j _ 108 (0, 0) (heap_alloc_new w _)]; simp

theorem box_ths (w : World) (S : St) : (w.alloc (.cells (stL S).toArray 108)).rangeAt w.heap.size 4 (thsL S) := fun j v hv => by
 rw [box_cell, stL_ths]; exact hv

theorem box_all (w : World) (S : St) : (w.alloc (.cells (stL S).toArray 108)).rangeAt w.heap.size 0 (stL S) := fun j v hv => by
 rw [Nat.zero_add, box_cell]; exact hv

theorem all_below {w w' : World} {B b : Nat} {cs : List Value} (h : ∀ j, w.cell? ⟨b, j, none⟩ = cs[j]?) (hb : Below B w w') (hB : b < B) : ∀ j, w'.cell? ⟨b, j, none⟩ = cs[j]? := fun j =>
 (hb.cell (p := ⟨b, j, none⟩) hB).trans (h j)
theorem range_of_all {w : World} {b : Nat} {cs : List Value} (h : ∀ j, w.cell? ⟨b, j, none⟩ = cs[j]?) : w.rangeAt b 0 cs := fun j v hv => by rw [Nat.zero_add, h j]; exact hv

/-- A range that was there is there still. -/
theorem range_below {w w' : World} {B b o : Nat} {cs : List Value} (h : w.rangeAt b o cs) (hb : Below B w w') (hB : b < B) : w'.rangeAt b o cs := fun j v hv =>
 (hb.cell (p := ⟨b, o + j, none⟩) hB).trans (h j v hv)
theorem Tryz.size106 : (Tryz.prog.info? 106).map (·.size) = some 20 := by kernel_rfl
theorem Tryz.size108 : (Tryz.prog.info? 108).map (·.size) = some 24 := by kernel_rfl

/-- The program in memory, handed over by value. -/
structure ProgOk (w : World) (lo hi : Nat) (a : Option Addr) (cap : Nat) (p : List (List Pl.POp)) : Prop where
 rows : RowsIn w lo hi (.slice a p.length cap) p
 size : hi ≤ w.heap.size
 few : p.length ≤ 1000
 short : ∀ r ∈ p, r.length ≤ 1000
 bytes : ∀ r ∈ p, Bytes r

theorem ProgOk.below {w w' : World} {lo hi : Nat} {a : Option Addr} {cap : Nat} {p : List (List Pl.POp)} (h : ProgOk w lo hi a cap p) {B : Nat} (hb : Below B w w') (hB : hi ≤ B) : ProgOk w' lo hi a cap p :=
 ⟨h.rows.below (hb.mono hB), Nat.le_trans h.size hb.size, h.few, h.short, h.bytes⟩

theorem rowOf_mem (p : List (List Pl.POp)) (m : Int) : rowOf p m = [] ∨ rowOf p m ∈ p := by
 unfold rowOf
 split
 ·exact Or.inl rfl
 ·cases h : p[m.toNat]? with
  | none => exact Or.inl rfl
  | some r => exact Or.inr (by simpa using List.mem_of_getElem? h)

theorem ProgOk.row {w : World} {lo hi : Nat} {a : Option Addr} {cap : Nat} {p : List (List Pl.POp)} (h : ProgOk w lo hi a cap p) (m : Int) : (rowOf p m).length ≤ 1000 ∧ Bytes (rowOf p m) := by
 rcases rowOf_mem p m with e | e
 ·rw [e]; exact ⟨by simp, fun o ho => by cases ho⟩
 ·exact ⟨h.short _ e, h.bytes _ e⟩

/-- The operation at which a thread stands. -/
def stOp (S : St) (p : List (List Pl.POp)) (m : Int) : Option Pl.POp := if m < 0 ∨ 4 ≤ m then none else opAt (S.th m.toNat) (rowOf p m)

theorem two_new (w : World) (a b : Obj) : Below w.heap.size w ((w.alloc a).alloc b) := ((Below.refl _ _).alloc (Nat.le_refl _) _).alloc (by simp) _

theorem stateOp_0 (S : St) (p : List (List Pl.POp)) (a : Option Addr) (cap lo hi : Nat) (w : World) (hp : ProgOk w lo hi a cap p) :
  Calls Tryz.prog 79 #[.agg (stL S).toArray, .agg #[.slice a p.length cap], .int .i64 0] w
   fun e w' => (∃ (k n : Nat) (b : Int), Stood (opAt S.t0 (rowOf p 0)) k n b ∧ e = .returned (.tuple #[.agg #[.int .u8 (k : Int), .int .u8 (n : Int), .int .i64 b], .bool (opAt S.t0 (rowOf p 0)).isSome])) ∧ Below w.heap.size w w' := by
 have hrow := (hp.row 0).1
 have HP : Hid (ProgOk w lo hi a cap p) := hp
 clear hp
 have hb3 := fun (x y z : Obj) => three_new w x y z
 go_enter Tryz.func79, Tryz.ntmps79
 go_wp2_with fail
 refine (thread_any p a cap lo hi _ _ (HP.out.below (hb3 _ _ _) HP.out.size).rows (HP.out.below (hb3 _ _ _) HP.out.size).size HP.out.few).mono ?_
 rintro e w1 ⟨⟨b, c, rfl, hrw⟩, hb1⟩
 have x0 : w1.cell? ⟨w.heap.size, 5 * 0 + 4, none⟩ = some (.int .i64 (S.t0.pos : Int)) := (hb1.cell (p := ⟨w.heap.size, 5 * 0 + 4, none⟩) (by simp; omega)).trans (by rw [World.cell?_alloc_past _ _ _ (by simp; omega), World.cell?_alloc_past _ _ _ (by simp), box_cell]; rfl)
 have x1 : w1.cell? ⟨w.heap.size, 5 * 0 + 5, none⟩ = some (.bool S.t0.failed) := (hb1.cell (p := ⟨w.heap.size, 5 * 0 + 5, none⟩) (by simp; omega)).trans (by rw [World.cell?_alloc_past _ _ _ (by simp; omega), World.cell?_alloc_past _ _ _ (by simp), box_cell]; rfl)
 have x2 : w1.cell? ⟨w.heap.size, 5 * 0 + 6, none⟩ = some (.int .i16 S.t0.reg) := (hb1.cell (p := ⟨w.heap.size, 5 * 0 + 6, none⟩) (by simp; omega)).trans (by rw [World.cell?_alloc_past _ _ _ (by simp; omega), World.cell?_alloc_past _ _ _ (by simp), box_cell]; rfl)
 have x3 : w1.cell? ⟨w.heap.size, 5 * 0 + 7, none⟩ = some (.int .i64 (S.t0.h0 : Int)) := (hb1.cell (p := ⟨w.heap.size, 5 * 0 + 7, none⟩) (by simp; omega)).trans (by rw [World.cell?_alloc_past _ _ _ (by simp; omega), World.cell?_alloc_past _ _ _ (by simp), box_cell]; rfl)
 have x4 : w1.cell? ⟨w.heap.size, 5 * 0 + 8, none⟩ = some (.int .i64 (S.t0.h1 : Int)) := (hb1.cell (p := ⟨w.heap.size, 5 * 0 + 8, none⟩) (by simp; omega)).trans (by rw [World.cell?_alloc_past _ _ _ (by simp; omega), World.cell?_alloc_past _ _ _ (by simp), box_cell]; rfl)
 have y0 : w1.cell? ⟨w.heap.size + 1 + 1, 0, none⟩ = some (.int .u8 0) := (hb1.cell (p := ⟨w.heap.size + 1 + 1, 0, none⟩) (by simp)).trans (by simp [go_sem])
 have y1 : w1.cell? ⟨w.heap.size + 1 + 1, 1, none⟩ = some (.int .u8 0) := (hb1.cell (p := ⟨w.heap.size + 1 + 1, 1, none⟩) (by simp)).trans (by simp [go_sem])
 have y2 : w1.cell? ⟨w.heap.size + 1 + 1, 2, none⟩ = some (.int .i64 0) := (hb1.cell (p := ⟨w.heap.size + 1 + 1, 2, none⟩) (by simp)).trans (by simp [go_sem])
 have yf : ∀ j, w1.frozen? ⟨w.heap.size + 1 + 1, j, none⟩ = false := fun j => (hb1.frozen (p := ⟨w.heap.size + 1 + 1, j, none⟩) (by simp)).trans (by simp [go_sem])
 have hb1' := (hb3 _ _ _).trans (hb1.mono (by simp; omega))
 have hz1 := hb1.size
 simp only [World.size_alloc] at hz1
 have HRW : Hid (RowIn w1 lo hi b c (rowOf p 0)) := hrw
 clear hrw hb1
 simp only [Nat.reduceMul, Nat.reduceAdd] at x0 x1 x2 x3 x4
 go_wp2_with fail
 refine (operation_any S.t0 (rowOf p 0) b c lo hi _ HRW.out hrow).mono ?_
 rintro e w2 ⟨⟨k, n, b2, hst, rfl⟩, hb2⟩
 have z0 := (hb2.cell (p := ⟨w.heap.size + 1 + 1, 0, none⟩) (by simp; omega)).trans y0
 have z1 := (hb2.cell (p := ⟨w.heap.size + 1 + 1, 1, none⟩) (by simp; omega)).trans y1
 have z2 := (hb2.cell (p := ⟨w.heap.size + 1 + 1, 2, none⟩) (by simp; omega)).trans y2
 have zf := fun j => (hb2.frozen (p := ⟨w.heap.size + 1 + 1, j, none⟩) (by simp; omega)).trans (yf j)
 have HST : Hid _ := hst
 clear hst
 go_wp2
 refine bodyPost_ret (v := .tuple #[.agg #[.int .u8 (k : Int), .int .u8 (n : Int), .int .i64 b2], .bool (opAt S.t0 (rowOf p 0)).isSome]) (by simp [results, Tryz.results79, go_sem, z0, z1, z2]) rfl ⟨⟨k, n, b2, HST.out, rfl⟩, ?_⟩
 exact (((hb1'.trans (hb2.mono hb1'.size)).setCell (by simp; omega) _).setCell (by simp; omega) _).setCell (by simp; omega) _

theorem stateOp_1 (S : St) (p : List (List Pl.POp)) (a : Option Addr) (cap lo hi : Nat) (w : World) (hp : ProgOk w lo hi a cap p) :
  Calls Tryz.prog 79 #[.agg (stL S).toArray, .agg #[.slice a p.length cap], .int .i64 1] w
   fun e w' => (∃ (k n : Nat) (b : Int), Stood (opAt S.t1 (rowOf p 1)) k n b ∧ e = .returned (.tuple #[.agg #[.int .u8 (k : Int), .int .u8 (n : Int), .int .i64 b], .bool (opAt S.t1 (rowOf p 1)).isSome])) ∧ Below w.heap.size w w' := by
 have hrow := (hp.row 1).1
 have HP : Hid (ProgOk w lo hi a cap p) := hp
 clear hp
 have hb3 := fun (x y z : Obj) => three_new w x y z
 go_enter Tryz.func79, Tryz.ntmps79
 go_wp2_with fail
 refine (thread_any p a cap lo hi _ _ (HP.out.below (hb3 _ _ _) HP.out.size).rows (HP.out.below (hb3 _ _ _) HP.out.size).size HP.out.few).mono ?_
 rintro e w1 ⟨⟨b, c, rfl, hrw⟩, hb1⟩
 have x0 : w1.cell? ⟨w.heap.size, 5 * 1 + 4, none⟩ = some (.int .i64 (S.t1.pos : Int)) := (hb1.cell (p := ⟨w.heap.size, 5 * 1 + 4, none⟩) (by simp; omega)).trans (by rw [World.cell?_alloc_past _ _ _ (by simp; omega), World.cell?_alloc_past _ _ _ (by simp), box_cell]; rfl)
 have x1 : w1.cell? ⟨w.heap.size, 5 * 1 + 5, none⟩ = some (.bool S.t1.failed) := (hb1.cell (p := ⟨w.heap.size, 5 * 1 + 5, none⟩) (by simp; omega)).trans (by rw [World.cell?_alloc_past _ _ _ (by simp; omega), World.cell?_alloc_past _ _ _ (by simp), box_cell]; rfl)
 have x2 : w1.cell? ⟨w.heap.size, 5 * 1 + 6, none⟩ = some (.int .i16 S.t1.reg) := (hb1.cell (p := ⟨w.heap.size, 5 * 1 + 6, none⟩) (by simp; omega)).trans (by rw [World.cell?_alloc_past _ _ _ (by simp; omega), World.cell?_alloc_past _ _ _ (by simp), box_cell]; rfl)
 have x3 : w1.cell? ⟨w.heap.size, 5 * 1 + 7, none⟩ = some (.int .i64 (S.t1.h0 : Int)) := (hb1.cell (p := ⟨w.heap.size, 5 * 1 + 7, none⟩) (by simp; omega)).trans (by rw [World.cell?_alloc_past _ _ _ (by simp; omega), World.cell?_alloc_past _ _ _ (by simp), box_cell]; rfl)
 have x4 : w1.cell? ⟨w.heap.size, 5 * 1 + 8, none⟩ = some (.int .i64 (S.t1.h1 : Int)) := (hb1.cell (p := ⟨w.heap.size, 5 * 1 + 8, none⟩) (by simp; omega)).trans (by rw [World.cell?_alloc_past _ _ _ (by simp; omega), World.cell?_alloc_past _ _ _ (by simp), box_cell]; rfl)
 have y0 : w1.cell? ⟨w.heap.size + 1 + 1, 0, none⟩ = some (.int .u8 0) := (hb1.cell (p := ⟨w.heap.size + 1 + 1, 0, none⟩) (by simp)).trans (by simp [go_sem])
 have y1 : w1.cell? ⟨w.heap.size + 1 + 1, 1, none⟩ = some (.int .u8 0) := (hb1.cell (p := ⟨w.heap.size + 1 + 1, 1, none⟩) (by simp)).trans (by simp [go_sem])
 have y2 : w1.cell? ⟨w.heap.size + 1 + 1, 2, none⟩ = some (.int .i64 0) := (hb1.cell (p := ⟨w.heap.size + 1 + 1, 2, none⟩) (by simp)).trans (by simp [go_sem])
 have yf : ∀ j, w1.frozen? ⟨w.heap.size + 1 + 1, j, none⟩ = false := fun j => (hb1.frozen (p := ⟨w.heap.size + 1 + 1, j, none⟩) (by simp)).trans (by simp [go_sem])
 have hb1' := (hb3 _ _ _).trans (hb1.mono (by simp; omega))
 have hz1 := hb1.size
 simp only [World.size_alloc] at hz1
 have HRW : Hid (RowIn w1 lo hi b c (rowOf p 1)) := hrw
 clear hrw hb1
 simp only [Nat.reduceMul, Nat.reduceAdd] at x0 x1 x2 x3 x4
 go_wp2_with fail
 refine (operation_any S.t1 (rowOf p 1) b c lo hi _ HRW.out hrow).mono ?_
 rintro e w2 ⟨⟨k, n, b2, hst, rfl⟩, hb2⟩
 have z0 := (hb2.cell (p := ⟨w.heap.size + 1 + 1, 0, none⟩) (by simp; omega)).trans y0
 have z1 := (hb2.cell (p := ⟨w.heap.size + 1 + 1, 1, none⟩) (by simp; omega)).trans y1
 have z2 := (hb2.cell (p := ⟨w.heap.size + 1 + 1, 2, none⟩) (by simp; omega)).trans y2
 have zf := fun j => (hb2.frozen (p := ⟨w.heap.size + 1 + 1, j, none⟩) (by simp; omega)).trans (yf j)
 have HST : Hid _ := hst
 clear hst
 go_wp2
 refine bodyPost_ret (v := .tuple #[.agg #[.int .u8 (k : Int), .int .u8 (n : Int), .int .i64 b2], .bool (opAt S.t1 (rowOf p 1)).isSome]) (by simp [results, Tryz.results79, go_sem, z0, z1, z2]) rfl ⟨⟨k, n, b2, HST.out, rfl⟩, ?_⟩
 exact (((hb1'.trans (hb2.mono hb1'.size)).setCell (by simp; omega) _).setCell (by simp; omega) _).setCell (by simp; omega) _

theorem stateOp_2 (S : St) (p : List (List Pl.POp)) (a : Option Addr) (cap lo hi : Nat) (w : World) (hp : ProgOk w lo hi a cap p) :
  Calls Tryz.prog 79 #[.agg (stL S).toArray, .agg #[.slice a p.length cap], .int .i64 2] w
   fun e w' => (∃ (k n : Nat) (b : Int), Stood (opAt S.t2 (rowOf p 2)) k n b ∧ e = .returned (.tuple #[.agg #[.int .u8 (k : Int), .int .u8 (n : Int), .int .i64 b], .bool (opAt S.t2 (rowOf p 2)).isSome])) ∧ Below w.heap.size w w' := by
 have hrow := (hp.row 2).1
 have HP : Hid (ProgOk w lo hi a cap p) := hp
 clear hp
 have hb3 := fun (x y z : Obj) => three_new w x y z
 go_enter Tryz.func79, Tryz.ntmps79
 go_wp2_with fail
 refine (thread_any p a cap lo hi _ _ (HP.out.below (hb3 _ _ _) HP.out.size).rows (HP.out.below (hb3 _ _ _) HP.out.size).size HP.out.few).mono ?_
 rintro e w1 ⟨⟨b, c, rfl, hrw⟩, hb1⟩
 have x0 : w1.cell? ⟨w.heap.size, 5 * 2 + 4, none⟩ = some (.int .i64 (S.t2.pos : Int)) := (hb1.cell (p := ⟨w.heap.size, 5 * 2 + 4, none⟩) (by simp; omega)).trans (by rw [World.cell?_alloc_past _ _ _ (by simp; omega), World.cell?_alloc_past _ _ _ (by simp), box_cell]; rfl)
 have x1 : w1.cell? ⟨w.heap.size, 5 * 2 + 5, none⟩ = some (.bool S.t2.failed) := (hb1.cell (p := ⟨w.heap.size, 5 * 2 + 5, none⟩) (by simp; omega)).trans (by rw [World.cell?_alloc_past _ _ _ (by simp; omega), World.cell?_alloc_past _ _ _ (by simp), box_cell]; rfl)
 have x2 : w1.cell? ⟨w.heap.size, 5 * 2 + 6, none⟩ = some (.int .i16 S.t2.reg) := (hb1.cell (p := ⟨w.heap.size, 5 * 2 + 6, none⟩) (by simp; omega)).trans (by rw [World.cell?_alloc_past _ _ _ (by simp; omega), World.cell?_alloc_past _ _ _ (by simp), box_cell]; rfl)
 have x3 : w1.cell? ⟨w.heap.size, 5 * 2 + 7, none⟩ = some (.int .i64 (S.t2.h0 : Int)) := (hb1.cell (p := ⟨w.heap.size, 5 * 2 + 7, none⟩) (by simp; omega)).trans (by rw [World.cell?_alloc_past _ _ _ (by simp; omega), World.cell?_alloc_past _ _ _ (by simp), box_cell]; rfl)
 have x4 : w1.cell? ⟨w.heap.size, 5 * 2 + 8, none⟩ = some (.int .i64 (S.t2.h1 : Int)) := (hb1.cell (p := ⟨w.heap.size, 5 * 2 + 8, none⟩) (by simp; omega)).trans (by rw [World.cell?_alloc_past _ _ _ (by simp; omega), World.cell?_alloc_past _ _ _ (by simp), box_cell]; rfl)
 have y0 : w1.cell? ⟨w.heap.size + 1 + 1, 0, none⟩ = some (.int .u8 0) := (hb1.cell (p := ⟨w.heap.size + 1 + 1, 0, none⟩) (by simp)).trans (by simp [go_sem])
 have y1 : w1.cell? ⟨w.heap.size + 1 + 1, 1, none⟩ = some (.int .u8 0) := (hb1.cell (p := ⟨w.heap.size + 1 + 1, 1, none⟩) (by simp)).trans (by simp [go_sem])
 have y2 : w1.cell? ⟨w.heap.size + 1 + 1, 2, none⟩ = some (.int .i64 0) := (hb1.cell (p := ⟨w.heap.size + 1 + 1, 2, none⟩) (by simp)).trans (by simp [go_sem])
 have yf : ∀ j, w1.frozen? ⟨w.heap.size + 1 + 1, j, none⟩ = false := fun j => (hb1.frozen (p := ⟨w.heap.size + 1 + 1, j, none⟩) (by simp)).trans (by simp [go_sem])
 have hb1' := (hb3 _ _ _).trans (hb1.mono (by simp; omega))
 have hz1 := hb1.size
 simp only [World.size_alloc] at hz1
 have HRW : Hid (RowIn w1 lo hi b c (rowOf p 2)) := hrw
 clear hrw hb1
 simp only [Nat.reduceMul, Nat.reduceAdd] at x0 x1 x2 x3 x4
 go_wp2_with fail
 refine (operation_any S.t2 (rowOf p 2) b c lo hi _ HRW.out hrow).mono ?_
 rintro e w2 ⟨⟨k, n, b2, hst, rfl⟩, hb2⟩
 have z0 := (hb2.cell (p := ⟨w.heap.size + 1 + 1, 0, none⟩) (by simp; omega)).trans y0
 have z1 := (hb2.cell (p := ⟨w.heap.size + 1 + 1, 1, none⟩) (by simp; omega)).trans y1
 have z2 := (hb2.cell (p := ⟨w.heap.size + 1 + 1, 2, none⟩) (by simp; omega)).trans y2
 have zf := fun j => (hb2.frozen (p := ⟨w.heap.size + 1 + 1, j, none⟩) (by simp; omega)).trans (yf j)
 have HST : Hid _ := hst
 clear hst
 go_wp2
 refine bodyPost_ret (v := .tuple #[.agg #[.int .u8 (k : Int), .int .u8 (n : Int), .int .i64 b2], .bool (opAt S.t2 (rowOf p 2)).isSome]) (by simp [results, Tryz.results79, go_sem, z0, z1, z2]) rfl ⟨⟨k, n, b2, HST.out, rfl⟩, ?_⟩
 exact (((hb1'.trans (hb2.mono hb1'.size)).setCell (by simp; omega) _).setCell (by simp; omega) _).setCell (by simp; omega) _

theorem stateOp_3 (S : St) (p : List (List Pl.POp)) (a : Option Addr) (cap lo hi : Nat) (w : World) (hp : ProgOk w lo hi a cap p) :
  Calls Tryz.prog 79 #[.agg (stL S).toArray, .agg #[.slice a p.length cap], .int .i64 3] w
   fun e w' => (∃ (k n : Nat) (b : Int), Stood (opAt S.t3 (rowOf p 3)) k n b ∧ e = .returned (.tuple #[.agg #[.int .u8 (k : Int), .int .u8 (n : Int), .int .i64 b], .bool (opAt S.t3 (rowOf p 3)).isSome])) ∧ Below w.heap.size w w' := by
 have hrow := (hp.row 3).1
 have HP : Hid (ProgOk w lo hi a cap p) := hp
 clear hp
 have hb3 := fun (x y z : Obj) => three_new w x y z
 go_enter Tryz.func79, Tryz.ntmps79
 go_wp2_with fail
 refine (thread_any p a cap lo hi _ _ (HP.out.below (hb3 _ _ _) HP.out.size).rows (HP.out.below (hb3 _ _ _) HP.out.size).size HP.out.few).mono ?_
 rintro e w1 ⟨⟨b, c, rfl, hrw⟩, hb1⟩
 have x0 : w1.cell? ⟨w.heap.size, 5 * 3 + 4, none⟩ = some (.int .i64 (S.t3.pos : Int)) := (hb1.cell (p := ⟨w.heap.size, 5 * 3 + 4, none⟩) (by simp; omega)).trans (by rw [World.cell?_alloc_past _ _ _ (by simp; omega), World.cell?_alloc_past _ _ _ (by simp), box_cell]; rfl)
 have x1 : w1.cell? ⟨w.heap.size, 5 * 3 + 5, none⟩ = some (.bool S.t3.failed) := (hb1.cell (p := ⟨w.heap.size, 5 * 3 + 5, none⟩) (by simp; omega)).trans (by rw [World.cell?_alloc_past _ _ _ (by simp; omega), World.cell?_alloc_past _ _ _ (by simp), box_cell]; rfl)
 have x2 : w1.cell? ⟨w.heap.size, 5 * 3 + 6, none⟩ = some (.int .i16 S.t3.reg) := (hb1.cell (p := ⟨w.heap.size, 5 * 3 + 6, none⟩) (by simp; omega)).trans (by rw [World.cell?_alloc_past _ _ _ (by simp; omega), World.cell?_alloc_past _ _ _ (by simp), box_cell]; rfl)
 have x3 : w1.cell? ⟨w.heap.size, 5 * 3 + 7, none⟩ = some (.int .i64 (S.t3.h0 : Int)) := (hb1.cell (p := ⟨w.heap.size, 5 * 3 + 7, none⟩) (by simp; omega)).trans (by rw [World.cell?_alloc_past _ _ _ (by simp; omega), World.cell?_alloc_past _ _ _ (by simp), box_cell]; rfl)
 have x4 : w1.cell? ⟨w.heap.size, 5 * 3 + 8, none⟩ = some (.int .i64 (S.t3.h1 : Int)) := (hb1.cell (p := ⟨w.heap.size, 5 * 3 + 8, none⟩) (by simp; omega)).trans (by rw [World.cell?_alloc_past _ _ _ (by simp; omega), World.cell?_alloc_past _ _ _ (by simp), box_cell]; rfl)
 have y0 : w1.cell? ⟨w.heap.size + 1 + 1, 0, none⟩ = some (.int .u8 0) := (hb1.cell (p := ⟨w.heap.size + 1 + 1, 0, none⟩) (by simp)).trans (by simp [go_sem])
 have y1 : w1.cell? ⟨w.heap.size + 1 + 1, 1, none⟩ = some (.int .u8 0) := (hb1.cell (p := ⟨w.heap.size + 1 + 1, 1, none⟩) (by simp)).trans (by simp [go_sem])
 have y2 : w1.cell? ⟨w.heap.size + 1 + 1, 2, none⟩ = some (.int .i64 0) := (hb1.cell (p := ⟨w.heap.size + 1 + 1, 2, none⟩) (by simp)).trans (by simp [go_sem])
 have yf : ∀ j, w1.frozen? ⟨w.heap.size + 1 + 1, j, none⟩ = false := fun j => (hb1.frozen (p := ⟨w.heap.size + 1 + 1, j, none⟩) (by simp)).trans (by simp [go_sem])
 have hb1' := (hb3 _ _ _).trans (hb1.mono (by simp; omega))
 have hz1 := hb1.size
 simp only [World.size_alloc] at hz1
 have HRW : Hid (RowIn w1 lo hi b c (rowOf p 3)) := hrw
 clear hrw hb1
 simp only [Nat.reduceMul, Nat.reduceAdd] at x0 x1 x2 x3 x4
 go_wp2_with fail
 refine (operation_any S.t3 (rowOf p 3) b c lo hi _ HRW.out hrow).mono ?_
 rintro e w2 ⟨⟨k, n, b2, hst, rfl⟩, hb2⟩
 have z0 := (hb2.cell (p := ⟨w.heap.size + 1 + 1, 0, none⟩) (by simp; omega)).trans y0
 have z1 := (hb2.cell (p := ⟨w.heap.size + 1 + 1, 1, none⟩) (by simp; omega)).trans y1
 have z2 := (hb2.cell (p := ⟨w.heap.size + 1 + 1, 2, none⟩) (by simp; omega)).trans y2
 have zf := fun j => (hb2.frozen (p := ⟨w.heap.size + 1 + 1, j, none⟩) (by simp; omega)).trans (yf j)
 have HST : Hid _ := hst
 clear hst
 go_wp2
 refine bodyPost_ret (v := .tuple #[.agg #[.int .u8 (k : Int), .int .u8 (n : Int), .int .i64 b2], .bool (opAt S.t3 (rowOf p 3)).isSome]) (by simp [results, Tryz.results79, go_sem, z0, z1, z2]) rfl ⟨⟨k, n, b2, HST.out, rfl⟩, ?_⟩
 exact (((hb1'.trans (hb2.mono hb1'.size)).setCell (by simp; omega) _).setCell (by simp; omega) _).setCell (by simp; omega) _

theorem stateOp_out (S : St) (p : List (List Pl.POp)) (a : Option Addr) (cap : Nat) (m : Int) (w : World) (hm : m < 0 ∨ 4 ≤ m) :
  Calls Tryz.prog 79 #[.agg (stL S).toArray, .agg #[.slice a p.length cap], .int .i64 m] w
   fun e w' => e = .returned (.tuple #[.agg #[.int .u8 0, .int .u8 0, .int .i64 0], .bool false]) ∧ Below w.heap.size w w' := by
 rcases hm with hm | hm
 ·go_enter Tryz.func79, Tryz.ntmps79
  go_wp2
  exact bodyPost_ret (v := .tuple #[.agg #[.int .u8 0, .int .u8 0, .int .i64 0], .bool false]) (by simp [results, Tryz.results79, go_sem]) rfl ⟨rfl, three_new _ _ _ _⟩
 ·have h0 : ¬ m < 0 := by omega
  go_enter Tryz.func79, Tryz.ntmps79
  go_wp2
  exact bodyPost_ret (v := .tuple #[.agg #[.int .u8 0, .int .u8 0, .int .i64 0], .bool false]) (by simp [results, Tryz.results79, go_sem]) rfl ⟨rfl, three_new _ _ _ _⟩

theorem stateOp_any (S : St) (p : List (List Pl.POp)) (a : Option Addr) (cap lo hi : Nat) (m : Int) (w : World) (hp : ProgOk w lo hi a cap p) :
  Calls Tryz.prog 79 #[.agg (stL S).toArray, .agg #[.slice a p.length cap], .int .i64 m] w
   fun e w' => (∃ (k n : Nat) (b : Int), Stood (stOp S p m) k n b ∧ e = .returned (.tuple #[.agg #[.int .u8 (k : Int), .int .u8 (n : Int), .int .i64 b], .bool (stOp S p m).isSome])) ∧ Below w.heap.size w w' := by
 by_cases hm : m < 0 ∨ 4 ≤ m
 ·have e : stOp S p m = none := by unfold stOp; rw [if_pos hm]
  rw [e]
  exact (stateOp_out S p a cap m w hm).mono fun e w' ⟨h1, h2⟩ => ⟨⟨0, 0, 0, trivial, h1⟩, h2⟩
 ·have e : stOp S p m = opAt (S.th m.toNat) (rowOf p m) := by unfold stOp; rw [if_neg hm]
  rw [e]
  have : m = 0 ∨ m = 1 ∨ m = 2 ∨ m = 3 := by omega
  rcases this with rfl | rfl | rfl | rfl
  ·exact stateOp_0 S p a cap lo hi w hp
  ·exact stateOp_1 S p a cap lo hi w hp
  ·exact stateOp_2 S p a cap lo hi w hp
  ·exact stateOp_3 S p a cap lo hi w hp

/-- How often a thread holds a lock. -/
def Th.held (t : Th) (l : Nat) : Nat := if l = 0 then t.h0 else t.h1

/-- Does another thread than m hold the lock? -/
def heldTo (S : St) (l : Nat) (m : Int) : Nat → Bool
 | 0 => false
 | k + 1 => heldTo S l m k || (decide ((k : Int) ≠ m) && decide (0 < (S.th k).held l))

end Go.Proofs.YtfdafcnfefbcbabGreat
