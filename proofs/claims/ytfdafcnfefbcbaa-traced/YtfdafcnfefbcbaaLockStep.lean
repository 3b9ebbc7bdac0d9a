/-
  The contract of lockStep.
-/
import Derived.Test.YtfdafcnfefbcbaaLine
import Derived.BigQuiet
import Derived.Deep.QuietTactic
namespace Go.Proofs.Ytfdafcnfefbcbaa
open Go.RowKit
set_option linter.unusedVariables false

/-- How often each thread holds each lock, in memory. -/
def HeldAt (w : World) (B : Nat) (h : Nat → Nat → Nat) : Prop := ∀ t k, t < 4 → k < 2 → w.cell? ⟨B, t * 2 + k, none⟩ = some (.int .i64 (h t k : Int)) ∧ w.frozen? ⟨B, t * 2 + k, none⟩ = false
/-- Who has failed, in memory. -/
def GoneAt (w : World) (C : Nat) (g : Nat → Bool) : Prop := ∀ t, t < 4 → w.cell? ⟨C, t, none⟩ = some (.bool (g t)) ∧ w.frozen? ⟨C, t, none⟩ = false

/-- Nothing that was there turns but two blocks. -/
def Apart (w w' : World) (B C : Nat) : Prop := w.heap.size ≤ w'.heap.size ∧ ∀ x, x < w.heap.size → x ≠ B → x ≠ C → w'.heap[x]? = w.heap[x]?

theorem HeldAt.below {w w' : World} {B N : Nat} {h : Nat → Nat → Nat} (hh : HeldAt w B h) (hb : Below N w w') (hN : B < N) : HeldAt w' B h := fun t k ht hk =>
  ⟨(hb.cell (p := ⟨B, t * 2 + k, none⟩) hN).trans (hh t k ht hk).1, (hb.frozen (p := ⟨B, t * 2 + k, none⟩) hN).trans (hh t k ht hk).2⟩
theorem GoneAt.below {w w' : World} {C N : Nat} {g : Nat → Bool} (hh : GoneAt w C g) (hb : Below N w w') (hN : C < N) : GoneAt w' C g := fun t ht =>
  ⟨(hb.cell (p := ⟨C, t, none⟩) hN).trans (hh t ht).1, (hb.frozen (p := ⟨C, t, none⟩) hN).trans (hh t ht).2⟩

theorem HeldAt.put {w : World} {B : Nat} {h : Nat → Nat → Nat} (hh : HeldAt w B h) {t k : Nat} (ht : t < 4) (hk : k < 2) (n : Nat) (v : Int) (hv : v = (n : Int)) : HeldAt (w.setCell ⟨B, t * 2 + k, none⟩ (.int .i64 v)) B (fun t' k' => if t' = t ∧ k' = k then n else h t' k') := fun t' k' ht' hk' => by
  refine ⟨?_, by rw [World.frozen?_setCell]; exact (hh t' k' ht' hk').2⟩
  by_cases he : t' = t ∧ k' = k
  · obtain ⟨rfl, rfl⟩ := he
    simp only [and_self, if_true]
    rw [hv]
    exact World.cell?_setCell_same _ _ _ (hh t' k' ht' hk').1
  · simp only [he, if_false]
    refine (World.cell?_setCell_other _ _ _ _ ?_).trans (hh t' k' ht' hk').1
    intro e
    have h1 := congrArg Addr.off e
    simp only at h1
    exact he ⟨by omega, by omega⟩

theorem GoneAt.other {w : World} {B C : Nat} {g : Nat → Bool} (hh : GoneAt w C g) (hne : B ≠ C) (i : Nat) (v : Value) : GoneAt (w.setCell ⟨B, i, none⟩ v) C g := fun t ht =>
  ⟨(World.cell?_setCell_other _ _ _ _ (by simp [])).trans (hh t ht).1, by rw [World.frozen?_setCell]; exact (hh t ht).2⟩
theorem HeldAt.other {w : World} {B C : Nat} {h : Nat → Nat → Nat} (hh : HeldAt w B h) (hne : C ≠ B) (i : Nat) (v : Value) : HeldAt (w.setCell ⟨C, i, none⟩ v) B h := fun t k ht hk =>
  ⟨(World.cell?_setCell_other _ _ _ _ (by simp [])).trans (hh t k ht hk).1, by rw [World.frozen?_setCell]; exact (hh t k ht hk).2⟩
theorem GoneAt.put {w : World} {C : Nat} {g : Nat → Bool} (hh : GoneAt w C g) {t : Nat} (ht : t < 4) (b : Bool) : GoneAt (w.setCell ⟨C, t, none⟩ (.bool b)) C (fun t' => if t' = t then b else g t') := fun t' ht' => by
  refine ⟨?_, by rw [World.frozen?_setCell]; exact (hh t' ht').2⟩
  by_cases he : t' = t
  · subst he
    simp only [if_true]
    exact World.cell?_setCell_same _ _ _ (hh t' ht').1
  · simp only [he, if_false]
    exact (World.cell?_setCell_other _ _ _ _ (by simp [])).trans (hh t' ht').1

theorem heap_setCell_other (w : World) (a : Addr) (v : Value) (x : Nat) (h : x ≠ a.block) : (w.setCell a v).heap[x]? = w.heap[x]? := by
  simp only [World.setCell, Array.getElem?_modify]
  rw [if_neg (fun e => h e.symm)]

theorem Apart.refl (w : World) (B C : Nat) : Apart w w B C := ⟨Nat.le_refl _, fun _ _ _ _ => rfl⟩
theorem Apart.of_below {w w' : World} {B C N : Nat} (h : Below N w w') (hN : w.heap.size ≤ N) : Apart w w' B C := ⟨h.size, fun x hx _ _ => h.block x (Nat.lt_of_lt_of_le hx hN)⟩
theorem Apart.trans {w w1 w2 : World} {B C : Nat} (h : Apart w w1 B C) (h2 : Apart w1 w2 B C) : Apart w w2 B C := ⟨Nat.le_trans h.1 h2.1, fun x hx h3 h4 => (h2.2 x (Nat.lt_of_lt_of_le hx h.1) h3 h4).trans (h.2 x hx h3 h4)⟩
theorem Apart.set1 {w w1 : World} {B C : Nat} (h : Apart w w1 B C) (i : Nat) (v : Value) : Apart w (w1.setCell ⟨B, i, none⟩ v) B C := ⟨by simpa using h.1, fun x hx h3 h4 => (heap_setCell_other _ _ _ _ h3).trans (h.2 x hx h3 h4)⟩
theorem Apart.set2 {w w1 : World} {B C : Nat} (h : Apart w w1 B C) (i : Nat) (v : Value) : Apart w (w1.setCell ⟨C, i, none⟩ v) B C := ⟨by simpa using h.1, fun x hx h3 h4 => (heap_setCell_other _ _ _ _ h4).trans (h.2 x hx h3 h4)⟩
theorem Apart.cell {w w' : World} {B C : Nat} (h : Apart w w' B C) {a : Addr} (ha : a.block < w.heap.size) (h1 : a.block ≠ B) (h2 : a.block ≠ C) : w'.cell? a = w.cell? a := World.cell?_of_block (h.2 _ ha h1 h2)
theorem Apart.frozen {w w' : World} {B C : Nat} (h : Apart w w' B C) {a : Addr} (ha : a.block < w.heap.size) (h1 : a.block ≠ B) (h2 : a.block ≠ C) : w'.frozen? a = w.frozen? a := World.frozen?_of_block (h.2 _ ha h1 h2)

set_option maxRecDepth 100000 in
set_option maxHeartbeats 2000000 in
theorem lockStep_lock (B C : Nat) (h : Nat → Nat → Nat) (g : Nat → Bool) (t k : Nat) (bk gr : Int) (w : World) (hB : HeldAt w B h) (hC : GoneAt w C g) (hBC2 : B < C) (ht : t < 4) (hk : k < 2) (hs : h t k ≤ 1000) (hno : ∀ u, u < 4 → u ≠ t → h u k = 0) (hlt : B < w.heap.size) (hltC : C < w.heap.size) :
    Calls Try.prog 29 #[.pointer (some ⟨B, 0, none⟩), .pointer (some ⟨C, 0, none⟩), .agg #[.int .i64 (t : Int), .int .u8 108, .int .u8 ((80 + k : Nat) : Int), .int .i16 ((h t k + 1 : Nat) : Int), .int .i64 bk, .int .i64 gr]] w
      fun e w' => e = .returned (.bool true) ∧ Below B w w' ∧ Apart w w' B C ∧ HeldAt w' B (fun t' k' => if t' = t ∧ k' = k then h t k + 1 else h t' k') ∧ GoneAt w' C g := by
  have HB : Hid _ := hB
  have HNO : Hid _ := hno
  have HC : Hid _ := hC
  have hBC : B ≠ C := by omega
  have ht' : (t : Int) < 4 := by omega
  clear hB hno hC
  have hk2 : k = 0 ∨ k = 1 := by omega
  rcases hk2 with rfl | rfl
  · go_enter Try.func29, Try.ntmps29
    go_upto_region 3 with fail
    have HWB : Hid (Below w.heap.size w (w.alloc (.cells #[.int .i64 (t : Int), .int .u8 108, .int .u8 80, .int .i16 ((h t 0 : Int) + 1), .int .i64 bk, .int .i64 gr] 70))) := (Below.refl _ _).alloc (Nat.le_refl _) _
    have e1 : (w.alloc (.cells #[.int .i64 (t : Int), .int .u8 108, .int .u8 80, .int .i16 ((h t 0 : Int) + 1), .int .i64 bk, .int .i64 gr] 70)).cell? ⟨w.heap.size, 1, none⟩ = some (.int .u8 108) := by simp
    have e3 : (w.alloc (.cells #[.int .i64 (t : Int), .int .u8 108, .int .u8 80, .int .i16 ((h t 0 : Int) + 1), .int .i64 bk, .int .i64 gr] 70)).cell? ⟨w.heap.size, 3, none⟩ = some (.int .i16 ((h t 0 : Int) + 1)) := by simp
    have HWZ : Hid ((w.alloc (.cells #[.int .i64 (t : Int), .int .u8 108, .int .u8 80, .int .i16 ((h t 0 : Int) + 1), .int .i64 bk, .int .i64 gr] 70)).heap.size = w.heap.size + 1) := by show _ = _; simp
    generalize (w.alloc (.cells #[.int .i64 (t : Int), .int .u8 108, .int .u8 80, .int .i16 ((h t 0 : Int) + 1), .int .i64 bk, .int .i64 gr] 70)) = W at *
    have HW : Hid (HeldAt W B h) := HeldAt.below HB.out HWB.out hlt
    go_wp2_with fail
    go_loopw [9] (fun v9 wr => ∃ u : Nat, u ≤ 4 ∧ v9 = .int .i64 (u : Int) ∧ Hid (wr = W)) (fun v9 _ => 4 - (intOf v9).toNat)
    case atStart => exact ⟨0, by omega, rfl, (show Hid _ from rfl)⟩
    case round =>
      obtain ⟨u, hu, rfl, H2⟩ := hrel
      have hwr : wr = W := H2.out
      subst hwr
      by_cases hu4 : u < 4
      · have hu' : (u : Int) < 4 := by omega
        by_cases hut : u = t
        · have hut' : ((u : Int) != (t : Int)) = false := by simp; omega
          clear hut
          go_wp2
          go_roundw
          case rel => exact ⟨u + 1, by omega, by go_num, (show Hid _ from by trivial)⟩
          case measure => simp [intOf]; omega
        · have hut' : ((u : Int) != (t : Int)) = true := by simp; omega
          have c0 : wr.cell? ⟨B, u * 2, none⟩ = some (.int .i64 0) := by have := (HW.out u 0 hu4 (by omega)).1; rw [HNO.out u hu4 hut] at this; exact this
          clear hut
          go_wp2
          go_roundw
          case rel => exact ⟨u + 1, by omega, by go_num, (show Hid _ from by trivial)⟩
          case measure => simp [intOf]; omega
      · have hu' : ¬ (u : Int) < 4 := by omega
        have c0 : wr.cell? ⟨B, t * 2, none⟩ = some (.int .i64 (h t 0 : Int)) := (HW.out t 0 ht (by omega)).1
        have f0 : wr.frozen? ⟨B, t * 2, none⟩ = false := (HW.out t 0 ht (by omega)).2
        have hw : IntKind.i64.wrap ((h t 0 : Int) + 1) = (h t 0 : Int) + 1 := by simp [IntKind.wrap, IntKind.bits, IntKind.signed]; omega
        have hw16 : IntKind.i16.wrap ((h t 0 : Int) + 1) = (h t 0 : Int) + 1 := by simp [IntKind.wrap, IntKind.bits, IntKind.signed]; omega
        have HGW : Hid (GoneAt wr C g) := GoneAt.below HC.out HWB.out hltC
        go_wp2_with fail
        go_region_with (fail)
        have v0 : (wr.setCell ⟨B, t * 2, none⟩ (.int .i64 ((h t 0 : Int) + 1))).drew.cell? ⟨B, t * 2, none⟩ = some (.int .i64 ((h t 0 : Int) + 1)) := World.cell?_setCell_same wr _ _ c0
        have v3 : (wr.setCell ⟨B, t * 2, none⟩ (.int .i64 ((h t 0 : Int) + 1))).drew.cell? ⟨w.heap.size, 3, none⟩ = some (.int .i16 ((h t 0 : Int) + 1)) := (World.cell?_setCell_other wr ⟨B, t * 2, none⟩ ⟨w.heap.size, 3, none⟩ _ (by simp <;> omega)).trans e3
        have HV : Hid (HeldAt (wr.setCell ⟨B, t * 2, none⟩ (.int .i64 ((h t 0 : Int) + 1))).drew B (fun t' k' => if t' = t ∧ k' = 0 then h t 0 + 1 else h t' k')) := HeldAt.put (k := 0) HW.out ht (by omega) (h t 0 + 1) ((h t 0 : Int) + 1) (by simp)
        have HGV : Hid (GoneAt (wr.setCell ⟨B, t * 2, none⟩ (.int .i64 ((h t 0 : Int) + 1))).drew C g) := GoneAt.other HGW.out hBC _ _
        have HAV : Hid (Apart w (wr.setCell ⟨B, t * 2, none⟩ (.int .i64 ((h t 0 : Int) + 1))).drew B C) := Apart.set1 (Apart.of_below HWB.out (Nat.le_refl _)) _ _
        have HBV : Hid (Below B w (wr.setCell ⟨B, t * 2, none⟩ (.int .i64 ((h t 0 : Int) + 1))).drew) := ((HWB.out.mono (Nat.le_of_lt hlt)).setCell (Nat.le_refl _) _).drew
        generalize (wr.setCell ⟨B, t * 2, none⟩ (.int .i64 ((h t 0 : Int) + 1))).drew = V at *
        clear c0 f0 e1 e3
        go_wp2_with fail
        go_quiet (fail)
        go_wp2
        go_ret
        have hdr := below_drewN (Below.refl V.heap.size V)
        exact ⟨rfl, HBV.out.trans ((hdr _).mono (Nat.le_of_lt (Nat.lt_of_lt_of_le hlt HAV.out.1))), HAV.out.trans (Apart.of_below (hdr _) (Nat.le_refl _)), HeldAt.below HV.out (hdr _) (by have := HAV.out.1; omega), GoneAt.below HGV.out (hdr _) (by have := HAV.out.1; omega)⟩
  · go_enter Try.func29, Try.ntmps29
    go_upto_region 3 with fail
    have HWB : Hid (Below w.heap.size w (w.alloc (.cells #[.int .i64 (t : Int), .int .u8 108, .int .u8 81, .int .i16 ((h t 1 : Int) + 1), .int .i64 bk, .int .i64 gr] 70))) := (Below.refl _ _).alloc (Nat.le_refl _) _
    have e1 : (w.alloc (.cells #[.int .i64 (t : Int), .int .u8 108, .int .u8 81, .int .i16 ((h t 1 : Int) + 1), .int .i64 bk, .int .i64 gr] 70)).cell? ⟨w.heap.size, 1, none⟩ = some (.int .u8 108) := by simp
    have e3 : (w.alloc (.cells #[.int .i64 (t : Int), .int .u8 108, .int .u8 81, .int .i16 ((h t 1 : Int) + 1), .int .i64 bk, .int .i64 gr] 70)).cell? ⟨w.heap.size, 3, none⟩ = some (.int .i16 ((h t 1 : Int) + 1)) := by simp
    have HWZ : Hid ((w.alloc (.cells #[.int .i64 (t : Int), .int .u8 108, .int .u8 81, .int .i16 ((h t 1 : Int) + 1), .int .i64 bk, .int .i64 gr] 70)).heap.size = w.heap.size + 1) := by show _ = _; simp
    generalize (w.alloc (.cells #[.int .i64 (t : Int), .int .u8 108, .int .u8 81, .int .i16 ((h t 1 : Int) + 1), .int .i64 bk, .int .i64 gr] 70)) = W at *
    have HW : Hid (HeldAt W B h) := HeldAt.below HB.out HWB.out hlt
    go_wp2_with fail
    go_loopw [9] (fun v9 wr => ∃ u : Nat, u ≤ 4 ∧ v9 = .int .i64 (u : Int) ∧ Hid (wr = W)) (fun v9 _ => 4 - (intOf v9).toNat)
    case atStart => exact ⟨0, by omega, rfl, (show Hid _ from rfl)⟩
    case round =>
      obtain ⟨u, hu, rfl, H2⟩ := hrel
      have hwr : wr = W := H2.out
      subst hwr
      by_cases hu4 : u < 4
      · have hu' : (u : Int) < 4 := by omega
        by_cases hut : u = t
        · have hut' : ((u : Int) != (t : Int)) = false := by simp; omega
          clear hut
          go_wp2
          go_roundw
          case rel => exact ⟨u + 1, by omega, by go_num, (show Hid _ from by trivial)⟩
          case measure => simp [intOf]; omega
        · have hut' : ((u : Int) != (t : Int)) = true := by simp; omega
          have c0 : wr.cell? ⟨B, u * 2 + 1, none⟩ = some (.int .i64 0) := by have := (HW.out u 1 hu4 (by omega)).1; rw [HNO.out u hu4 hut] at this; exact this
          clear hut
          go_wp2
          go_roundw
          case rel => exact ⟨u + 1, by omega, by go_num, (show Hid _ from by trivial)⟩
          case measure => simp [intOf]; omega
      · have hu' : ¬ (u : Int) < 4 := by omega
        have c0 : wr.cell? ⟨B, t * 2 + 1, none⟩ = some (.int .i64 (h t 1 : Int)) := (HW.out t 1 ht (by omega)).1
        have f0 : wr.frozen? ⟨B, t * 2 + 1, none⟩ = false := (HW.out t 1 ht (by omega)).2
        have hw : IntKind.i64.wrap ((h t 1 : Int) + 1) = (h t 1 : Int) + 1 := by simp [IntKind.wrap, IntKind.bits, IntKind.signed]; omega
        have hw16 : IntKind.i16.wrap ((h t 1 : Int) + 1) = (h t 1 : Int) + 1 := by simp [IntKind.wrap, IntKind.bits, IntKind.signed]; omega
        have HGW : Hid (GoneAt wr C g) := GoneAt.below HC.out HWB.out hltC
        go_wp2_with fail
        go_region_with (fail)
        have v0 : (wr.setCell ⟨B, t * 2 + 1, none⟩ (.int .i64 ((h t 1 : Int) + 1))).drew.cell? ⟨B, t * 2 + 1, none⟩ = some (.int .i64 ((h t 1 : Int) + 1)) := World.cell?_setCell_same wr _ _ c0
        have v3 : (wr.setCell ⟨B, t * 2 + 1, none⟩ (.int .i64 ((h t 1 : Int) + 1))).drew.cell? ⟨w.heap.size, 3, none⟩ = some (.int .i16 ((h t 1 : Int) + 1)) := (World.cell?_setCell_other wr ⟨B, t * 2 + 1, none⟩ ⟨w.heap.size, 3, none⟩ _ (by simp <;> omega)).trans e3
        have HV : Hid (HeldAt (wr.setCell ⟨B, t * 2 + 1, none⟩ (.int .i64 ((h t 1 : Int) + 1))).drew B (fun t' k' => if t' = t ∧ k' = 1 then h t 1 + 1 else h t' k')) := HeldAt.put (k := 1) HW.out ht (by omega) (h t 1 + 1) ((h t 1 : Int) + 1) (by simp)
        have HGV : Hid (GoneAt (wr.setCell ⟨B, t * 2 + 1, none⟩ (.int .i64 ((h t 1 : Int) + 1))).drew C g) := GoneAt.other HGW.out hBC _ _
        have HAV : Hid (Apart w (wr.setCell ⟨B, t * 2 + 1, none⟩ (.int .i64 ((h t 1 : Int) + 1))).drew B C) := Apart.set1 (Apart.of_below HWB.out (Nat.le_refl _)) _ _
        have HBV : Hid (Below B w (wr.setCell ⟨B, t * 2 + 1, none⟩ (.int .i64 ((h t 1 : Int) + 1))).drew) := ((HWB.out.mono (Nat.le_of_lt hlt)).setCell (Nat.le_refl _) _).drew
        generalize (wr.setCell ⟨B, t * 2 + 1, none⟩ (.int .i64 ((h t 1 : Int) + 1))).drew = V at *
        clear c0 f0 e1 e3
        go_wp2_with fail
        go_quiet (fail)
        go_wp2
        go_ret
        have hdr := below_drewN (Below.refl V.heap.size V)
        exact ⟨rfl, HBV.out.trans ((hdr _).mono (Nat.le_of_lt (Nat.lt_of_lt_of_le hlt HAV.out.1))), HAV.out.trans (Apart.of_below (hdr _) (Nat.le_refl _)), HeldAt.below HV.out (hdr _) (by have := HAV.out.1; omega), GoneAt.below HGV.out (hdr _) (by have := HAV.out.1; omega)⟩

set_option maxRecDepth 100000 in
set_option maxHeartbeats 2000000 in
theorem lockStep_unlock (B C : Nat) (h : Nat → Nat → Nat) (g : Nat → Bool) (t k : Nat) (bk gr : Int) (w : World) (hB : HeldAt w B h) (hC : GoneAt w C g) (hBC2 : B < C) (ht : t < 4) (hk : k < 2) (hs : h t k ≤ 1000) (hp : 0 < h t k) (hlt : B < w.heap.size) (hltC : C < w.heap.size) :
    Calls Try.prog 29 #[.pointer (some ⟨B, 0, none⟩), .pointer (some ⟨C, 0, none⟩), .agg #[.int .i64 (t : Int), .int .u8 117, .int .u8 ((80 + k : Nat) : Int), .int .i16 ((h t k : Int) - 1), .int .i64 bk, .int .i64 gr]] w
      fun e w' => e = .returned (.bool true) ∧ Below B w w' ∧ Apart w w' B C ∧ HeldAt w' B (fun t' k' => if t' = t ∧ k' = k then h t k - 1 else h t' k') ∧ GoneAt w' C g := by
  have HB : Hid _ := hB
  have HC : Hid _ := hC
  have hBC : B ≠ C := by omega
  have ht' : (t : Int) < 4 := by omega
  clear hB hC
  have hk2 : k = 0 ∨ k = 1 := by omega
  rcases hk2 with rfl | rfl
  · go_enter Try.func29, Try.ntmps29
    go_upto_region 3 with fail
    have HWB : Hid (Below w.heap.size w (w.alloc (.cells #[.int .i64 (t : Int), .int .u8 117, .int .u8 80, .int .i16 ((h t 0 : Int) - 1), .int .i64 bk, .int .i64 gr] 70))) := (Below.refl _ _).alloc (Nat.le_refl _) _
    have e1 : (w.alloc (.cells #[.int .i64 (t : Int), .int .u8 117, .int .u8 80, .int .i16 ((h t 0 : Int) - 1), .int .i64 bk, .int .i64 gr] 70)).cell? ⟨w.heap.size, 1, none⟩ = some (.int .u8 117) := by simp
    have e3 : (w.alloc (.cells #[.int .i64 (t : Int), .int .u8 117, .int .u8 80, .int .i16 ((h t 0 : Int) - 1), .int .i64 bk, .int .i64 gr] 70)).cell? ⟨w.heap.size, 3, none⟩ = some (.int .i16 ((h t 0 : Int) - 1)) := by simp
    generalize (w.alloc (.cells #[.int .i64 (t : Int), .int .u8 117, .int .u8 80, .int .i16 ((h t 0 : Int) - 1), .int .i64 bk, .int .i64 gr] 70)) = wr at *
    have HW : Hid (HeldAt wr B h) := HeldAt.below HB.out HWB.out hlt
    have HGW : Hid (GoneAt wr C g) := GoneAt.below HC.out HWB.out hltC
    have c0 : wr.cell? ⟨B, t * 2, none⟩ = some (.int .i64 (h t 0 : Int)) := (HW.out t 0 ht (by omega)).1
    have f0 : wr.frozen? ⟨B, t * 2, none⟩ = false := (HW.out t 0 ht (by omega)).2
    have hw : IntKind.i64.wrap ((h t 0 : Int) - 1) = (h t 0 : Int) - 1 := by simp [IntKind.wrap, IntKind.bits, IntKind.signed]; omega
    have hw16 : IntKind.i16.wrap ((h t 0 : Int) - 1) = (h t 0 : Int) - 1 := by simp [IntKind.wrap, IntKind.bits, IntKind.signed]; omega
    have hz : ((h t 0 : Int) == 0) = false := by simp; omega
    go_wp2_with fail
    go_region_with (fail)
    have v0 : (wr.setCell ⟨B, t * 2, none⟩ (.int .i64 ((h t 0 : Int) - 1))).drew.cell? ⟨B, t * 2, none⟩ = some (.int .i64 ((h t 0 : Int) - 1)) := World.cell?_setCell_same wr _ _ c0
    have v3 : (wr.setCell ⟨B, t * 2, none⟩ (.int .i64 ((h t 0 : Int) - 1))).drew.cell? ⟨w.heap.size, 3, none⟩ = some (.int .i16 ((h t 0 : Int) - 1)) := (World.cell?_setCell_other wr ⟨B, t * 2, none⟩ ⟨w.heap.size, 3, none⟩ _ (by simp <;> omega)).trans e3
    have HV : Hid (HeldAt (wr.setCell ⟨B, t * 2, none⟩ (.int .i64 ((h t 0 : Int) - 1))).drew B (fun t' k' => if t' = t ∧ k' = 0 then h t 0 - 1 else h t' k')) := HeldAt.put (k := 0) HW.out ht (by omega) (h t 0 - 1) ((h t 0 : Int) - 1) (by omega)
    have HGV : Hid (GoneAt (wr.setCell ⟨B, t * 2, none⟩ (.int .i64 ((h t 0 : Int) - 1))).drew C g) := GoneAt.other HGW.out hBC _ _
    have HAV : Hid (Apart w (wr.setCell ⟨B, t * 2, none⟩ (.int .i64 ((h t 0 : Int) - 1))).drew B C) := Apart.set1 (Apart.of_below HWB.out (Nat.le_refl _)) _ _
    have HBV : Hid (Below B w (wr.setCell ⟨B, t * 2, none⟩ (.int .i64 ((h t 0 : Int) - 1))).drew) := ((HWB.out.mono (Nat.le_of_lt hlt)).setCell (Nat.le_refl _) _).drew
    generalize (wr.setCell ⟨B, t * 2, none⟩ (.int .i64 ((h t 0 : Int) - 1))).drew = V at *
    clear c0 f0 e1 e3
    go_wp2_with fail
    go_quiet (fail)
    go_wp2
    go_ret
    have hdr := below_drewN (Below.refl V.heap.size V)
    exact ⟨rfl, HBV.out.trans ((hdr _).mono (Nat.le_of_lt (Nat.lt_of_lt_of_le hlt HAV.out.1))), HAV.out.trans (Apart.of_below (hdr _) (Nat.le_refl _)), HeldAt.below HV.out (hdr _) (by have := HAV.out.1; omega), GoneAt.below HGV.out (hdr _) (by have := HAV.out.1; omega)⟩
  · go_enter Try.func29, Try.ntmps29
    go_upto_region 3 with fail
    have HWB : Hid (Below w.heap.size w (w.alloc (.cells #[.int .i64 (t : Int), .int .u8 117, .int .u8 81, .int .i16 ((h t 1 : Int) - 1), .int .i64 bk, .int .i64 gr] 70))) := (Below.refl _ _).alloc (Nat.le_refl _) _
    have e1 : (w.alloc (.cells #[.int .i64 (t : Int), .int .u8 117, .int .u8 81, .int .i16 ((h t 1 : Int) - 1), .int .i64 bk, .int .i64 gr] 70)).cell? ⟨w.heap.size, 1, none⟩ = some (.int .u8 117) := by simp
    have e3 : (w.alloc (.cells #[.int .i64 (t : Int), .int .u8 117, .int .u8 81, .int .i16 ((h t 1 : Int) - 1), .int .i64 bk, .int .i64 gr] 70)).cell? ⟨w.heap.size, 3, none⟩ = some (.int .i16 ((h t 1 : Int) - 1)) := by simp
    generalize (w.alloc (.cells #[.int .i64 (t : Int), .int .u8 117, .int .u8 81, .int .i16 ((h t 1 : Int) - 1), .int .i64 bk, .int .i64 gr] 70)) = wr at *
    have HW : Hid (HeldAt wr B h) := HeldAt.below HB.out HWB.out hlt
    have HGW : Hid (GoneAt wr C g) := GoneAt.below HC.out HWB.out hltC
    have c0 : wr.cell? ⟨B, t * 2 + 1, none⟩ = some (.int .i64 (h t 1 : Int)) := (HW.out t 1 ht (by omega)).1
    have f0 : wr.frozen? ⟨B, t * 2 + 1, none⟩ = false := (HW.out t 1 ht (by omega)).2
    have hw : IntKind.i64.wrap ((h t 1 : Int) - 1) = (h t 1 : Int) - 1 := by simp [IntKind.wrap, IntKind.bits, IntKind.signed]; omega
    have hw16 : IntKind.i16.wrap ((h t 1 : Int) - 1) = (h t 1 : Int) - 1 := by simp [IntKind.wrap, IntKind.bits, IntKind.signed]; omega
    have hz : ((h t 1 : Int) == 0) = false := by simp; omega
    go_wp2_with fail
    go_region_with (fail)
    have v0 : (wr.setCell ⟨B, t * 2 + 1, none⟩ (.int .i64 ((h t 1 : Int) - 1))).drew.cell? ⟨B, t * 2 + 1, none⟩ = some (.int .i64 ((h t 1 : Int) - 1)) := World.cell?_setCell_same wr _ _ c0
    have v3 : (wr.setCell ⟨B, t * 2 + 1, none⟩ (.int .i64 ((h t 1 : Int) - 1))).drew.cell? ⟨w.heap.size, 3, none⟩ = some (.int .i16 ((h t 1 : Int) - 1)) := (World.cell?_setCell_other wr ⟨B, t * 2 + 1, none⟩ ⟨w.heap.size, 3, none⟩ _ (by simp <;> omega)).trans e3
    have HV : Hid (HeldAt (wr.setCell ⟨B, t * 2 + 1, none⟩ (.int .i64 ((h t 1 : Int) - 1))).drew B (fun t' k' => if t' = t ∧ k' = 1 then h t 1 - 1 else h t' k')) := HeldAt.put (k := 1) HW.out ht (by omega) (h t 1 - 1) ((h t 1 : Int) - 1) (by omega)
    have HGV : Hid (GoneAt (wr.setCell ⟨B, t * 2 + 1, none⟩ (.int .i64 ((h t 1 : Int) - 1))).drew C g) := GoneAt.other HGW.out hBC _ _
    have HAV : Hid (Apart w (wr.setCell ⟨B, t * 2 + 1, none⟩ (.int .i64 ((h t 1 : Int) - 1))).drew B C) := Apart.set1 (Apart.of_below HWB.out (Nat.le_refl _)) _ _
    have HBV : Hid (Below B w (wr.setCell ⟨B, t * 2 + 1, none⟩ (.int .i64 ((h t 1 : Int) - 1))).drew) := ((HWB.out.mono (Nat.le_of_lt hlt)).setCell (Nat.le_refl _) _).drew
    generalize (wr.setCell ⟨B, t * 2 + 1, none⟩ (.int .i64 ((h t 1 : Int) - 1))).drew = V at *
    clear c0 f0 e1 e3
    go_wp2_with fail
    go_quiet (fail)
    go_wp2
    go_ret
    have hdr := below_drewN (Below.refl V.heap.size V)
    exact ⟨rfl, HBV.out.trans ((hdr _).mono (Nat.le_of_lt (Nat.lt_of_lt_of_le hlt HAV.out.1))), HAV.out.trans (Apart.of_below (hdr _) (Nat.le_refl _)), HeldAt.below HV.out (hdr _) (by have := HAV.out.1; omega), GoneAt.below HGV.out (hdr _) (by have := HAV.out.1; omega)⟩

set_option maxRecDepth 100000 in
set_option maxHeartbeats 2000000 in
theorem lockStep_fail (B C : Nat) (h : Nat → Nat → Nat) (g : Nat → Bool) (t k : Nat) (bk gr : Int) (w : World) (hB : HeldAt w B h) (hC : GoneAt w C g) (hBC2 : B < C) (ht : t < 4) (hk : k < 2) (hz : h t k = 0) (hlt : B < w.heap.size) (hltC : C < w.heap.size) :
    Calls Try.prog 29 #[.pointer (some ⟨B, 0, none⟩), .pointer (some ⟨C, 0, none⟩), .agg #[.int .i64 (t : Int), .int .u8 117, .int .u8 ((80 + k : Nat) : Int), .int .i16 (-1), .int .i64 bk, .int .i64 gr]] w
      fun e w' => e = .returned (.bool true) ∧ Below B w w' ∧ Apart w w' B C ∧ HeldAt w' B h ∧ GoneAt w' C (fun t' => if t' = t then true else g t') := by
  have HB : Hid _ := hB
  have HC : Hid _ := hC
  have hBC : B ≠ C := by omega
  have ht' : (t : Int) < 4 := by omega
  clear hB hC
  have hk2 : k = 0 ∨ k = 1 := by omega
  rcases hk2 with rfl | rfl
  · go_enter Try.func29, Try.ntmps29
    go_upto_region 3 with fail
    have HWB : Hid (Below w.heap.size w (w.alloc (.cells #[.int .i64 (t : Int), .int .u8 117, .int .u8 80, .int .i16 (-1), .int .i64 bk, .int .i64 gr] 70))) := (Below.refl _ _).alloc (Nat.le_refl _) _
    have e1 : (w.alloc (.cells #[.int .i64 (t : Int), .int .u8 117, .int .u8 80, .int .i16 (-1), .int .i64 bk, .int .i64 gr] 70)).cell? ⟨w.heap.size, 1, none⟩ = some (.int .u8 117) := by simp
    have e3 : (w.alloc (.cells #[.int .i64 (t : Int), .int .u8 117, .int .u8 80, .int .i16 (-1), .int .i64 bk, .int .i64 gr] 70)).cell? ⟨w.heap.size, 3, none⟩ = some (.int .i16 (-1)) := by simp
    generalize (w.alloc (.cells #[.int .i64 (t : Int), .int .u8 117, .int .u8 80, .int .i16 (-1), .int .i64 bk, .int .i64 gr] 70)) = wr at *
    have HW : Hid (HeldAt wr B h) := HeldAt.below HB.out HWB.out hlt
    have HGW : Hid (GoneAt wr C g) := GoneAt.below HC.out HWB.out hltC
    have c0 : wr.cell? ⟨B, t * 2, none⟩ = some (.int .i64 0) := by have := (HW.out t 0 ht (by omega)).1; rw [hz] at this; exact this
    have g0 := (HGW.out t ht).1
    have g1 := (HGW.out t ht).2
    have hneC : C ≠ w.heap.size := by omega
    go_wp2
    go_ret
    exact ⟨rfl, (HWB.out.mono (Nat.le_of_lt hlt)).setCell (show B ≤ C by omega) _, Apart.set2 (Apart.of_below HWB.out (Nat.le_refl _)) _ _, HeldAt.other HW.out (Ne.symm hBC) _ _, GoneAt.put HGW.out ht true⟩
  · go_enter Try.func29, Try.ntmps29
    go_upto_region 3 with fail
    have HWB : Hid (Below w.heap.size w (w.alloc (.cells #[.int .i64 (t : Int), .int .u8 117, .int .u8 81, .int .i16 (-1), .int .i64 bk, .int .i64 gr] 70))) := (Below.refl _ _).alloc (Nat.le_refl _) _
    have e1 : (w.alloc (.cells #[.int .i64 (t : Int), .int .u8 117, .int .u8 81, .int .i16 (-1), .int .i64 bk, .int .i64 gr] 70)).cell? ⟨w.heap.size, 1, none⟩ = some (.int .u8 117) := by simp
    have e3 : (w.alloc (.cells #[.int .i64 (t : Int), .int .u8 117, .int .u8 81, .int .i16 (-1), .int .i64 bk, .int .i64 gr] 70)).cell? ⟨w.heap.size, 3, none⟩ = some (.int .i16 (-1)) := by simp
    generalize (w.alloc (.cells #[.int .i64 (t : Int), .int .u8 117, .int .u8 81, .int .i16 (-1), .int .i64 bk, .int .i64 gr] 70)) = wr at *
    have HW : Hid (HeldAt wr B h) := HeldAt.below HB.out HWB.out hlt
    have HGW : Hid (GoneAt wr C g) := GoneAt.below HC.out HWB.out hltC
    have c0 : wr.cell? ⟨B, t * 2 + 1, none⟩ = some (.int .i64 0) := by have := (HW.out t 1 ht (by omega)).1; rw [hz] at this; exact this
    have g0 := (HGW.out t ht).1
    have g1 := (HGW.out t ht).2
    have hneC : C ≠ w.heap.size := by omega
    go_wp2
    go_ret
    exact ⟨rfl, (HWB.out.mono (Nat.le_of_lt hlt)).setCell (show B ≤ C by omega) _, Apart.set2 (Apart.of_below HWB.out (Nat.le_refl _)) _ _, HeldAt.other HW.out (Ne.symm hBC) _ _, GoneAt.put HGW.out ht true⟩

end Go.Proofs.Ytfdafcnfefbcbaa
