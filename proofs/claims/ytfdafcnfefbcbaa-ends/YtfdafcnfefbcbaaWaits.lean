/-
  The contract of waits.
-/
import Derived.Test.YtfdafcnfefbcbaaCan
namespace Go.Proofs.Ytfdafcnfefbcbaa
open Go.RowKit
set_option linter.unusedVariables false
attribute [local go_sem ↓] Go.wp_at_zero Go.wp_at_succ exec_load_state
attribute [local go_sem] ptrB isPtr0

set_option maxRecDepth 100000 in
set_option maxHeartbeats 2000000 in
theorem waits_any (S : St) (p : List (List Pl.POp)) (a : Option Addr) (cap lo hi : Nat) (m : Int) (w : World) (hp : ProgOk w lo hi a cap p) :
    Calls Try.prog 108 #[.agg (stL S).toArray, .agg #[.slice a p.length cap], .int .i64 m] w
      fun e w' => e = .returned (.bool (waits S p m)) ∧ Below w.heap.size w w' := by
  have HP : Hid (ProgOk w lo hi a cap p) := hp
  clear hp
  have hb2 := fun (x y : Obj) => two_new w x y
  have hr : ∀ y, ((w.alloc (.cells (stL S).toArray 117)).alloc y).rangeAt w.heap.size 0 (stL S) := fun y => World.rangeAt_alloc (box_all w S) y
  go_enter Try.func108, Try.ntmps108
  go_wp2_with (first | (refine wpList_load_mid rfl 117 _ rfl w.heap.size 0 rfl (stL S) _ (hr _) Try.underlying117 rfl Try.size117 ?_))
  refine (stateOp_any S p a cap lo hi m _ (HP.out.below (hb2 _ _) HP.out.size)).mono ?_
  rintro e w1 ⟨⟨k, n, b, hst, rfl⟩, hb1⟩
  have hb1' := (hb2 _ _).trans (hb1.mono (by simp; omega))
  cases ho : stOp S p m with
  | none =>
    have hc : Hid (waits S p m = false) := by show waits S p m = _; unfold waits; rw [ho]
    go_wp2
    go_ret
    exact ⟨ret_bool hc.out.symm, hb1'.alloc hb1'.size _⟩
  | some o =>
    rw [ho] at hst
    obtain ⟨rfl, rfl, rfl⟩ := hst
    by_cases hk : o.kind = 108
    · have hc : Hid (waits S p m = heldTo S (lockOf o.name) m 4) := by show waits S p m = _; unfold waits; rw [ho]; simp [hk]
      have hk' : ((o.kind : Int) == 108) = true := by simp; omega
      have r1 : ∀ j, w1.cell? ⟨w.heap.size, j, none⟩ = (stL S)[j]? := all_below (fun j => by rw [World.cell?_alloc_past _ _ _ (by simp), box_cell]) hb1 (by simp; omega)
      clear hk ho
      go_wp2_with fail
      have hz1 := hb1.size
      simp only [World.size_alloc] at hz1
      have hbW : Below w.heap.size w (w1.alloc (.cells #[.int .u8 (o.kind : Int), .int .u8 (o.name : Int), .int .i64 o.block] 141)) := hb1'.alloc hb1'.size _
      have c0 : (w1.alloc (.cells #[.int .u8 (o.kind : Int), .int .u8 (o.name : Int), .int .i64 o.block] 141)).cell? ⟨w1.heap.size, 0, none⟩ = some (.int .u8 (o.kind : Int)) := by simp [go_sem]
      have c1 : (w1.alloc (.cells #[.int .u8 (o.kind : Int), .int .u8 (o.name : Int), .int .i64 o.block] 141)).cell? ⟨w1.heap.size, 1, none⟩ = some (.int .u8 (o.name : Int)) := by simp [go_sem]
      have c2 : (w1.alloc (.cells #[.int .u8 (o.kind : Int), .int .u8 (o.name : Int), .int .i64 o.block] 141)).cell? ⟨w1.heap.size, 2, none⟩ = some (.int .i64 o.block) := by simp [go_sem]
      have r2 := all_below r1 (Below.alloc (Below.refl w1.heap.size _) (Nat.le_refl _) (.cells #[.int .u8 (o.kind : Int), .int .u8 (o.name : Int), .int .i64 o.block] 141)) (by omega)
      have hWz : (w1.alloc (.cells #[.int .u8 (o.kind : Int), .int .u8 (o.name : Int), .int .i64 o.block] 141)).heap.size = w1.heap.size + 1 := by simp
      generalize w1.alloc (.cells #[.int .u8 (o.kind : Int), .int .u8 (o.name : Int), .int .i64 o.block] 141) = W at *
      have lt1 : w1.heap.size < W.heap.size := by omega
      have lt0 : w.heap.size < W.heap.size := by omega
      have hl2 := lockOf_two o.name
      have HBW : Hid _ := hbW
      clear hbW hb1 hb1' hWz hz1 hr r1
      go_region_held3 (fun w' => w'.cell? ⟨w1.heap.size, 0, none⟩ = some (.int .u8 (o.kind : Int)) ∧ w'.cell? ⟨w1.heap.size, 1, none⟩ = some (.int .u8 (o.name : Int)) ∧ w'.cell? ⟨w1.heap.size, 2, none⟩ = some (.int .i64 o.block) ∧ okS w' w.heap.size ∧ rd w' w.heap.size = (stL S).toArray)
        (first | exact ⟨c0, c1, c2, rd_of r2⟩ | exact ⟨(hw3.cell (p := ⟨w1.heap.size, 0, none⟩) lt1).trans c0, (hw3.cell (p := ⟨w1.heap.size, 1, none⟩) lt1).trans c1, (hw3.cell (p := ⟨w1.heap.size, 2, none⟩) lt1).trans c2, rd_of (all_below r2 hw3 lt0)⟩ | exact ⟨(hw4.cell (p := ⟨w1.heap.size, 0, none⟩) lt1).trans c0, (hw4.cell (p := ⟨w1.heap.size, 1, none⟩) lt1).trans c1, (hw4.cell (p := ⟨w1.heap.size, 2, none⟩) lt1).trans c2, rd_of (all_below r2 hw4 lt0)⟩)
        (first | (go_at_call 107; refine (lock_any _ _ _ _).mono ?_; rintro e w3 ⟨rfl, hw3'⟩; have hw3 : Below W.heap.size W w3 := (Below.refl _ _).drew.trans (hw3'.mono (Nat.le_refl _))) | (go_at_call 106; refine (heldByOther_any S _ hl2 _ _).mono ?_; rintro e w4 ⟨rfl, hw4'⟩; have hw4 : Below W.heap.size W w4 := hw3.trans (hw4'.mono hw3.size)))
      go_wp2
      go_ret
      exact ⟨ret_bool hc.out.symm, HBW.out.trans (hw4.mono HBW.out.size)⟩
    · have hc : Hid (waits S p m = false) := by show waits S p m = _; unfold waits; rw [ho]; simp [hk]
      have hk' : ((o.kind : Int) == 108) = false := by simp; omega
      clear hk ho
      go_wp2_with fail
      go_quiet (fail)
      go_wp2
      go_ret
      exact ⟨ret_bool hc.out.symm, below_drewN (hb1'.alloc hb1'.size _) _⟩

end Go.Proofs.Ytfdafcnfefbcbaa
