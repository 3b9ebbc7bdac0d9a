/-
  The contract of heldByOther.
-/
import Derived.Test.YtfdafcnfefbcbaaState
namespace Go.Proofs.Ytfdafcnfefbcbaa
open Go.RowKit
set_option linter.unusedVariables false

theorem index_0 (x0 x1 x2 x3 x4 x5 x6 x7 x8 x9 x10 x11 x12 x13 x14 x15 x16 x17 x18 x19 : Value) (w : World) : (Instr.index 115 (.agg #[x0, x1, x2, x3, x4, x5, x6, x7, x8, x9, x10, x11, x12, x13, x14, x15, x16, x17, x18, x19]) (.int .i64 0)).run Try.prog w = .ok (.agg #[x0, x1, x2, x3, x4]) w := by kernel_rfl
theorem ths_0 (S : St) (w : World) : (Instr.index 115 (.agg (thsL S).toArray) (.int .i64 0)).run Try.prog w = .ok (.agg #[.int .i64 (S.t0.pos : Int), .bool S.t0.failed, .int .i16 S.t0.reg, .int .i64 (S.t0.h0 : Int), .int .i64 (S.t0.h1 : Int)]) w := index_0 _ _ _ _ _ _ _ _ _ _ _ _ _ _ _ _ _ _ _ _ w
theorem index_1 (x0 x1 x2 x3 x4 x5 x6 x7 x8 x9 x10 x11 x12 x13 x14 x15 x16 x17 x18 x19 : Value) (w : World) : (Instr.index 115 (.agg #[x0, x1, x2, x3, x4, x5, x6, x7, x8, x9, x10, x11, x12, x13, x14, x15, x16, x17, x18, x19]) (.int .i64 1)).run Try.prog w = .ok (.agg #[x5, x6, x7, x8, x9]) w := by kernel_rfl
theorem ths_1 (S : St) (w : World) : (Instr.index 115 (.agg (thsL S).toArray) (.int .i64 1)).run Try.prog w = .ok (.agg #[.int .i64 (S.t1.pos : Int), .bool S.t1.failed, .int .i16 S.t1.reg, .int .i64 (S.t1.h0 : Int), .int .i64 (S.t1.h1 : Int)]) w := index_1 _ _ _ _ _ _ _ _ _ _ _ _ _ _ _ _ _ _ _ _ w
theorem index_2 (x0 x1 x2 x3 x4 x5 x6 x7 x8 x9 x10 x11 x12 x13 x14 x15 x16 x17 x18 x19 : Value) (w : World) : (Instr.index 115 (.agg #[x0, x1, x2, x3, x4, x5, x6, x7, x8, x9, x10, x11, x12, x13, x14, x15, x16, x17, x18, x19]) (.int .i64 2)).run Try.prog w = .ok (.agg #[x10, x11, x12, x13, x14]) w := by kernel_rfl
theorem ths_2 (S : St) (w : World) : (Instr.index 115 (.agg (thsL S).toArray) (.int .i64 2)).run Try.prog w = .ok (.agg #[.int .i64 (S.t2.pos : Int), .bool S.t2.failed, .int .i16 S.t2.reg, .int .i64 (S.t2.h0 : Int), .int .i64 (S.t2.h1 : Int)]) w := index_2 _ _ _ _ _ _ _ _ _ _ _ _ _ _ _ _ _ _ _ _ w
theorem index_3 (x0 x1 x2 x3 x4 x5 x6 x7 x8 x9 x10 x11 x12 x13 x14 x15 x16 x17 x18 x19 : Value) (w : World) : (Instr.index 115 (.agg #[x0, x1, x2, x3, x4, x5, x6, x7, x8, x9, x10, x11, x12, x13, x14, x15, x16, x17, x18, x19]) (.int .i64 3)).run Try.prog w = .ok (.agg #[x15, x16, x17, x18, x19]) w := by kernel_rfl
theorem ths_3 (S : St) (w : World) : (Instr.index 115 (.agg (thsL S).toArray) (.int .i64 3)).run Try.prog w = .ok (.agg #[.int .i64 (S.t3.pos : Int), .bool S.t3.failed, .int .i16 S.t3.reg, .int .i64 (S.t3.h0 : Int), .int .i64 (S.t3.h1 : Int)]) w := index_3 _ _ _ _ _ _ _ _ _ _ _ _ _ _ _ _ _ _ _ _ w

theorem heldTo_succ (S : St) (l : Nat) (m : Int) (k : Nat) : heldTo S l m (k + 1) = (heldTo S l m k || (decide ((k : Int) ≠ m) && decide (0 < (S.th k).held l))) := rfl

theorem held_skip {S : St} {l : Nat} {m : Int} {k : Nat} (h : heldTo S l m k = false) (e : (k : Int) = m) : heldTo S l m (k + 1) = false := by
  rw [heldTo_succ, h]; simp [e]
theorem held_zero {S : St} {l : Nat} {m : Int} {k : Nat} (h : heldTo S l m k = false) (e : ¬ 0 < (S.th k).held l) : heldTo S l m (k + 1) = false := by
  rw [heldTo_succ, h]; simp; omega
theorem held_yes {S : St} {l : Nat} {m : Int} {k : Nat} (e : (k : Int) ≠ m) (h : 0 < (S.th k).held l) : ∀ j, k < j → heldTo S l m j = true
  | 0, hj => by omega
  | j + 1, hj => by
    rw [heldTo_succ]
    by_cases hk : k = j
    · subst hk; simp [e, h]
    · rw [held_yes e h j (by omega)]; simp

set_option maxRecDepth 100000 in
set_option maxHeartbeats 2000000 in
theorem heldByOther_0 (S : St) (m : Int) (w : World) :
    Calls Try.prog 106 #[.agg (stL S).toArray, .int .i64 0, .int .i64 m] w
      fun e w' => e = .returned (.bool (heldTo S 0 m 4)) ∧ Below w.heap.size w w' := by
  have hr := box_ths w S
  have i0 := ths_0 S
  have i1 := ths_1 S
  have i2 := ths_2 S
  have i3 := ths_3 S
  go_enter Try.func106, Try.ntmps106
  go_wp2_with (refine wpList_load_mid rfl 115 _ rfl w.heap.size 4 rfl (thsL S) _ hr Try.underlying115 rfl Try.size115 ?_)
  clear hr
  go_loopw [11] (fun t wr => ∃ k : Nat, k ≤ 4 ∧ t = .int .i64 (k : Int) ∧ Below w.heap.size w wr ∧ Hid (heldTo S 0 m k = false)) (fun t _ => 4 - (intOf t).toNat)
  case atStart => exact ⟨0, by omega, rfl, (Below.refl _ _).alloc (Nat.le_refl _) _, rfl⟩
  case round =>
    obtain ⟨k, hk, rfl, hb, HH⟩ := hrel
    have hcases : k = 0 ∨ k = 1 ∨ k = 2 ∨ k = 3 ∨ k = 4 := by omega
    rcases hcases with rfl | rfl | rfl | rfl | rfl
    · by_cases hm : ((0 : Nat) : Int) = m
      · have hm' : ((0 : Int) != m) = false := by simpa using hm
        have HM : Hid _ := hm
        clear hm
        go_wp2
        go_roundw
        case rel => exact ⟨1, by omega, rfl, hb.alloc hb.size _, held_skip HH.out HM.out⟩
        case measure => simp [intOf]
      · have hm' : ((0 : Int) != m) = true := by simpa using hm
        have HM : Hid _ := hm
        clear hm
        by_cases hp : 0 < S.t0.h0
        · have hp' : (0 : Int) < (S.t0.h0 : Int) := by omega
          go_wp2
          go_ret
          exact ⟨ret_bool (held_yes (k := 0) HM.out (by simpa [Th.held, St.th] using hp) 4 (by omega)).symm, hb.alloc hb.size _⟩
        · have hp' : ¬ (0 : Int) < (S.t0.h0 : Int) := by omega
          go_wp2
          go_roundw
          case rel => exact ⟨1, by omega, rfl, hb.alloc hb.size _, held_zero HH.out (by simpa [Th.held, St.th] using hp)⟩
          case measure => simp [intOf]
    · by_cases hm : ((1 : Nat) : Int) = m
      · have hm' : ((1 : Int) != m) = false := by simpa using hm
        have HM : Hid _ := hm
        clear hm
        go_wp2
        go_roundw
        case rel => exact ⟨2, by omega, rfl, hb.alloc hb.size _, held_skip HH.out HM.out⟩
        case measure => simp [intOf]
      · have hm' : ((1 : Int) != m) = true := by simpa using hm
        have HM : Hid _ := hm
        clear hm
        by_cases hp : 0 < S.t1.h0
        · have hp' : (0 : Int) < (S.t1.h0 : Int) := by omega
          go_wp2
          go_ret
          exact ⟨ret_bool (held_yes (k := 1) HM.out (by simpa [Th.held, St.th] using hp) 4 (by omega)).symm, hb.alloc hb.size _⟩
        · have hp' : ¬ (0 : Int) < (S.t1.h0 : Int) := by omega
          go_wp2
          go_roundw
          case rel => exact ⟨2, by omega, rfl, hb.alloc hb.size _, held_zero HH.out (by simpa [Th.held, St.th] using hp)⟩
          case measure => simp [intOf]
    · by_cases hm : ((2 : Nat) : Int) = m
      · have hm' : ((2 : Int) != m) = false := by simpa using hm
        have HM : Hid _ := hm
        clear hm
        go_wp2
        go_roundw
        case rel => exact ⟨3, by omega, rfl, hb.alloc hb.size _, held_skip HH.out HM.out⟩
        case measure => simp [intOf]
      · have hm' : ((2 : Int) != m) = true := by simpa using hm
        have HM : Hid _ := hm
        clear hm
        by_cases hp : 0 < S.t2.h0
        · have hp' : (0 : Int) < (S.t2.h0 : Int) := by omega
          go_wp2
          go_ret
          exact ⟨ret_bool (held_yes (k := 2) HM.out (by simpa [Th.held, St.th] using hp) 4 (by omega)).symm, hb.alloc hb.size _⟩
        · have hp' : ¬ (0 : Int) < (S.t2.h0 : Int) := by omega
          go_wp2
          go_roundw
          case rel => exact ⟨3, by omega, rfl, hb.alloc hb.size _, held_zero HH.out (by simpa [Th.held, St.th] using hp)⟩
          case measure => simp [intOf]
    · by_cases hm : ((3 : Nat) : Int) = m
      · have hm' : ((3 : Int) != m) = false := by simpa using hm
        have HM : Hid _ := hm
        clear hm
        go_wp2
        go_roundw
        case rel => exact ⟨4, by omega, rfl, hb.alloc hb.size _, held_skip HH.out HM.out⟩
        case measure => simp [intOf]
      · have hm' : ((3 : Int) != m) = true := by simpa using hm
        have HM : Hid _ := hm
        clear hm
        by_cases hp : 0 < S.t3.h0
        · have hp' : (0 : Int) < (S.t3.h0 : Int) := by omega
          go_wp2
          go_ret
          exact ⟨ret_bool (held_yes (k := 3) HM.out (by simpa [Th.held, St.th] using hp) 4 (by omega)).symm, hb.alloc hb.size _⟩
        · have hp' : ¬ (0 : Int) < (S.t3.h0 : Int) := by omega
          go_wp2
          go_roundw
          case rel => exact ⟨4, by omega, rfl, hb.alloc hb.size _, held_zero HH.out (by simpa [Th.held, St.th] using hp)⟩
          case measure => simp [intOf]
    · go_wp2
      go_ret
      exact ⟨ret_bool HH.out.symm, hb⟩

set_option maxRecDepth 100000 in
set_option maxHeartbeats 2000000 in
theorem heldByOther_1 (S : St) (m : Int) (w : World) :
    Calls Try.prog 106 #[.agg (stL S).toArray, .int .i64 1, .int .i64 m] w
      fun e w' => e = .returned (.bool (heldTo S 1 m 4)) ∧ Below w.heap.size w w' := by
  have hr := box_ths w S
  have i0 := ths_0 S
  have i1 := ths_1 S
  have i2 := ths_2 S
  have i3 := ths_3 S
  go_enter Try.func106, Try.ntmps106
  go_wp2_with (refine wpList_load_mid rfl 115 _ rfl w.heap.size 4 rfl (thsL S) _ hr Try.underlying115 rfl Try.size115 ?_)
  clear hr
  go_loopw [11] (fun t wr => ∃ k : Nat, k ≤ 4 ∧ t = .int .i64 (k : Int) ∧ Below w.heap.size w wr ∧ Hid (heldTo S 1 m k = false)) (fun t _ => 4 - (intOf t).toNat)
  case atStart => exact ⟨0, by omega, rfl, (Below.refl _ _).alloc (Nat.le_refl _) _, rfl⟩
  case round =>
    obtain ⟨k, hk, rfl, hb, HH⟩ := hrel
    have hcases : k = 0 ∨ k = 1 ∨ k = 2 ∨ k = 3 ∨ k = 4 := by omega
    rcases hcases with rfl | rfl | rfl | rfl | rfl
    · by_cases hm : ((0 : Nat) : Int) = m
      · have hm' : ((0 : Int) != m) = false := by simpa using hm
        have HM : Hid _ := hm
        clear hm
        go_wp2
        go_roundw
        case rel => exact ⟨1, by omega, rfl, hb.alloc hb.size _, held_skip HH.out HM.out⟩
        case measure => simp [intOf]
      · have hm' : ((0 : Int) != m) = true := by simpa using hm
        have HM : Hid _ := hm
        clear hm
        by_cases hp : 0 < S.t0.h1
        · have hp' : (0 : Int) < (S.t0.h1 : Int) := by omega
          go_wp2
          go_ret
          exact ⟨ret_bool (held_yes (k := 0) HM.out (by simpa [Th.held, St.th] using hp) 4 (by omega)).symm, hb.alloc hb.size _⟩
        · have hp' : ¬ (0 : Int) < (S.t0.h1 : Int) := by omega
          go_wp2
          go_roundw
          case rel => exact ⟨1, by omega, rfl, hb.alloc hb.size _, held_zero HH.out (by simpa [Th.held, St.th] using hp)⟩
          case measure => simp [intOf]
    · by_cases hm : ((1 : Nat) : Int) = m
      · have hm' : ((1 : Int) != m) = false := by simpa using hm
        have HM : Hid _ := hm
        clear hm
        go_wp2
        go_roundw
        case rel => exact ⟨2, by omega, rfl, hb.alloc hb.size _, held_skip HH.out HM.out⟩
        case measure => simp [intOf]
      · have hm' : ((1 : Int) != m) = true := by simpa using hm
        have HM : Hid _ := hm
        clear hm
        by_cases hp : 0 < S.t1.h1
        · have hp' : (0 : Int) < (S.t1.h1 : Int) := by omega
          go_wp2
          go_ret
          exact ⟨ret_bool (held_yes (k := 1) HM.out (by simpa [Th.held, St.th] using hp) 4 (by omega)).symm, hb.alloc hb.size _⟩
        · have hp' : ¬ (0 : Int) < (S.t1.h1 : Int) := by omega
          go_wp2
          go_roundw
          case rel => exact ⟨2, by omega, rfl, hb.alloc hb.size _, held_zero HH.out (by simpa [Th.held, St.th] using hp)⟩
          case measure => simp [intOf]
    · by_cases hm : ((2 : Nat) : Int) = m
      · have hm' : ((2 : Int) != m) = false := by simpa using hm
        have HM : Hid _ := hm
        clear hm
        go_wp2
        go_roundw
        case rel => exact ⟨3, by omega, rfl, hb.alloc hb.size _, held_skip HH.out HM.out⟩
        case measure => simp [intOf]
      · have hm' : ((2 : Int) != m) = true := by simpa using hm
        have HM : Hid _ := hm
        clear hm
        by_cases hp : 0 < S.t2.h1
        · have hp' : (0 : Int) < (S.t2.h1 : Int) := by omega
          go_wp2
          go_ret
          exact ⟨ret_bool (held_yes (k := 2) HM.out (by simpa [Th.held, St.th] using hp) 4 (by omega)).symm, hb.alloc hb.size _⟩
        · have hp' : ¬ (0 : Int) < (S.t2.h1 : Int) := by omega
          go_wp2
          go_roundw
          case rel => exact ⟨3, by omega, rfl, hb.alloc hb.size _, held_zero HH.out (by simpa [Th.held, St.th] using hp)⟩
          case measure => simp [intOf]
    · by_cases hm : ((3 : Nat) : Int) = m
      · have hm' : ((3 : Int) != m) = false := by simpa using hm
        have HM : Hid _ := hm
        clear hm
        go_wp2
        go_roundw
        case rel => exact ⟨4, by omega, rfl, hb.alloc hb.size _, held_skip HH.out HM.out⟩
        case measure => simp [intOf]
      · have hm' : ((3 : Int) != m) = true := by simpa using hm
        have HM : Hid _ := hm
        clear hm
        by_cases hp : 0 < S.t3.h1
        · have hp' : (0 : Int) < (S.t3.h1 : Int) := by omega
          go_wp2
          go_ret
          exact ⟨ret_bool (held_yes (k := 3) HM.out (by simpa [Th.held, St.th] using hp) 4 (by omega)).symm, hb.alloc hb.size _⟩
        · have hp' : ¬ (0 : Int) < (S.t3.h1 : Int) := by omega
          go_wp2
          go_roundw
          case rel => exact ⟨4, by omega, rfl, hb.alloc hb.size _, held_zero HH.out (by simpa [Th.held, St.th] using hp)⟩
          case measure => simp [intOf]
    · go_wp2
      go_ret
      exact ⟨ret_bool HH.out.symm, hb⟩

end Go.Proofs.Ytfdafcnfefbcbaa
