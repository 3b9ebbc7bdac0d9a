/-
 Several texts of ours in one: Held, LoadS, Can, Waits.
-/
import Derived.Test.YtfdafcnfefbcbabGreatSts
import Derived.Laws.ResultCell
/-
 The contract of heldByOther.
-/
namespace Go.Proofs.YtfdafcnfefbcbabGreat
open Go.RowKit
set_option linter.unusedVariables false
set_option maxRecDepth 100000
set_option maxHeartbeats 2000000

theorem index_0 (x0 x1 x2 x3 x4 x5 x6 x7 x8 x9 x10 x11 x12 x13 x14 x15 x16 x17 x18 x19 : Value) (w : World) : (Instr.index 106 (.agg #[x0, x1, x2, x3, x4, x5, x6, x7, x8, x9, x10, x11, x12, x13, x14, x15, x16, x17, x18, x19]) (.int .i64 0)).run Tryz.prog w = .ok (.agg #[x0, x1, x2, x3, x4]) w := by kernel_rfl
theorem ths_0 (S : St) (w : World) : (Instr.index 106 (.agg (thsL S).toArray) (.int .i64 0)).run Tryz.prog w = .ok (.agg #[.int .i64 (S.t0.pos : Int), .bool S.t0.failed, .int .i16 S.t0.reg, .int .i64 (S.t0.h0 : Int), .int .i64 (S.t0.h1 : Int)]) w := index_0 _ _ _ _ _ _ _ _ _ _ _ _ _ _ _ _ _ _ _ _ w
theorem index_1 (x0 x1 x2 x3 x4 x5 x6 x7 x8 x9 x10 x11 x12 x13 x14 x15 x16 x17 x18 x19 : Value) (w : World) : (Instr.index 106 (.agg #[x0, x1, x2, x3, x4, x5, x6, x7, x8, x9, x10, x11, x12, x13, x14, x15, x16, x17, x18, x19]) (.int .i64 1)).run Tryz.prog w = .ok (.agg #[x5, x6, x7, x8, x9]) w := by kernel_rfl
theorem ths_1 (S : St) (w : World) : (Instr.index 106 (.agg (thsL S).toArray) (.int .i64 1)).run Tryz.prog w = .ok (.agg #[.int .i64 (S.t1.pos : Int), .bool S.t1.failed, .int .i16 S.t1.reg, .int .i64 (S.t1.h0 : Int), .int .i64 (S.t1.h1 : Int)]) w := index_1 _ _ _ _ _ _ _ _ _ _ _ _ _ _ _ _ _ _ _ _ w
theorem index_2 (x0 x1 x2 x3 x4 x5 x6 x7 x8 x9 x10 x11 x12 x13 x14 x15 x16 x17 x18 x19 : Value) (w : World) : (Instr.index 106 (.agg #[x0, x1, x2, x3, x4, x5, x6, x7, x8, x9, x10, x11, x12, x13, x14, x15, x16, x17, x18, x19]) (.int .i64 2)).run Tryz.prog w = .ok (.agg #[x10, x11, x12, x13, x14]) w := by kernel_rfl
theorem ths_2 (S : St) (w : World) : (Instr.index 106 (.agg (thsL S).toArray) (.int .i64 2)).run Tryz.prog w = .ok (.agg #[.int .i64 (S.t2.pos : Int), .bool S.t2.failed, .int .i16 S.t2.reg, .int .i64 (S.t2.h0 : Int), .int .i64 (S.t2.h1 : Int)]) w := index_2 _ _ _ _ _ _ _ _ _ _ _ _ _ _ _ _ _ _ _ _ w
theorem index_3 (x0 x1 x2 x3 x4 x5 x6 x7 x8 x9 x10 x11 x12 x13 x14 x15 x16 x17 x18 x19 : Value) (w : World) : (Instr.index 106 (.agg #[x0, x1, x2, x3, x4, x5, x6, x7, x8, x9, x10, x11, x12, x13, x14, x15, x16, x17, x18, x19]) (.int .i64 3)).run Tryz.prog w = .ok (.agg #[x15, x16, x17, x18, x19]) w := by kernel_rfl
theorem ths_3 (S : St) (w : World) : (Instr.index 106 (.agg (thsL S).toArray) (.int .i64 3)).run Tryz.prog w = .ok (.agg #[.int .i64 (S.t3.pos : Int), .bool S.t3.failed, .int .i16 S.t3.reg, .int .i64 (S.t3.h0 : Int), .int .i64 (S.t3.h1 : Int)]) w := index_3 _ _ _ _ _ _ _ _ _ _ _ _ _ _ _ _ _ _ _ _ w

theorem heldTo_succ (S : St) (l : Nat) (m : Int) (k : Nat) : heldTo S l m (k + 1) = (heldTo S l m k || (decide ((k : Int) ≠ m) && decide (0 < (S.th k).held l))) := rfl

theorem held_skip {S : St} {l : Nat} {m : Int} {k : Nat} (h : heldTo S l m k = false) (e : (k : Int) = m) : heldTo S l m (k + 1) = false := by
 rw [heldTo_succ, h]; simp [e]
theorem held_zero {S : St} {l : Nat} {m : Int} {k : Nat} (h : heldTo S l m k = false) (e : ¬ 0 < (S.th k).held l) : heldTo S l m (k + 1) = false := by
 rw [heldTo_succ, h]; simp; omega
theorem held_yes {S : St} {l : Nat} {m : Int} {k : Nat} (e : (k : Int) ≠ m) (h : 0 < (S.th k).held l) : ∀ j, k < j → heldTo S l m j = true
 | 0, hj => by omega
 | j + 1, hj => by
  rw [heldTo_succ]
  by_cases hk : k = j
  ·subst hk; simp [e, h]
  ·rw [held_yes e h j (by omega)]; simp

theorem heldByOther_0 (S : St) (m : Int) (w : World) :
  Calls Tryz.prog 94 #[.agg (stL S).toArray, .int .i64 0, .int .i64 m] w
   fun e w' => e = .returned (.bool (heldTo S 0 m 4)) ∧ Below w.heap.size w w' := by
 have hr := box_ths w S
 have i0 := ths_0 S
 have i1 := ths_1 S
 have i2 := ths_2 S
 have i3 := ths_3 S
 go_enter Tryz.func94, Tryz.ntmps94
 go_wp2_with (refine wpList_load_mid rfl 106 _ rfl w.heap.size 4 rfl (thsL S) _ hr Tryz.underlying106 rfl Tryz.size106 ?_)
 clear hr
 go_loopw [11] (fun t wr => ∃ k : Nat, k ≤ 4 ∧ t = .int .i64 (k : Int) ∧ Below w.heap.size w wr ∧ Hid (heldTo S 0 m k = false)) (fun t _ => 4 - (intOf t).toNat)
 case atStart => exact ⟨0, by omega, rfl, (Below.refl _ _).alloc (Nat.le_refl _) _, rfl⟩
 case round =>
  obtain ⟨k, hk, rfl, hb, HH⟩ := hrel
  have hcases : k = 0 ∨ k = 1 ∨ k = 2 ∨ k = 3 ∨ k = 4 := by omega
  rcases hcases with rfl | rfl | rfl | rfl | rfl
  ·by_cases hm : ((0 : Nat) : Int) = m
   ·have hm' : ((0 : Int) != m) = false := by simpa using hm
    have HM : Hid _ := hm
    clear hm
    go_wp2
    go_roundw
    case rel => exact ⟨1, by omega, rfl, hb.alloc hb.size _, held_skip HH.out HM.out⟩
    case measure => simp [intOf]
   ·have hm' : ((0 : Int) != m) = true := by simpa using hm
    have HM : Hid _ := hm
    clear hm
    by_cases hp : 0 < S.t0.h0
    ·have hp' : (0 : Int) < (S.t0.h0 : Int) := by omega
     go_wp2
     go_ret
     exact ⟨ret_bool (held_yes (k := 0) HM.out (by simpa [Th.held, St.th] using hp) 4 (by omega)).symm, hb.alloc hb.size _⟩
    ·have hp' : ¬ (0 : Int) < (S.t0.h0 : Int) := by omega
     go_wp2
     go_roundw
     case rel => exact ⟨1, by omega, rfl, hb.alloc hb.size _, held_zero HH.out (by simpa [Th.held, St.th] using hp)⟩
     case measure => simp [intOf]
  ·by_cases hm : ((1 : Nat) : Int) = m
   ·have hm' : ((1 : Int) != m) = false := by simpa using hm
    have HM : Hid _ := hm
    clear hm
    go_wp2
    go_roundw
    case rel => exact ⟨2, by omega, rfl, hb.alloc hb.size _, held_skip HH.out HM.out⟩
    case measure => simp [intOf]
   ·have hm' : ((1 : Int) != m) = true := by simpa using hm
    have HM : Hid _ := hm
    clear hm
    by_cases hp : 0 < S.t1.h0
    ·have hp' : (0 : Int) < (S.t1.h0 : Int) := by omega
     go_wp2
     go_ret
     exact ⟨ret_bool (held_yes (k := 1) HM.out (by simpa [Th.held, St.th] using hp) 4 (by omega)).symm, hb.alloc hb.size _⟩
    ·have hp' : ¬ (0 : Int) < (S.t1.h0 : Int) := by omega
     go_wp2
     go_roundw
     case rel => exact ⟨2, by omega, rfl, hb.alloc hb.size _, held_zero HH.out (by simpa [Th.held, St.th] using hp)⟩
     case measure => simp [intOf]
  ·by_cases hm : ((2 : Nat) : Int) = m
   ·have hm' : ((2 : Int) != m) = false := by simpa using hm
    have HM : Hid _ := hm
    clear hm
    go_wp2
    go_roundw
    case rel => exact ⟨3, by omega, rfl, hb.alloc hb.size _, held_skip HH.out HM.out⟩
    case measure => simp [intOf]
   ·have hm' : ((2 : Int) != m) = true := by simpa using hm
    have HM : Hid _ := hm
    clear hm
    by_cases hp : 0 < S.t2.h0
    ·have hp' : (0 : Int) < (S.t2.h0 : Int) := by omega
     go_wp2
     go_ret
     exact ⟨ret_bool (held_yes (k := 2) HM.out (by simpa [Th.held, St.th] using hp) 4 (by omega)).symm, hb.alloc hb.size _⟩
    ·have hp' : ¬ (0 : Int) < (S.t2.h0 : Int) := by omega
     go_wp2
     go_roundw
     case rel => exact ⟨3, by omega, rfl, hb.alloc hb.size _, held_zero HH.out (by simpa [Th.held, St.th] using hp)⟩
     case measure => simp [intOf]
  ·by_cases hm : ((3 : Nat) : Int) = m
   ·have hm' : ((3 : Int) != m) = false := by simpa using hm
    have HM : Hid _ := hm
    clear hm
    go_wp2
    go_roundw
    case rel => exact ⟨4, by omega, rfl, hb.alloc hb.size _, held_skip HH.out HM.out⟩
    case measure => simp [intOf]
   ·have hm' : ((3 : Int) != m) = true := by simpa using hm
    have HM : Hid _ := hm
    clear hm
    by_cases hp : 0 < S.t3.h0
    ·have hp' : (0 : Int) < (S.t3.h0 : Int) := by omega
     go_wp2
     go_ret
     exact ⟨ret_bool (held_yes (k := 3) HM.out (by simpa [Th.held, St.th] using hp) 4 (by omega)).symm, hb.alloc hb.size _⟩
    ·have hp' : ¬ (0 : Int) < (S.t3.h0 : Int) := by omega
     go_wp2
     go_roundw
     case rel => exact ⟨4, by omega, rfl, hb.alloc hb.size _, held_zero HH.out (by simpa [Th.held, St.th] using hp)⟩
     case measure => simp [intOf]
  ·go_wp2
   go_ret
   exact ⟨ret_bool HH.out.symm, hb⟩

theorem heldByOther_1 (S : St) (m : Int) (w : World) :
  Calls Tryz.prog 94 #[.agg (stL S).toArray, .int .i64 1, .int .i64 m] w
   fun e w' => e = .returned (.bool (heldTo S 1 m 4)) ∧ Below w.heap.size w w' := by
 have hr := box_ths w S
 have i0 := ths_0 S
 have i1 := ths_1 S
 have i2 := ths_2 S
 have i3 := ths_3 S
 go_enter Tryz.func94, Tryz.ntmps94
 go_wp2_with (refine wpList_load_mid rfl 106 _ rfl w.heap.size 4 rfl (thsL S) _ hr Tryz.underlying106 rfl Tryz.size106 ?_)
 clear hr
 go_loopw [11] (fun t wr => ∃ k : Nat, k ≤ 4 ∧ t = .int .i64 (k : Int) ∧ Below w.heap.size w wr ∧ Hid (heldTo S 1 m k = false)) (fun t _ => 4 - (intOf t).toNat)
 case atStart => exact ⟨0, by omega, rfl, (Below.refl _ _).alloc (Nat.le_refl _) _, rfl⟩
 case round =>
  obtain ⟨k, hk, rfl, hb, HH⟩ := hrel
  have hcases : k = 0 ∨ k = 1 ∨ k = 2 ∨ k = 3 ∨ k = 4 := by omega
  rcases hcases with rfl | rfl | rfl | rfl | rfl
  ·by_cases hm : ((0 : Nat) : Int) = m
   ·have hm' : ((0 : Int) != m) = false := by simpa using hm
    have HM : Hid _ := hm
    clear hm
    go_wp2
    go_roundw
    case rel => exact ⟨1, by omega, rfl, hb.alloc hb.size _, held_skip HH.out HM.out⟩
    case measure => simp [intOf]
   ·have hm' : ((0 : Int) != m) = true := by simpa using hm
    have HM : Hid _ := hm
    clear hm
    by_cases hp : 0 < S.t0.h1
    ·have hp' : (0 : Int) < (S.t0.h1 : Int) := by omega
     go_wp2
     go_ret
     exact ⟨ret_bool (held_yes (k := 0) HM.out (by simpa [Th.held, St.th] using hp) 4 (by omega)).symm, hb.alloc hb.size _⟩
    ·have hp' : ¬ (0 : Int) < (S.t0.h1 : Int) := by omega
     go_wp2
     go_roundw
     case rel => exact ⟨1, by omega, rfl, hb.alloc hb.size _, held_zero HH.out (by simpa [Th.held, St.th] using hp)⟩
     case measure => simp [intOf]
  ·by_cases hm : ((1 : Nat) : Int) = m
   ·have hm' : ((1 : Int) != m) = false := by simpa using hm
    have HM : Hid _ := hm
    clear hm
    go_wp2
    go_roundw
    case rel => exact ⟨2, by omega, rfl, hb.alloc hb.size _, held_skip HH.out HM.out⟩
    case measure => simp [intOf]
   ·have hm' : ((1 : Int) != m) = true := by simpa using hm
    have HM : Hid _ := hm
    clear hm
    by_cases hp : 0 < S.t1.h1
    ·have hp' : (0 : Int) < (S.t1.h1 : Int) := by omega
     go_wp2
     go_ret
     exact ⟨ret_bool (held_yes (k := 1) HM.out (by simpa [Th.held, St.th] using hp) 4 (by omega)).symm, hb.alloc hb.size _⟩
    ·have hp' : ¬ (0 : Int) < (S.t1.h1 : Int) := by omega
     go_wp2
     go_roundw
     case rel => exact ⟨2, by omega, rfl, hb.alloc hb.size _, held_zero HH.out (by simpa [Th.held, St.th] using hp)⟩
     case measure => simp [intOf]
  ·by_cases hm : ((2 : Nat) : Int) = m
   ·have hm' : ((2 : Int) != m) = false := by simpa using hm
    have HM : Hid _ := hm
    clear hm
    go_wp2
    go_roundw
    case rel => exact ⟨3, by omega, rfl, hb.alloc hb.size _, held_skip HH.out HM.out⟩
    case measure => simp [intOf]
   ·have hm' : ((2 : Int) != m) = true := by simpa using hm
    have HM : Hid _ := hm
    clear hm
    by_cases hp : 0 < S.t2.h1
    ·have hp' : (0 : Int) < (S.t2.h1 : Int) := by omega
     go_wp2
     go_ret
     exact ⟨ret_bool (held_yes (k := 2) HM.out (by simpa [Th.held, St.th] using hp) 4 (by omega)).symm, hb.alloc hb.size _⟩
    ·have hp' : ¬ (0 : Int) < (S.t2.h1 : Int) := by omega
     go_wp2
     go_roundw
     case rel => exact ⟨3, by omega, rfl, hb.alloc hb.size _, held_zero HH.out (by simpa [Th.held, St.th] using hp)⟩
     case measure => simp [intOf]
  ·by_cases hm : ((3 : Nat) : Int) = m
   ·have hm' : ((3 : Int) != m) = false := by simpa using hm
    have HM : Hid _ := hm
    clear hm
    go_wp2
    go_roundw
    case rel => exact ⟨4, by omega, rfl, hb.alloc hb.size _, held_skip HH.out HM.out⟩
    case measure => simp [intOf]
   ·have hm' : ((3 : Int) != m) = true := by simpa using hm
    have HM : Hid _ := hm
    clear hm
    by_cases hp : 0 < S.t3.h1
    ·have hp' : (0 : Int) < (S.t3.h1 : Int) := by omega
     go_wp2
     go_ret
     exact ⟨ret_bool (held_yes (k := 3) HM.out (by simpa [Th.held, St.th] using hp) 4 (by omega)).symm, hb.alloc hb.size _⟩
    ·have hp' : ¬ (0 : Int) < (S.t3.h1 : Int) := by omega
     go_wp2
     go_roundw
     case rel => exact ⟨4, by omega, rfl, hb.alloc hb.size _, held_zero HH.out (by simpa [Th.held, St.th] using hp)⟩
     case measure => simp [intOf]
  ·go_wp2
   go_ret
   exact ⟨ret_bool HH.out.symm, hb⟩

/-- What a block's first 24 cells hold. -/
def rd (w : World) (b : Nat) : Array Value := ((List.range 24).map fun j => (w.cell? ⟨b, j, none⟩).getD undef).toArray
def okS (w : World) (b : Nat) : Prop := ∀ j, j < 24 → (w.cell? ⟨b, j, none⟩).isSome = true
def ptrB : Value → Nat
 | .pointer (some a) => a.block
 | _ => 0
def isPtr0 : Value → Bool
 | .pointer (some ⟨_, 0, none⟩) => true
 | _ => false

theorem isPtr0_form {v : Value} (h : isPtr0 v = true) : v = .pointer (some ⟨ptrB v, 0, none⟩) := by
 unfold isPtr0 at h
 split at h
 ·rfl
 ·cases h

theorem rd_range {w : World} {b : Nat} (h : okS w b) : w.rangeAt b 0 (rd w b).toList := fun j v hv => by
 have hj : j < 24 := by
  have := (List.getElem?_eq_some_iff.1 hv).1
  simpa [rd] using this
 obtain ⟨u, hu⟩ := Option.isSome_iff_exists.1 (h j hj)
 have e : (rd w b).toList[j]? = some u := by simp [rd, hj, hu]
 rw [e] at hv
 cases hv
 rw [Nat.zero_add]; exact hu

theorem rd_size (w : World) (b : Nat) : (rd w b).toList.length = 24 := by simp [rd]

theorem exec_load_state {a : Act} {x : Operand} {dst : Option Tmp} {ty : TypeId} {pos : String} {after : Array Edge} {guard : Option (Nat × Bool)} {w : World} (h1 : isPtr0 (a.eval x) = true) (h2 : okS w (ptrB (a.eval x))) :
  (execOp a.eval ⟨dst, .load 108 x, ty, pos, after, guard⟩).run Tryz.prog w = .ok (.value (.agg (rd w (ptrB (a.eval x))))) w := by
 have hx := isPtr0_form h1
 generalize ptrB (a.eval x) = b at *
 have hl := run_loadVar_mid (P := Tryz.prog) w b 0 108 _ _ (rd_range h2) Tryz.underlying108 rfl (by rw [rd_size]; exact Tryz.size108)
 unfold execOp
 simp only [hx, Instr.loadAt, Instr.sureAddr, Sem.run_bind, Sem.run_pure, Result.andThen_ok, hl]

def aggL : Value → List Value
 | .agg c => c.toList
 | _ => []
theorem stL_one (S : St) : ∀ v ∈ stL S, v.oneCell' = true := by
 intro v hv
 simp only [stL, List.mem_cons, List.not_mem_nil, or_false] at hv
 rcases hv with rfl | rfl | rfl | rfl | rfl | rfl | rfl | rfl | rfl | rfl | rfl | rfl | rfl | rfl | rfl | rfl | rfl | rfl | rfl | rfl | rfl | rfl | rfl | rfl <;> rfl

theorem Tryz.size59 : (Tryz.prog.info? 59).map (·.size) = some 6 := by kernel_rfl

theorem rd_of {w : World} {b : Nat} {S : St} (h : ∀ j, w.cell? ⟨b, j, none⟩ = (stL S)[j]?) : okS w b ∧ rd w b = (stL S).toArray := by
 refine ⟨fun j hj => ?_, ?_⟩
 ·rw [h j, List.getElem?_eq_getElem (by rw [stL_length]; exact hj)]; rfl
 ·unfold rd
  simp only [h]
  rfl

theorem below_setCells {B : Nat} {a : World} (b : Nat) (hB : B ≤ b) : ∀ (vs : List Value) (o : Nat) (w : World), Below B a w → Below B a (w.setCells b o vs)
 | [], _, _, h => h
 | v :: vs, o, w, h => below_setCells b hB vs (o + 1) _ (h.setCell (p := ⟨b, o, none⟩) hB v)

/-- Two results, the first of them a state in memory. -/
theorem ret_state {fn : Func} {p u : Tmp} (h : fn.results = #[.cell p 108, .tmp u]) (tmps : Array Value) (F : World) (b : Nat) (S : St) (hp : tmps.getD p undef = .pointer (some ⟨b, 0, none⟩)) (hr : F.rangeAt b 0 (stL S)) :
  (results fn tmps).run Tryz.prog F = .ok (.tuple #[.agg (stL S).toArray, tmps.getD u undef]) F := by
 have hl := run_loadVar_mid (P := Tryz.prog) F b 0 108 _ _ hr Tryz.underlying108 rfl Tryz.size108
 rw [results_cell_tmp h, hp]
 simp only [asAddr, Sem.run_pure, Result.andThen_ok, hl]

/-- One result, a state in memory. -/
theorem ret_state1 {fn : Func} {p : Tmp} (h : fn.results = #[.cell p 108]) (tmps : Array Value) (F : World) (b : Nat) (S : St) (hp : tmps.getD p undef = .pointer (some ⟨b, 0, none⟩)) (hr : F.rangeAt b 0 (stL S)) :
  (results fn tmps).run Tryz.prog F = .ok (.agg (stL S).toArray) F := by
 have hl := run_loadVar_mid (P := Tryz.prog) F b 0 108 _ _ hr Tryz.underlying108 rfl Tryz.size108
 have hp' : tmps[p]?.getD undef = .pointer (some ⟨b, 0, none⟩) := by simpa using hp
 simp [results, h, hp', asAddr, hl]

attribute [local go_sem ↓] Go.wp_at_zero Go.wp_at_succ exec_load_state
attribute [local go_sem] ptrB isPtr0

theorem heldByOther_any (S : St) (l : Nat) (hl : l = 0 ∨ l = 1) (m : Int) (w : World) :
  Calls Tryz.prog 94 #[.agg (stL S).toArray, .int .i64 (l : Int), .int .i64 m] w
   fun e w' => e = .returned (.bool (heldTo S l m 4)) ∧ Below w.heap.size w w' := by
 rcases hl with rfl | rfl
 ·exact heldByOther_0 S m w
 ·exact heldByOther_1 S m w

theorem lockOf_two (n : Nat) : lockOf n = 0 ∨ lockOf n = 1 := by unfold lockOf; split <;> omega

def canStep (S : St) (p : List (List Pl.POp)) (m : Int) : Bool := match stOp S p m with
 | none => false
 | some o => o.kind != 108 || !heldTo S (lockOf o.name) m 4

def waits (S : St) (p : List (List Pl.POp)) (m : Int) : Bool := match stOp S p m with
 | none => false
 | some o => o.kind == 108 && heldTo S (lockOf o.name) m 4

theorem canStep_any (S : St) (p : List (List Pl.POp)) (a : Option Addr) (cap lo hi : Nat) (m : Int) (w : World) (hp : ProgOk w lo hi a cap p) :
  Calls Tryz.prog 78 #[.agg (stL S).toArray, .agg #[.slice a p.length cap], .int .i64 m] w
   fun e w' => e = .returned (.bool (canStep S p m)) ∧ Below w.heap.size w w' := by
 have HP : Hid (ProgOk w lo hi a cap p) := hp
 clear hp
 have hb2 := fun (x y : Obj) => two_new w x y
 have hr : ∀ y, ((w.alloc (.cells (stL S).toArray 108)).alloc y).rangeAt w.heap.size 0 (stL S) := fun y => World.rangeAt_alloc (box_all w S) y
 go_enter Tryz.func78, Tryz.ntmps78
 go_wp2_with (first | (refine wpList_load_mid rfl 108 _ rfl w.heap.size 0 rfl (stL S) _ (hr _) Tryz.underlying108 rfl Tryz.size108 ?_))
 refine (stateOp_any S p a cap lo hi m _ (HP.out.below (hb2 _ _) HP.out.size)).mono ?_
 rintro e w1 ⟨⟨k, n, b, hst, rfl⟩, hb1⟩
 have hb1' := (hb2 _ _).trans (hb1.mono (by simp; omega))
 cases ho : stOp S p m with
 | none =>
  have hc : Hid (canStep S p m = false) := by show canStep S p m = _; unfold canStep; rw [ho]
  go_wp2
  go_ret
  exact ⟨ret_bool hc.out.symm, hb1'.alloc hb1'.size _⟩
 | some o =>
  rw [ho] at hst
  obtain ⟨rfl, rfl, rfl⟩ := hst
  by_cases hk : o.kind = 108
  ·have hc : Hid (canStep S p m = !heldTo S (lockOf o.name) m 4) := by show canStep S p m = _; unfold canStep; rw [ho]; simp [hk]
   have hk' : ((o.kind : Int) != 108) = false := by simp; omega
   have r1 : ∀ j, w1.cell? ⟨w.heap.size, j, none⟩ = (stL S)[j]? := all_below (fun j => by rw [World.cell?_alloc_past _ _ _ (by simp), box_cell]) hb1 (by simp; omega)
   clear hk ho
   go_wp2_with fail
   have hz1 := hb1.size
   simp only [World.size_alloc] at hz1
   have hbW : Below w.heap.size w (w1.alloc (.cells #[.int .u8 (o.kind : Int), .int .u8 (o.name : Int), .int .i64 o.block] 165)) := hb1'.alloc hb1'.size _
   have c0 : (w1.alloc (.cells #[.int .u8 (o.kind : Int), .int .u8 (o.name : Int), .int .i64 o.block] 165)).cell? ⟨w1.heap.size, 0, none⟩ = some (.int .u8 (o.kind : Int)) := by simp [go_sem]
   have c1 : (w1.alloc (.cells #[.int .u8 (o.kind : Int), .int .u8 (o.name : Int), .int .i64 o.block] 165)).cell? ⟨w1.heap.size, 1, none⟩ = some (.int .u8 (o.name : Int)) := by simp [go_sem]
   have c2 : (w1.alloc (.cells #[.int .u8 (o.kind : Int), .int .u8 (o.name : Int), .int .i64 o.block] 165)).cell? ⟨w1.heap.size, 2, none⟩ = some (.int .i64 o.block) := by simp [go_sem]
   have r2 := all_below r1 (Below.alloc (Below.refl w1.heap.size _) (Nat.le_refl _) (.cells #[.int .u8 (o.kind : Int), .int .u8 (o.name : Int), .int .i64 o.block] 165)) (by omega)
   have hWz : (w1.alloc (.cells #[.int .u8 (o.kind : Int), .int .u8 (o.name : Int), .int .i64 o.block] 165)).heap.size = w1.heap.size + 1 := by simp
   generalize w1.alloc (.cells #[.int .u8 (o.kind : Int), .int .u8 (o.name : Int), .int .i64 o.block] 165) = W at *
   have lt1 : w1.heap.size < W.heap.size := by omega
   have lt0 : w.heap.size < W.heap.size := by omega
   have hl2 := lockOf_two o.name
   have HBW : Hid _ := hbW
   clear hbW hb1 hb1' hWz hz1 hr r1
   go_region_held3 (fun w' => w'.cell? ⟨w1.heap.size, 0, none⟩ = some (.int .u8 (o.kind : Int)) ∧ w'.cell? ⟨w1.heap.size, 1, none⟩ = some (.int .u8 (o.name : Int)) ∧ w'.cell? ⟨w1.heap.size, 2, none⟩ = some (.int .i64 o.block) ∧ okS w' w.heap.size ∧ rd w' w.heap.size = (stL S).toArray)
    (first | exact ⟨c0, c1, c2, rd_of r2⟩ | exact ⟨(hw3.cell (p := ⟨w1.heap.size, 0, none⟩) lt1).trans c0, (hw3.cell (p := ⟨w1.heap.size, 1, none⟩) lt1).trans c1, (hw3.cell (p := ⟨w1.heap.size, 2, none⟩) lt1).trans c2, rd_of (all_below r2 hw3 lt0)⟩ | exact ⟨(hw4.cell (p := ⟨w1.heap.size, 0, none⟩) lt1).trans c0, (hw4.cell (p := ⟨w1.heap.size, 1, none⟩) lt1).trans c1, (hw4.cell (p := ⟨w1.heap.size, 2, none⟩) lt1).trans c2, rd_of (all_below r2 hw4 lt0)⟩)
    (first | (go_at_call 95; refine (lock_any _ _ _ _).mono ?_; rintro e w3 ⟨rfl, hw3'⟩; have hw3 : Below W.heap.size W w3 := (Below.refl _ _).drew.trans (hw3'.mono (Nat.le_refl _))) | (go_at_call 94; refine (heldByOther_any S _ hl2 _ _).mono ?_; rintro e w4 ⟨rfl, hw4'⟩; have hw4 : Below W.heap.size W w4 := hw3.trans (hw4'.mono hw3.size)))
   go_wp2
   go_ret
   exact ⟨ret_bool hc.out.symm, HBW.out.trans (hw4.mono HBW.out.size)⟩
  ·have hc : Hid (canStep S p m = true) := by show canStep S p m = _; unfold canStep; rw [ho]; simp [hk]
   have hk' : ((o.kind : Int) != 108) = true := by simp; omega
   clear hk ho
   go_wp2_with fail
   go_quiet (fail)
   go_wp2
   go_ret
   exact ⟨ret_bool hc.out.symm, below_drewN (hb1'.alloc hb1'.size _) _⟩

attribute [local go_sem ↓] Go.wp_at_zero Go.wp_at_succ exec_load_state
attribute [local go_sem] ptrB isPtr0

theorem waits_any (S : St) (p : List (List Pl.POp)) (a : Option Addr) (cap lo hi : Nat) (m : Int) (w : World) (hp : ProgOk w lo hi a cap p) :
  Calls Tryz.prog 81 #[.agg (stL S).toArray, .agg #[.slice a p.length cap], .int .i64 m] w
   fun e w' => e = .returned (.bool (waits S p m)) ∧ Below w.heap.size w w' := by
 have HP : Hid (ProgOk w lo hi a cap p) := hp
 clear hp
 have hb2 := fun (x y : Obj) => two_new w x y
 have hr : ∀ y, ((w.alloc (.cells (stL S).toArray 108)).alloc y).rangeAt w.heap.size 0 (stL S) := fun y => World.rangeAt_alloc (box_all w S) y
 go_enter Tryz.func81, Tryz.ntmps81
 go_wp2_with (first | (refine wpList_load_mid rfl 108 _ rfl w.heap.size 0 rfl (stL S) _ (hr _) Tryz.underlying108 rfl Tryz.size108 ?_))
 refine (stateOp_any S p a cap lo hi m _ (HP.out.below (hb2 _ _) HP.out.size)).mono ?_
 rintro e w1 ⟨⟨k, n, b, hst, rfl⟩, hb1⟩
 have hb1' := (hb2 _ _).trans (hb1.mono (by simp; omega))
 cases ho : stOp S p m with
 | none =>
  have hc : Hid (waits S p m = false) := by show waits S p m = _; unfold waits; rw [ho]
  go_wp2
  go_ret
  exact ⟨ret_bool hc.out.symm, hb1'.alloc hb1'.size _⟩
 | some o =>
  rw [ho] at hst
  obtain ⟨rfl, rfl, rfl⟩ := hst
  by_cases hk : o.kind = 108
  ·have hc : Hid (waits S p m = heldTo S (lockOf o.name) m 4) := by show waits S p m = _; unfold waits; rw [ho]; simp [hk]
   have hk' : ((o.kind : Int) == 108) = true := by simp; omega
   have r1 : ∀ j, w1.cell? ⟨w.heap.size, j, none⟩ = (stL S)[j]? := all_below (fun j => by rw [World.cell?_alloc_past _ _ _ (by simp), box_cell]) hb1 (by simp; omega)
   clear hk ho
   go_wp2_with fail
   have hz1 := hb1.size
   simp only [World.size_alloc] at hz1
   have hbW : Below w.heap.size w (w1.alloc (.cells #[.int .u8 (o.kind : Int), .int .u8 (o.name : Int), .int .i64 o.block] 165)) := hb1'.alloc hb1'.size _
   have c0 : (w1.alloc (.cells #[.int .u8 (o.kind : Int), .int .u8 (o.name : Int), .int .i64 o.block] 165)).cell? ⟨w1.heap.size, 0, none⟩ = some (.int .u8 (o.kind : Int)) := by simp [go_sem]
   have c1 : (w1.alloc (.cells #[.int .u8 (o.kind : Int), .int .u8 (o.name : Int), .int .i64 o.block] 165)).cell? ⟨w1.heap.size, 1, none⟩ = some (.int .u8 (o.name : Int)) := by simp [go_sem]
   have c2 : (w1.alloc (.cells #[.int .u8 (o.kind : Int), .int .u8 (o.name : Int), .int .i64 o.block] 165)).cell? ⟨w1.heap.size, 2, none⟩ = some (.int .i64 o.block) := by simp [go_sem]
   have r2 := all_below r1 (Below.alloc (Below.refl w1.heap.size _) (Nat.le_refl _) (.cells #[.int .u8 (o.kind : Int), .int .u8 (o.name : Int), .int .i64 o.block] 165)) (by omega)
   have hWz : (w1.alloc (.cells #[.int .u8 (o.kind : Int), .int .u8 (o.name : Int), .int .i64 o.block] 165)).heap.size = w1.heap.size + 1 := by simp
   generalize w1.alloc (.cells #[.int .u8 (o.kind : Int), .int .u8 (o.name : Int), .int .i64 o.block] 165) = W at *
   have lt1 : w1.heap.size < W.heap.size := by omega
   have lt0 : w.heap.size < W.heap.size := by omega
   have hl2 := lockOf_two o.name
   have HBW : Hid _ := hbW
   clear hbW hb1 hb1' hWz hz1 hr r1
   go_region_held3 (fun w' => w'.cell? ⟨w1.heap.size, 0, none⟩ = some (.int .u8 (o.kind : Int)) ∧ w'.cell? ⟨w1.heap.size, 1, none⟩ = some (.int .u8 (o.name : Int)) ∧ w'.cell? ⟨w1.heap.size, 2, none⟩ = some (.int .i64 o.block) ∧ okS w' w.heap.size ∧ rd w' w.heap.size = (stL S).toArray)
    (first | exact ⟨c0, c1, c2, rd_of r2⟩ | exact ⟨(hw3.cell (p := ⟨w1.heap.size, 0, none⟩) lt1).trans c0, (hw3.cell (p := ⟨w1.heap.size, 1, none⟩) lt1).trans c1, (hw3.cell (p := ⟨w1.heap.size, 2, none⟩) lt1).trans c2, rd_of (all_below r2 hw3 lt0)⟩ | exact ⟨(hw4.cell (p := ⟨w1.heap.size, 0, none⟩) lt1).trans c0, (hw4.cell (p := ⟨w1.heap.size, 1, none⟩) lt1).trans c1, (hw4.cell (p := ⟨w1.heap.size, 2, none⟩) lt1).trans c2, rd_of (all_below r2 hw4 lt0)⟩)
    (first | (go_at_call 95; refine (lock_any _ _ _ _).mono ?_; rintro e w3 ⟨rfl, hw3'⟩; have hw3 : Below W.heap.size W w3 := (Below.refl _ _).drew.trans (hw3'.mono (Nat.le_refl _))) | (go_at_call 94; refine (heldByOther_any S _ hl2 _ _).mono ?_; rintro e w4 ⟨rfl, hw4'⟩; have hw4 : Below W.heap.size W w4 := hw3.trans (hw4'.mono hw3.size)))
   go_wp2
   go_ret
   exact ⟨ret_bool hc.out.symm, HBW.out.trans (hw4.mono HBW.out.size)⟩
  ·have hc : Hid (waits S p m = false) := by show waits S p m = _; unfold waits; rw [ho]; simp [hk]
   have hk' : ((o.kind : Int) == 108) = false := by simp; omega
   clear hk ho
   go_wp2_with fail
   go_quiet (fail)
   go_wp2
   go_ret
   exact ⟨ret_bool hc.out.symm, below_drewN (hb1'.alloc hb1'.size _) _⟩

end Go.Proofs.YtfdafcnfefbcbabGreat
