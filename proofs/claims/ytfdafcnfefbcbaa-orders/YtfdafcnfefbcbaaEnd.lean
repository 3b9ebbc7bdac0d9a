/-
  The contract of State.End.
-/
import Derived.Test.YtfdafcnfefbcbaaFollowPl
import Derived.Deep.LoopGhost
namespace Go.Proofs.Ytfdafcnfefbcbaa
open Go.RowKit
set_option linter.unusedVariables false

/-- End behind thread n. -/
def endOne (S : St) (p : List (List Pl.POp)) (n e : Nat) : Nat :=
  if (S.th n).failed = true ∧ (if waits S p (n : Int) then 3 else e) = 1 then 2 else (if waits S p (n : Int) then 3 else e)

/-- How the run stands, told by the threads from number n on (k of them), e so far. -/
def endFrom (S : St) (p : List (List Pl.POp)) : Nat → Nat → Nat → Nat
  | 0, _, e => e
  | k + 1, n, e => if canStep S p (n : Int) then 0 else endFrom S p k (n + 1) (endOne S p n e)

def endOf (S : St) (p : List (List Pl.POp)) : Nat := endFrom S p 4 0 1

theorem endFrom_yes {S : St} {p : List (List Pl.POp)} {k n e : Nat} (h : canStep S p (n : Int) = true) : endFrom S p (k + 1) n e = 0 := by rw [endFrom, if_pos h]
theorem endFrom_no {S : St} {p : List (List Pl.POp)} {k n e : Nat} (h : canStep S p (n : Int) = false) : endFrom S p (k + 1) n e = endFrom S p k (n + 1) (endOne S p n e) := by rw [endFrom, if_neg (by rw [h]; simp)]

theorem ths_any (S : St) (k : Nat) (hk : k < 4) (w : World) : (Instr.index 115 (.agg (thsL S).toArray) (.int .i64 (k : Int))).run Try.prog w = .ok (.agg #[.int .i64 ((S.th k).pos : Int), .bool (S.th k).failed, .int .i16 (S.th k).reg, .int .i64 ((S.th k).h0 : Int), .int .i64 ((S.th k).h1 : Int)]) w := by
  have h2 : k = 0 ∨ k = 1 ∨ k = 2 ∨ k = 3 := by omega
  rcases h2 with rfl | rfl | rfl | rfl
  · exact ths_0 S w
  · exact ths_1 S w
  · exact ths_2 S w
  · exact ths_3 S w

structure EndAt (S : St) (v : Value) (w wr : World) : Prop where
  st : ∀ j, wr.cell? ⟨w.heap.size, j, none⟩ = (stL S)[j]?
  pr : wr.cell? ⟨w.heap.size + 1, 0, none⟩ = some v
  bl : Below w.heap.size w wr
  size : w.heap.size + 2 ≤ wr.heap.size

theorem EndAt.below {S : St} {v : Value} {w wr wr' : World} (h : EndAt S v w wr) {B : Nat} (hb : Below B wr wr') (hB : w.heap.size + 2 ≤ B) : EndAt S v w wr' :=
  ⟨fun j => (hb.cell (p := ⟨w.heap.size, j, none⟩) (by show w.heap.size < _; omega)).trans (h.st j), (hb.cell (p := ⟨w.heap.size + 1, 0, none⟩) (by show w.heap.size + 1 < _; omega)).trans h.pr, h.bl.trans (hb.mono (by omega)), Nat.le_trans h.size hb.size⟩

set_option maxRecDepth 100000 in
set_option maxHeartbeats 2000000 in
theorem end_any (S : St) (p : List (List Pl.POp)) (a : Option Addr) (cap lo hi : Nat) (w : World) (hp : ProgOk w lo hi a cap p) :
    Calls Try.prog 88 #[.agg (stL S).toArray, .agg #[.slice a p.length cap]] w
      fun e w' => e = .returned (.int .u8 (endOf S p : Int)) ∧ Below w.heap.size w w' := by
  have HP : Hid (ProgOk w lo hi a cap p) := hp
  clear hp
  have hr : ∀ y, ((w.alloc (.cells (stL S).toArray 117)).alloc y).rangeAt w.heap.size 4 (thsL S) := fun y => World.rangeAt_alloc (box_ths w S) y
  go_enter Try.func88, Try.ntmps88
  go_wp2_with (first | refine wpList_load_mid rfl 115 _ rfl w.heap.size 4 rfl (thsL S) _ (hr _) Try.underlying115 rfl Try.size115 ?_)
  clear hr
  go_loopw [5, 10] (fun v' t' wr => ∃ (k e : Nat), k ≤ 4 ∧ e ≤ 3 ∧ t' = .int .i64 (k : Int) ∧ v' = .int .u8 (e : Int) ∧ Hid (EndAt S (.slice a p.length cap) w wr ∧ endOf S p = endFrom S p (4 - k) k e)) (fun _ t' _ => 4 - (intOf t').toNat)
  case atStart =>
    refine ⟨0, 1, by omega, by omega, rfl, rfl, ?_⟩
    exact ⟨⟨fun j => by rw [World.cell?_alloc_past _ _ _ (by simp), box_cell], by simp [go_sem], two_new w _ _, by simp⟩, rfl⟩
  case round =>
    obtain ⟨k, e, hk, he, rfl, rfl, HH⟩ := hrel
    by_cases hlt : k < 4
    · have HE : Hid (endOf S p = endFrom S p (3 - k + 1) k e) := by rw [show 3 - k + 1 = 4 - k by omega]; exact HH.out.2
      have hix := ths_any S k hlt
      go_upto_region 5 with fail
      have HA1 : Hid (EndAt S (.slice a p.length cap) w (wr.alloc (.cells #[.int .i64 ((S.th k).pos : Int), .bool (S.th k).failed, .int .i16 (S.th k).reg, .int .i64 ((S.th k).h0 : Int), .int .i64 ((S.th k).h1 : Int)] 114))) := HH.out.1.below ((Below.refl _ _).alloc (Nat.le_refl _) _) HH.out.1.size
      have t1 : (wr.alloc (.cells #[.int .i64 ((S.th k).pos : Int), .bool (S.th k).failed, .int .i16 (S.th k).reg, .int .i64 ((S.th k).h0 : Int), .int .i64 ((S.th k).h1 : Int)] 114)).cell? ⟨wr.heap.size, 1, none⟩ = some (.bool (S.th k).failed) := by simp
      have hsz : Hid ((wr.alloc (.cells #[.int .i64 ((S.th k).pos : Int), .bool (S.th k).failed, .int .i16 (S.th k).reg, .int .i64 ((S.th k).h0 : Int), .int .i64 ((S.th k).h1 : Int)] 114)).heap.size = wr.heap.size + 1) := by show _ = _; simp
      generalize wr.alloc (.cells #[.int .i64 ((S.th k).pos : Int), .bool (S.th k).failed, .int .i16 (S.th k).reg, .int .i64 ((S.th k).h0 : Int), .int .i64 ((S.th k).h1 : Int)] 114) = X at *
      have hz := HH.out.1.size
      have pr := HA1.out.pr
      have hr := range_of_all HA1.out.st
      clear hix
      go_wp2_with (first | refine wpList_load_mid rfl 117 _ rfl w.heap.size 0 rfl (stL S) _ hr Try.underlying117 rfl Try.size117 ?_)
      refine (canStep_any S p a cap lo hi k _ (HP.out.below HA1.out.bl HP.out.size)).mono ?_
      rintro e2 w2 ⟨rfl, hb2⟩
      have lt2 : wr.heap.size < X.heap.size := by have := hsz.out; omega
      have t2 := (hb2.cell (p := ⟨wr.heap.size, 1, none⟩) lt2).trans t1
      have HA2 : Hid _ := HA1.out.below hb2 HA1.out.size
      have HB2 : Hid _ := hb2
      clear t1 pr hr hb2
      have pr := HA2.out.pr
      have hr := range_of_all HA2.out.st
      cases hc : canStep S p (k : Int)
      · have HE2 : Hid _ := HE.out.trans (endFrom_no hc)
        clear hc
        go_wp2_with (first | refine wpList_load_mid rfl 117 _ rfl w.heap.size 0 rfl (stL S) _ hr Try.underlying117 rfl Try.size117 ?_)
        refine (waits_any S p a cap lo hi k _ (HP.out.below HA2.out.bl HP.out.size)).mono ?_
        rintro e3 w3 ⟨rfl, hb3⟩
        have t3 := (hb3.cell (p := ⟨wr.heap.size, 1, none⟩) (Nat.lt_of_lt_of_le lt2 HB2.out.size)).trans t2
        have HA3 : Hid _ := HA2.out.below hb3 HA2.out.size
        clear t2 pr hr hb3
        have HO : Hid (∀ e', endOne S p k e = e' → endOf S p = endFrom S p (4 - (k + 1)) (k + 1) e') := fun e' he' => by
          rw [HE2.out, he', show 4 - (k + 1) = 3 - k by omega]
        cases hw : waits S p (k : Int) <;> cases hf : (S.th k).failed <;> rw [hf] at t3
        · have HV : Hid (endOne S p k e = e) := by show _ = _; unfold endOne; rw [hw, hf]; simp
          clear hw hf
          go_wp2
          go_roundw
          case rel => exact ⟨k + 1, e, by omega, by omega, by go_num, rfl, (show Hid _ from ⟨HA3.out, HO.out _ HV.out⟩)⟩
          case measure => simp [intOf]; omega
        · by_cases h1 : e = 1
          · have h1' : ((e : Int) == 1) = true := by simp; omega
            have HV : Hid (endOne S p k e = 2) := by show _ = _; unfold endOne; rw [hw, hf]; simp [h1]
            clear hw hf h1
            go_wp2
            go_roundw
            case rel => exact ⟨k + 1, 2, by omega, by omega, by go_num, rfl, (show Hid _ from ⟨HA3.out, HO.out _ HV.out⟩)⟩
            case measure => simp [intOf]; omega
          · have h1' : ((e : Int) == 1) = false := by simp; omega
            have HV : Hid (endOne S p k e = e) := by show _ = _; unfold endOne; rw [hw, hf]; simp [h1]
            clear hw hf h1
            go_wp2
            go_roundw
            case rel => exact ⟨k + 1, e, by omega, by omega, by go_num, rfl, (show Hid _ from ⟨HA3.out, HO.out _ HV.out⟩)⟩
            case measure => simp [intOf]; omega
        · have HV : Hid (endOne S p k e = 3) := by show _ = _; unfold endOne; rw [hw, hf]; simp
          clear hw hf
          go_wp2
          go_roundw
          case rel => exact ⟨k + 1, 3, by omega, by omega, by go_num, rfl, (show Hid _ from ⟨HA3.out, HO.out _ HV.out⟩)⟩
          case measure => simp [intOf]; omega
        · have HV : Hid (endOne S p k e = 3) := by show _ = _; unfold endOne; rw [hw, hf]; simp
          clear hw hf
          go_wp2
          go_roundw
          case rel => exact ⟨k + 1, 3, by omega, by omega, by go_num, rfl, (show Hid _ from ⟨HA3.out, HO.out _ HV.out⟩)⟩
          case measure => simp [intOf]; omega
      · have HE2 : Hid _ := HE.out.trans (endFrom_yes hc)
        clear hc
        go_wp2
        go_ret
        exact ⟨ret_int (by rw [HE2.out]; rfl), HA2.out.bl⟩
    · have e : k = 4 := by omega
      subst e
      go_wp2
      go_ret
      exact ⟨ret_int (by rw [HH.out.2]; rfl), HH.out.1.bl⟩

end Go.Proofs.Ytfdafcnfefbcbaa
