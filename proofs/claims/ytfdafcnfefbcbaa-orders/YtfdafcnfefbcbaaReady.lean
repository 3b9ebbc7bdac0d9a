/-
  The contract of State.Ready.
-/
import Derived.Test.YtfdafcnfefbcbaaFollowPl
import Derived.Deep.LoopGhost
namespace Go.Proofs.Ytfdafcnfefbcbaa
open Go.RowKit
set_option linter.unusedVariables false

theorem Try.info3 : (Try.prog.info? 3).map (fun i => (i.zero, i.size, i.bytes)) = some (some (.int .i64 0), 1, 8) := by kernel_rfl

/-- The threads up to number k that can step. -/
def readyTo (S : St) (p : List (List Pl.POp)) : Nat → List Int
  | 0 => []
  | k + 1 => if canStep S p (k : Int) then readyTo S p k ++ [(k : Int)] else readyTo S p k

theorem readyTo_length (S : St) (p : List (List Pl.POp)) : ∀ k, (readyTo S p k).length ≤ k
  | 0 => Nat.le_refl _
  | k + 1 => by
    have := readyTo_length S p k
    unfold readyTo
    split
    · simp; omega
    · omega

structure ReadyAt (S : St) (p : List (List Pl.POp)) (v : Value) (w wr : World) (k : Nat) (ra : Option Addr) (rcap : Nat) : Prop where
  own : wr.ownsRow (w.heap.size + 2) 3 1 (.slice ra (readyTo S p k).length rcap) (readyTo S p k).length (intCells (readyTo S p k))
  st : ∀ j, wr.cell? ⟨w.heap.size, j, none⟩ = (stL S)[j]?
  pr : wr.cell? ⟨w.heap.size + 1, 0, none⟩ = some v
  bl : Below w.heap.size w wr
  size : w.heap.size + 2 ≤ wr.heap.size

theorem ReadyAt.grown {S : St} {p : List (List Pl.POp)} {v : Value} {w wr wr' : World} {k : Nat} {ra : Option Addr} {rcap : Nat} (h : ReadyAt S p v w wr k ra rcap) {k' : Nat} {ra' : Option Addr} {rcap' : Nat} (hb : Below (w.heap.size + 2) wr wr')
    (own : wr'.ownsRow (w.heap.size + 2) 3 1 (.slice ra' (readyTo S p k').length rcap') (readyTo S p k').length (intCells (readyTo S p k'))) : ReadyAt S p v w wr' k' ra' rcap' :=
  ⟨own, fun j => (hb.cell (p := ⟨w.heap.size, j, none⟩) (by show w.heap.size < _; omega)).trans (h.st j), (hb.cell (p := ⟨w.heap.size + 1, 0, none⟩) (by show w.heap.size + 1 < _; omega)).trans h.pr, h.bl.trans (hb.mono (by omega)), Nat.le_trans h.size hb.size⟩

set_option maxRecDepth 100000 in
set_option maxHeartbeats 2000000 in
theorem ready_any (S : St) (p : List (List Pl.POp)) (a : Option Addr) (cap lo hi : Nat) (w : World) (hp : ProgOk w lo hi a cap p) :
    Calls Try.prog 57 #[.agg (stL S).toArray, .agg #[.slice a p.length cap]] w
      fun e w' => (∃ ra rcap, e = .returned (.slice ra (readyTo S p 4).length rcap) ∧ w'.ownsRow w.heap.size 3 1 (.slice ra (readyTo S p 4).length rcap) (readyTo S p 4).length (intCells (readyTo S p 4))) ∧ Below w.heap.size w w' := by
  have HP : Hid (ProgOk w lo hi a cap p) := hp
  clear hp
  obtain ⟨i0, hi0, hz0, hz1, hz2⟩ := info_parts Try.info3
  go_enter Try.func57, Try.ntmps57
  go_wp2_with fail
  go_loopw [5, 7] (fun v' t' wr => ∃ (k : Nat) (ra : Option Addr) (rcap : Nat), k ≤ 4 ∧ t' = .int .i64 (k : Int) ∧ v' = .slice ra (readyTo S p k).length rcap ∧ Hid (ReadyAt S p (.slice a p.length cap) w wr k ra rcap)) (fun _ t' _ => 4 - (intOf t').toNat)
  case atStart =>
    refine ⟨0, none, 0, by omega, rfl, rfl, ?_⟩
    exact ⟨World.ownsRow_nil _ _ _ _, fun j => by rw [World.cell?_alloc_past _ _ _ (by simp), box_cell], by simp [go_sem], two_new w _ _, by simp⟩
  case round =>
    obtain ⟨k, ra, rcap, hk, rfl, rfl, HH⟩ := hrel
    by_cases hlt : k < 4
    · have pr := HH.out.pr
      have hr := range_of_all HH.out.st
      have hz := HH.out.size
      have hkl := readyTo_length S p k
      go_wp2_with (first | refine wpList_load_mid rfl 117 _ rfl w.heap.size 0 rfl (stL S) _ hr Try.underlying117 rfl Try.size117 ?_)
      refine (canStep_any S p a cap lo hi k _ (HP.out.below HH.out.bl HP.out.size)).mono ?_
      rintro e w2 ⟨rfl, hb2⟩
      have hz2' := hb2.size
      have HB2 : Hid (Below (w.heap.size + 2) wr w2) := hb2.mono hz
      have HO2 : Hid (w2.ownsRow (w.heap.size + 2) 3 1 (.slice ra (readyTo S p k).length rcap) (readyTo S p k).length (intCells (readyTo S p k))) := ((ownsRow_in HH.out.own).below hb2).1
      clear pr hr hb2
      cases hc : canStep S p (k : Int)
      · have HS : Hid (readyTo S p (k + 1) = readyTo S p k) := by show _ = _; rw [readyTo, if_neg (by rw [hc]; simp)]
        clear hc
        go_wp2
        go_roundw
        case rel => exact ⟨k + 1, ra, rcap, by omega, by go_num, by rw [HS.out], (show Hid _ from HH.out.grown HB2.out (by rw [HS.out]; exact HO2.out))⟩
        case measure => simp [intOf]; omega
      · have HS : Hid (readyTo S p (k + 1) = readyTo S p k ++ [(k : Int)]) := by show _ = _; rw [readyTo, if_pos hc]
        clear hc
        go_wp2_with (first | (refine wpList_append_lies _ rfl _ _ _ rfl (w.heap.size + 2) 3 i0 _ 1 8 Try.underlying40 hi0 hz0 hz1 hz2 rfl (by omega) (.slice ra (readyTo S p k).length rcap) (readyTo S p k).length (intCells (readyTo S p k)) rfl (HO2.out.alloc _) ⟨w2.heap.size, 0, none⟩ 1 1 [Value.int .i64 (k : Int)] rfl rfl (World.news_of_block (cs := #[Value.int .i64 (k : Int)]) (t := 3) (fr := (0, 0)) (heap_alloc_new w2 _)) (by simp [Value.oneCell']) (by omega) (by unfold maxLen; omega) (by omega) (by simp; omega) (w2.heap.size + 1) (by simp) ?_; intro gg cap1 w5 hown hgrow hat hlt5))
        go_roundw
        case rel =>
          refine ⟨k + 1, some ⟨gg, 0, none⟩, cap1, by omega, by go_num, by rw [HS.out]; simp, (show Hid _ from HH.out.grown (HB2.out.trans (Below.grown ((Below.refl (w.heap.size + 2) w2).alloc (by omega) _) hgrow (by simp; omega) (fun x hx => (HO2.out.lt x hx).1))) (by rw [HS.out]; simpa [intCells] using hown))⟩
        case measure => simp [intOf]; omega
    · have e : k = 4 := by omega
      subst e
      go_wp2
      go_ret
      exact ⟨⟨ra, rcap, rfl, ((ownsRow_in HH.out.own).mono (by omega) (Nat.le_refl _)).1⟩, HH.out.bl⟩

end Go.Proofs.Ytfdafcnfefbcbaa
