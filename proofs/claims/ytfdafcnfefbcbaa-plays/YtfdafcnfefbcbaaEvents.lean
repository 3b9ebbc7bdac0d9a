/-
  The contracts of Program.Events and Program.Ready.
-/
import Derived.Test.YtfdafcnfefbcbaaCalls
import Derived.Deep.RegionHeld3
namespace Go.Proofs.Ytfdafcnfefbcbaa
open Go.RowKit
set_option linter.unusedVariables false
attribute [local go_sem ↓] Go.wp_at_zero Go.wp_at_succ exec_load_state
attribute [local go_sem] ptrB isPtr0 aggL

def EventsSays (p : List (List Pl.POp)) (ms : List Int) (w : World) (e : Ending) (w' : World) : Prop :=
  Below w.heap.size w w' ∧ match follow p (beginTo p 4) [] 0 ms with
  | none => e = .returned (.tuple #[.slice none 0 0, .int .i64 4])
  | some (S, es) => ∃ ea ecap, e = .returned (.tuple #[.slice ea es.length ecap, .int .i64 0]) ∧ w'.ownsRow w.heap.size 70 6 (.slice ea es.length ecap) es.length (evCells es)

set_option maxRecDepth 100000 in
set_option maxHeartbeats 2000000 in
theorem events_any (p : List (List Pl.POp)) (lo hi b : Nat) (ms : List Int) (sa : Option Addr) (scap : Nat) (w : World) (hp : ProgIn w lo hi b p) (hs : Tiny p) (hh : hi ≤ w.heap.size) (hm : IntsIn w sa ms) (hlen : ms.length ≤ maxLen) :
    Calls Try.prog 28 #[.pointer (some ⟨b, 0, none⟩), .slice sa ms.length scap] w fun e w' => EventsSays p ms w e w' := by
  obtain ⟨a, cap, hbh, hc, hok⟩ := hp.ok hs hh
  have HM : Hid _ := hm
  have HOK : Hid _ := hok
  have HL : Hid _ := hlen
  clear hm hok hlen hp hs
  go_enter Try.func28, Try.ntmps28
  go_wp2_with fail
  refine (follow_any p a cap lo hi ms sa scap _ HOK.out HM.out HL.out).mono ?_
  rintro e w1 hf
  obtain ⟨S', ea, n, ecap, c, rfl, hF, hT⟩ := followSays_form hf
  have hb1 := hf.1
  have HF : Hid (c = false → _) := hF
  have HT : Hid (c = true → _) := hT
  clear hF hT hf
  have HXT : Hid ((w1.alloc (.cells #[.int .i16 0, .int .i16 0, .int .i16 0, .int .i16 0, .int .i64 0, .bool false, .int .i16 0, .int .i64 0, .int .i64 0, .int .i64 0, .bool false, .int .i16 0, .int .i64 0, .int .i64 0, .int .i64 0, .bool false, .int .i16 0, .int .i64 0, .int .i64 0, .int .i64 0, .bool false, .int .i16 0, .int .i64 0, .int .i64 0] 117)).there w1.heap.size 0 (stL S').toArray.size) := new_there w1
  have HXB : Hid (Below w1.heap.size w1 ((w1.alloc (.cells #[.int .i16 0, .int .i16 0, .int .i16 0, .int .i16 0, .int .i64 0, .bool false, .int .i16 0, .int .i64 0, .int .i64 0, .int .i64 0, .bool false, .int .i16 0, .int .i64 0, .int .i64 0, .int .i64 0, .bool false, .int .i16 0, .int .i64 0, .int .i64 0, .int .i64 0, .bool false, .int .i16 0, .int .i64 0, .int .i64 0] 117)).setCells w1.heap.size 0 (stL S').toArray.toList)) := new_below w1 _
  go_upto_region 2 with (first | (refine wpList_store_mid rfl 117 _ _ rfl w1.heap.size 0 (stL S').toArray rfl rfl (by exact HXT.out) Try.size117 (all_oneCell_toArray (stL_one _)) ?_; generalize ((w1.alloc (.cells #[.int .i16 0, .int .i16 0, .int .i16 0, .int .i16 0, .int .i64 0, .bool false, .int .i16 0, .int .i64 0, .int .i64 0, .int .i64 0, .bool false, .int .i16 0, .int .i64 0, .int .i64 0, .int .i64 0, .bool false, .int .i16 0, .int .i64 0, .int .i64 0, .int .i64 0, .bool false, .int .i16 0, .int .i64 0, .int .i64 0] 117)).setCells w1.heap.size 0 (stL S').toArray.toList) = X at *))
  have HBX : Hid (Below w.heap.size w X) := hb1.trans (HXB.out.mono hb1.size)
  cases c
  · have HN : Hid _ := HF.out rfl
    clear HF HT
    go_wp2
    go_ret2
    refine ⟨HBX.out, ?_⟩
    rw [HN.out]; rfl
  · obtain ⟨es, hfo, rfl, ho⟩ := HT.out rfl
    have HFO : Hid _ := hfo
    have HO : Hid (X.ownsRow w.heap.size 70 6 (.slice ea es.length ecap) es.length (evCells es)) := ((ownsRow_in ho).below HXB.out).1
    clear HF HT hfo ho
    go_wp2
    go_ret2
    refine ⟨HBX.out, ?_⟩
    rw [HFO.out]
    exact ⟨ea, ecap, rfl, HO.out⟩

def ReadySays (p : List (List Pl.POp)) (ms : List Int) (w : World) (e : Ending) (w' : World) : Prop :=
  Below w.heap.size w w' ∧ match follow p (beginTo p 4) [] 0 ms with
  | none => e = .returned (.tuple #[.slice none 0 0, .int .i64 4])
  | some (S, es) => ∃ ra rcap, e = .returned (.tuple #[.slice ra (readyTo S p 4).length rcap, .int .i64 0]) ∧ w'.ownsRow w.heap.size 3 1 (.slice ra (readyTo S p 4).length rcap) (readyTo S p 4).length (intCells (readyTo S p 4))

set_option maxRecDepth 100000 in
set_option maxHeartbeats 2000000 in
theorem progReady_any (p : List (List Pl.POp)) (lo hi b : Nat) (ms : List Int) (sa : Option Addr) (scap : Nat) (w : World) (hp : ProgIn w lo hi b p) (hs : Tiny p) (hh : hi ≤ w.heap.size) (hm : IntsIn w sa ms) (hlen : ms.length ≤ maxLen) :
    Calls Try.prog 26 #[.pointer (some ⟨b, 0, none⟩), .slice sa ms.length scap] w fun e w' => ReadySays p ms w e w' := by
  obtain ⟨a, cap, hbh, hc, hok⟩ := hp.ok hs hh
  have HM : Hid _ := hm
  have HOK : Hid _ := hok
  have HL : Hid _ := hlen
  clear hm hok hlen hp hs
  go_enter Try.func26, Try.ntmps26
  go_wp2_with fail
  refine (follow_any p a cap lo hi ms sa scap _ HOK.out HM.out HL.out).mono ?_
  rintro e w1 hf
  obtain ⟨S', ea, n, ecap, c, rfl, hF, hT⟩ := followSays_form hf
  have hb1 := hf.1
  have HF : Hid (c = false → _) := hF
  have HT : Hid (c = true → _) := hT
  clear hF hT hf
  have HXT : Hid ((w1.alloc (.cells #[.int .i16 0, .int .i16 0, .int .i16 0, .int .i16 0, .int .i64 0, .bool false, .int .i16 0, .int .i64 0, .int .i64 0, .int .i64 0, .bool false, .int .i16 0, .int .i64 0, .int .i64 0, .int .i64 0, .bool false, .int .i16 0, .int .i64 0, .int .i64 0, .int .i64 0, .bool false, .int .i16 0, .int .i64 0, .int .i64 0] 117)).there w1.heap.size 0 (stL S').toArray.size) := new_there w1
  have HX : Hid (∀ j, ((w1.alloc (.cells #[.int .i16 0, .int .i16 0, .int .i16 0, .int .i16 0, .int .i64 0, .bool false, .int .i16 0, .int .i64 0, .int .i64 0, .int .i64 0, .bool false, .int .i16 0, .int .i64 0, .int .i64 0, .int .i64 0, .bool false, .int .i16 0, .int .i64 0, .int .i64 0, .int .i64 0, .bool false, .int .i16 0, .int .i64 0, .int .i64 0] 117)).setCells w1.heap.size 0 (stL S').toArray.toList).cell? ⟨w1.heap.size, j, none⟩ = (stL S')[j]?) := new_all w1 _
  have HXB : Hid (Below w1.heap.size w1 ((w1.alloc (.cells #[.int .i16 0, .int .i16 0, .int .i16 0, .int .i16 0, .int .i64 0, .bool false, .int .i16 0, .int .i64 0, .int .i64 0, .int .i64 0, .bool false, .int .i16 0, .int .i64 0, .int .i64 0, .int .i64 0, .bool false, .int .i16 0, .int .i64 0, .int .i64 0, .int .i64 0, .bool false, .int .i16 0, .int .i64 0, .int .i64 0] 117)).setCells w1.heap.size 0 (stL S').toArray.toList)) := new_below w1 _
  have HXZ : Hid (((w1.alloc (.cells #[.int .i16 0, .int .i16 0, .int .i16 0, .int .i16 0, .int .i64 0, .bool false, .int .i16 0, .int .i64 0, .int .i64 0, .int .i64 0, .bool false, .int .i16 0, .int .i64 0, .int .i64 0, .int .i64 0, .bool false, .int .i16 0, .int .i64 0, .int .i64 0, .int .i64 0, .bool false, .int .i16 0, .int .i64 0, .int .i64 0] 117)).setCells w1.heap.size 0 (stL S').toArray.toList).heap.size = w1.heap.size + 1) := by show _ = _; rw [size_setCells]; simp
  go_upto_region 2 with (first | (refine wpList_store_mid rfl 117 _ _ rfl w1.heap.size 0 (stL S').toArray rfl rfl (by exact HXT.out) Try.size117 (all_oneCell_toArray (stL_one _)) ?_; generalize ((w1.alloc (.cells #[.int .i16 0, .int .i16 0, .int .i16 0, .int .i16 0, .int .i64 0, .bool false, .int .i16 0, .int .i64 0, .int .i64 0, .int .i64 0, .bool false, .int .i16 0, .int .i64 0, .int .i64 0, .int .i64 0, .bool false, .int .i16 0, .int .i64 0, .int .i64 0, .int .i64 0, .bool false, .int .i16 0, .int .i64 0, .int .i64 0] 117)).setCells w1.heap.size 0 (stL S').toArray.toList) = X at *))
  have HBX : Hid (Below w.heap.size w X) := hb1.trans (HXB.out.mono hb1.size)
  cases c
  · have HN : Hid _ := HF.out rfl
    clear HF HT
    go_wp2
    go_ret2
    refine ⟨HBX.out, ?_⟩
    rw [HN.out]; rfl
  · obtain ⟨es, hfo, rfl, -⟩ := HT.out rfl
    have HFO : Hid _ := hfo
    have hcX : X.cell? ⟨b, 0, none⟩ = some (.slice a p.length cap) := (HBX.out.cell (p := ⟨b, 0, none⟩) (show b < w.heap.size by omega)).trans hc
    have HOX : Hid _ := HOK.out.below HBX.out HOK.out.size
    have HRD : Hid _ := rd_of HX.out
    have lt1 : w1.heap.size < X.heap.size := by have := HXZ.out; omega
    have ltb : b < X.heap.size := by have := HBX.out.size; omega
    clear HF HT hfo HXT HXB hb1 hc
    go_wp2_with fail
    go_region_held3 (fun w' => w'.cell? ⟨b, 0, none⟩ = some (.slice a p.length cap) ∧ okS w' w1.heap.size ∧ rd w' w1.heap.size = (stL S').toArray)
      (first | exact ⟨hcX, rd_of HX.out⟩ | exact ⟨(hw3.cell (p := ⟨b, 0, none⟩) ltb).trans hcX, rd_of (all_below HX.out hw3 lt1)⟩)
      (first | (go_at_call 57; refine (ready_any S' p a cap lo hi _ (HOX.out.below (B := X.heap.size) (Below.refl _ _).drew HOX.out.size)).mono ?_; rintro e w3 ⟨⟨ra, rcap, rfl, ho3⟩, hw3'⟩; have hw3 : Below X.heap.size X w3 := (Below.refl _ _).drew.trans (hw3'.mono (Nat.le_refl _)); have HO3 : Hid _ := ho3; clear ho3))
    go_wp2
    go_ret2
    refine ⟨HBX.out.trans (hw3.mono HBX.out.size), ?_⟩
    rw [HFO.out]
    exact ⟨ra, rcap, rfl, ((ownsRow_in HO3.out).mono (by have := HBX.out.size; simp; omega) (Nat.le_refl _)).1⟩

end Go.Proofs.Ytfdafcnfefbcbaa
