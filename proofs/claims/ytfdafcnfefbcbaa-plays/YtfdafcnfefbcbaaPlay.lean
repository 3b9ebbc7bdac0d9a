/-
  The contract of Program.Play.
-/
import Derived.Test.YtfdafcnfefbcbaaResult
namespace Go.Proofs.Ytfdafcnfefbcbaa
open Go.RowKit
set_option linter.unusedVariables false
attribute [local go_sem ↓] Go.wp_at_zero Go.wp_at_succ exec_load_state
attribute [local go_sem] ptrB isPtr0 aggL

set_option maxRecDepth 100000 in
set_option maxHeartbeats 2000000 in
theorem play_any (p : List (List Pl.POp)) (lo hi b : Nat) (ms : List Int) (sa : Option Addr) (scap : Nat) (w : World) (hp : ProgIn w lo hi b p) (hs : Tiny p) (hh : hi ≤ w.heap.size) (hm : IntsIn w sa ms) (hlen : ms.length ≤ maxLen) :
    Calls Try.prog 27 #[.pointer (some ⟨b, 0, none⟩), .slice sa ms.length scap] w fun e w' => e = .returned (playV p ms) ∧ Below w.heap.size w w' := by
  obtain ⟨a, cap, hbh, hc, hok⟩ := hp.ok hs hh
  have HM : Hid _ := hm
  have HOK : Hid _ := hok
  have HL : Hid _ := hlen
  clear hm hok hlen hp hs
  go_enter Try.func27, Try.ntmps27
  go_upto_region 1 with fail
  have hwb : Below w.heap.size w (w.alloc (.cells #[.int .u8 0, .int .i16 0, .int .i16 0, .int .i16 0, .int .i16 0] 59)) := (Below.refl _ _).alloc (Nat.le_refl _) _
  have r0 : (w.alloc (.cells #[.int .u8 0, .int .i16 0, .int .i16 0, .int .i16 0, .int .i16 0] 59)).cell? ⟨w.heap.size, 0, none⟩ = some (.int .u8 0) := by simp
  have r1 : (w.alloc (.cells #[.int .u8 0, .int .i16 0, .int .i16 0, .int .i16 0, .int .i16 0] 59)).cell? ⟨w.heap.size, 1, none⟩ = some (.int .i16 0) := by simp
  have r2 : (w.alloc (.cells #[.int .u8 0, .int .i16 0, .int .i16 0, .int .i16 0, .int .i16 0] 59)).cell? ⟨w.heap.size, 2, none⟩ = some (.int .i16 0) := by simp
  have r3 : (w.alloc (.cells #[.int .u8 0, .int .i16 0, .int .i16 0, .int .i16 0, .int .i16 0] 59)).cell? ⟨w.heap.size, 3, none⟩ = some (.int .i16 0) := by simp
  have r4 : (w.alloc (.cells #[.int .u8 0, .int .i16 0, .int .i16 0, .int .i16 0, .int .i16 0] 59)).cell? ⟨w.heap.size, 4, none⟩ = some (.int .i16 0) := by simp
  have rf : ∀ j, (w.alloc (.cells #[.int .u8 0, .int .i16 0, .int .i16 0, .int .i16 0, .int .i16 0] 59)).frozen? ⟨w.heap.size, j, none⟩ = false := fun j => World.frozen?_alloc_at _ _ _ _ rfl
  have hwz : (w.alloc (.cells #[.int .u8 0, .int .i16 0, .int .i16 0, .int .i16 0, .int .i16 0] 59)).heap.size = w.heap.size + 1 := by simp
  generalize w.alloc (.cells #[.int .u8 0, .int .i16 0, .int .i16 0, .int .i16 0, .int .i16 0] 59) = W at *
  have hcW : W.cell? ⟨b, 0, none⟩ = some (.slice a p.length cap) := (hwb.cell (p := ⟨b, 0, none⟩) (show b < w.heap.size by omega)).trans hc
  have HWZ : Hid _ := hwz
  clear hwz hc
  go_wp2_with fail
  refine (follow_any p a cap lo hi ms sa scap _ (HOK.out.below hwb HOK.out.size) (IntsIn.below HM.out hwb) HL.out).mono ?_
  rintro e w1 hf
  obtain ⟨S', ea, n, ecap, c, rfl, hF, hT⟩ := followSays_form hf
  have hb1 := hf.1
  have HF : Hid (c = false → _) := hF
  have HT : Hid (c = true → _) := hT
  clear hF hT hf
  have HXT : Hid ((w1.alloc (.cells #[.int .i16 0, .int .i16 0, .int .i16 0, .int .i16 0, .int .i64 0, .bool false, .int .i16 0, .int .i64 0, .int .i64 0, .int .i64 0, .bool false, .int .i16 0, .int .i64 0, .int .i64 0, .int .i64 0, .bool false, .int .i16 0, .int .i64 0, .int .i64 0, .int .i64 0, .bool false, .int .i16 0, .int .i64 0, .int .i64 0] 117)).there w1.heap.size 0 (stL S').toArray.size) := new_there w1
  have HX : Hid (∀ j, ((w1.alloc (.cells #[.int .i16 0, .int .i16 0, .int .i16 0, .int .i16 0, .int .i64 0, .bool false, .int .i16 0, .int .i64 0, .int .i64 0, .int .i64 0, .bool false, .int .i16 0, .int .i64 0, .int .i64 0, .int .i64 0, .bool false, .int .i16 0, .int .i64 0, .int .i64 0, .int .i64 0, .bool false, .int .i16 0, .int .i64 0, .int .i64 0] 117)).setCells w1.heap.size 0 (stL S').toArray.toList).cell? ⟨w1.heap.size, j, none⟩ = (stL S')[j]?) := new_all w1 _
  have HXB : Hid (Below w1.heap.size w1 ((w1.alloc (.cells #[.int .i16 0, .int .i16 0, .int .i16 0, .int .i16 0, .int .i64 0, .bool false, .int .i16 0, .int .i64 0, .int .i64 0, .int .i64 0, .bool false, .int .i16 0, .int .i64 0, .int .i64 0, .int .i64 0, .bool false, .int .i16 0, .int .i64 0, .int .i64 0, .int .i64 0, .bool false, .int .i16 0, .int .i64 0, .int .i64 0] 117)).setCells w1.heap.size 0 (stL S').toArray.toList)) := new_below w1 _
  have HXZ : Hid (((w1.alloc (.cells #[.int .i16 0, .int .i16 0, .int .i16 0, .int .i16 0, .int .i64 0, .bool false, .int .i16 0, .int .i64 0, .int .i64 0, .int .i64 0, .bool false, .int .i16 0, .int .i64 0, .int .i64 0, .int .i64 0, .bool false, .int .i16 0, .int .i64 0, .int .i64 0, .int .i64 0, .bool false, .int .i16 0, .int .i64 0, .int .i64 0] 117)).setCells w1.heap.size 0 (stL S').toArray.toList).heap.size = w1.heap.size + 1) := by show _ = _; rw [size_setCells]; simp
  go_upto_region 2 with (first | (refine wpList_store_mid rfl 117 _ _ rfl w1.heap.size 0 (stL S').toArray rfl rfl (by exact HXT.out) Try.size117 (all_oneCell_toArray (stL_one _)) ?_; generalize ((w1.alloc (.cells #[.int .i16 0, .int .i16 0, .int .i16 0, .int .i16 0, .int .i64 0, .bool false, .int .i16 0, .int .i64 0, .int .i64 0, .int .i64 0, .bool false, .int .i16 0, .int .i64 0, .int .i64 0, .int .i64 0, .bool false, .int .i16 0, .int .i64 0, .int .i64 0, .int .i64 0, .bool false, .int .i16 0, .int .i64 0, .int .i64 0] 117)).setCells w1.heap.size 0 (stL S').toArray.toList) = X at *))
  have HWX : Hid (Below W.heap.size W X) := hb1.trans (HXB.out.mono hb1.size)
  have HBX : Hid (Below w.heap.size w X) := hwb.trans (HWX.out.mono hwb.size)
  have ltr : w.heap.size < W.heap.size := by have := HWZ.out; omega
  have x0 := (HWX.out.cell (p := ⟨w.heap.size, 0, none⟩) ltr).trans r0
  have x1 := (HWX.out.cell (p := ⟨w.heap.size, 1, none⟩) ltr).trans r1
  have x2 := (HWX.out.cell (p := ⟨w.heap.size, 2, none⟩) ltr).trans r2
  have x3 := (HWX.out.cell (p := ⟨w.heap.size, 3, none⟩) ltr).trans r3
  have x4 := (HWX.out.cell (p := ⟨w.heap.size, 4, none⟩) ltr).trans r4
  have xf := fun j => (HWX.out.frozen (p := ⟨w.heap.size, j, none⟩) ltr).trans (rf j)
  clear r0 r1 r2 r3 r4 rf
  cases c
  · have HN : Hid (playV p ms = .tuple #[resV 0 0 0 0 0, .int .i64 4]) := by show _ = _; unfold playV; rw [HF.out rfl]
    clear HF HT hcW
    go_wp2
    rw [HN.out]
    refine bodyPost_ret (v := .tuple #[resV 0 0 0 0 0, .int .i64 4]) (ret_mid Try.results27 _ (put5 X w.heap.size (.int .u8 0) (.int .i16 0) (.int .i16 0) (.int .i16 0) (.int .i16 0)) w.heap.size _ _ rfl (put5_range _ _ _ _ _ x0 x1 x2 x3 x4) Try.underlying59 rfl Try.size59) rfl ⟨rfl, put5_below HBX.out (Nat.le_refl _) _ _ _ _ _⟩
  · obtain ⟨es, hfo, rfl, -⟩ := HT.out rfl
    have HN : Hid (playV p ms = .tuple #[resV (endOf S' p) S'.v0 S'.v1 S'.v2 S'.v3, .int .i64 0]) := by show _ = _; unfold playV; rw [hfo]
    have hcX : X.cell? ⟨b, 0, none⟩ = some (.slice a p.length cap) := (HWX.out.cell (p := ⟨b, 0, none⟩) (show b < W.heap.size by omega)).trans hcW
    have HOX : Hid _ := HOK.out.below HBX.out HOK.out.size
    have HRD : Hid _ := rd_of HX.out
    have lt1 : w1.heap.size < X.heap.size := by have := HXZ.out; omega
    have ltb : b < X.heap.size := by have := HBX.out.size; omega
    have ltw : w.heap.size < X.heap.size := by have := HWX.out.size; omega
    have ne1 : w1.heap.size ≠ w.heap.size := by have := hb1.size; omega
    have neb : b ≠ w.heap.size := by omega
    have s0 : X.cell? ⟨w1.heap.size, 0, none⟩ = some (.int .i16 S'.v0) := HX.out 0
    have s1 : X.cell? ⟨w1.heap.size, 1, none⟩ = some (.int .i16 S'.v1) := HX.out 1
    have s2 : X.cell? ⟨w1.heap.size, 2, none⟩ = some (.int .i16 S'.v2) := HX.out 2
    have s3 : X.cell? ⟨w1.heap.size, 3, none⟩ = some (.int .i16 S'.v3) := HX.out 3
    clear HF HT hfo HXT HXB hb1 hcW
    go_wp2_with fail
    have hth5 : X.there w.heap.size 0 5 := fun j hj => by
      have : j = 0 ∨ j = 1 ∨ j = 2 ∨ j = 3 ∨ j = 4 := by omega
      refine ⟨?_, xf _⟩
      rcases this with rfl | rfl | rfl | rfl | rfl
      · rw [x0]; rfl
      · rw [x1]; rfl
      · rw [x2]; rfl
      · rw [x3]; rfl
      · rw [x4]; rfl
    refine wp_region_held_drew (S := PlayT b w1.heap.size w.heap.size (.slice a p.length cap) S') (by kernel_rfl) ⟨hcX, HX.out, hth5⟩ (fun hHeld => ?_)
    clear x0 x1 x2 x3 x4 xf s0 s1 s2 s3
    refine wpAnyH_take (i := 0) (v := (.agg (stL S').toArray)) rfl (by kernel_rfl) (by kernel_rfl) (by kernel_rfl) (fun _ _ _ h => h) (yieldsIf_load_mid (by rfl) _ _ rfl w1.heap.size 0 rfl _ _ (fun w hw => range_of_all hw.st) Try.underlying117 rfl Try.size117) hHeld ?_
    simp only [List.getElem_toArray, List.getElem_cons_zero, Act.put, List.setIfInBounds_toArray, List.set_cons_zero, List.set_cons_succ]
    refine wpAnyH_take (i := 1) (v := (.pointer (some ⟨b, 0, none⟩))) rfl (by kernel_rfl) (by kernel_rfl) (by kernel_rfl) (fun _ _ _ h => h) (Or.inl ⟨by rfl, fun _ _ => rfl⟩) hHeld ?_
    simp only [List.getElem_toArray, List.getElem_cons_zero, List.getElem_cons_succ, Act.put, List.setIfInBounds_toArray, List.set_cons_zero, List.set_cons_succ]
    refine wpAnyH_take (i := 2) (v := (.pointer (some ⟨b, 0, none⟩))) rfl (by kernel_rfl) (by kernel_rfl) (by kernel_rfl) (fun _ _ _ h => h) (Or.inl ⟨by rfl, fun _ _ => rfl⟩) hHeld ?_
    simp only [List.getElem_toArray, List.getElem_cons_zero, List.getElem_cons_succ, Act.put, List.setIfInBounds_toArray, List.set_cons_zero, List.set_cons_succ]
    refine wpAnyH_take (i := 3) (v := (.pointer (some ⟨b, 0, none⟩))) rfl (by kernel_rfl) (by kernel_rfl) (by kernel_rfl) (fun _ _ _ h => h) (Or.inl ⟨by rfl, fun _ _ => rfl⟩) hHeld ?_
    simp only [List.getElem_toArray, List.getElem_cons_zero, List.getElem_cons_succ, Act.put, List.setIfInBounds_toArray, List.set_cons_zero, List.set_cons_succ]
    refine wpAnyH_take (i := 4) (v := (.agg #[.slice a p.length cap])) rfl (by kernel_rfl) (by kernel_rfl) (by kernel_rfl) (fun _ _ _ h => h) (yieldsIf_load_mid (by rfl) _ _ rfl b 0 rfl [.slice a p.length cap] _ (fun w hw => hw.range1) Try.underlying101 rfl Try.size101) hHeld ?_
    simp only [List.getElem_toArray, List.getElem_cons_zero, List.getElem_cons_succ, Act.put, List.setIfInBounds_toArray, List.set_cons_zero, List.set_cons_succ]
    refine wpAnyH_call 5 _ (by kernel_rfl) rfl rfl 58 #[.agg (stL S').toArray, .agg #[.slice a p.length cap]] (by go_simp) _ (result_any S' p a cap lo hi _ (HOX.out.below (B := X.heap.size) (Below.refl _ _).drew HOX.out.size)) ?_
    rintro e w3 ⟨rfl, hw3'⟩
    have hw3 : Below X.heap.size X w3 := (Below.refl _ _).drew.trans (hw3'.mono (Nat.le_refl _))
    have hS3 := hHeld.below hw3' ltb lt1 ltw
    refine ⟨_, rfl, hS3, ?_⟩
    simp only [List.getElem_toArray, List.getElem_cons_zero, List.getElem_cons_succ, Act.put, List.setIfInBounds_toArray, List.set_cons_zero, List.set_cons_succ]
    have hS4 := hS3.put neb ne1 #[Value.int .u8 (endOf S' p : Int), .int .i16 S'.v0, .int .i16 S'.v1, .int .i16 S'.v2, .int .i16 S'.v3].toList
    refine wpAnyH_store 6 _ (by kernel_rfl) rfl rfl rfl 59 _ _ rfl w.heap.size #[Value.int .u8 (endOf S' p : Int), .int .i16 S'.v0, .int .i16 S'.v1, .int .i16 S'.v2, .int .i16 S'.v3] rfl rfl hS3.there Try.size59 (by simp [Value.oneCell']) hS4 ?_
    refine wpAnyH_take (i := 7) (v := (.int .i64 0)) rfl (by kernel_rfl) (by kernel_rfl) (by kernel_rfl) (fun _ _ _ h => h) (Or.inl ⟨by rfl, fun _ _ => rfl⟩) hS4 ?_
    simp only [List.getElem_toArray, List.getElem_cons_zero, List.getElem_cons_succ, Act.put, List.setIfInBounds_toArray, List.set_cons_zero, List.set_cons_succ]
    refine wpAnyH_done (by kernel_rfl) ?_ _
    have xr := World.rangeAt_setCells_same w3 w.heap.size 0 #[Value.int .u8 (endOf S' p : Int), .int .i16 S'.v0, .int .i16 S'.v1, .int .i16 S'.v2, .int .i16 S'.v3].toList hS3.there
    have xb := below_setCells w.heap.size (Nat.le_refl _) #[Value.int .u8 (endOf S' p : Int), .int .i16 S'.v0, .int .i16 S'.v1, .int .i16 S'.v2, .int .i16 S'.v3].toList 0 _ (HBX.out.trans (hw3.mono HBX.out.size))
    generalize w3.setCells w.heap.size 0 #[Value.int .u8 (endOf S' p : Int), .int .i16 S'.v0, .int .i16 S'.v1, .int .i16 S'.v2, .int .i16 S'.v3].toList = F at *
    go_wp2
    rw [HN.out]
    refine bodyPost_ret (v := .tuple #[resV (endOf S' p) S'.v0 S'.v1 S'.v2 S'.v3, .int .i64 0]) (ret_mid Try.results27 _ F w.heap.size _ _ rfl xr Try.underlying59 rfl Try.size59) rfl ⟨rfl, xb⟩

end Go.Proofs.Ytfdafcnfefbcbaa
