/-
  The law Readied: its walk.
-/
import Derived.Test.YtfdafcnfefbcbaaLine
import Derived.BigQuiet
import Derived.Deep.QuietTactic
namespace Go.Proofs.Ytfdafcnfefbcbaa
open Go.RowKit
set_option linter.unusedVariables false

structure RawArgs (w : World) (a : Option Addr) (os : List Raw) (ra : Option Addr) (rs : List Int) : Prop where
  ops : RawsIn w a os
  nums : NumsIn w ra rs
  lenO : os.length ≤ 140737488351232
  lenR : rs.length ≤ 140737488351232

theorem RawsIn.below {w w' : World} {a : Option Addr} {os : List Raw} (h : RawsIn w a os) (hb : Below w.heap.size w w') : RawsIn w' a os := fun h0 => by
  obtain ⟨g, o, e, hg, hc⟩ := h h0
  refine ⟨g, o, e, Nat.lt_of_lt_of_le hg hb.size, fun i x hx => ?_⟩
  obtain ⟨a1, a2, a3, a4⟩ := hc i x hx
  exact ⟨(hb.cell (p := ⟨g, o + i * 3, none⟩) hg).trans a1, (hb.cell (p := ⟨g, o + i * 3 + 1, none⟩) hg).trans a2, (hb.cell (p := ⟨g, o + i * 3 + 2, none⟩) hg).trans a3, a4⟩

set_option maxRecDepth 100000 in
set_option maxHeartbeats 2000000 in
theorem readied_walk (os : List Raw) (rs : List Int) (t : Int) (a ra : Option Addr) (cap rcap : Nat) (w : World) (h : RawArgs w a os ra rs) (ht : InI64 t) :
    Calls Try.prog 6 #[.slice a os.length cap, .slice ra rs.length rcap, .int .i64 t] w fun e w' => e = .returned (.bool true) ∧ Below w.heap.size w w' := by
  have HH : Hid _ := h
  have HT : Hid _ := ht
  clear h ht
  go_enter Try.func6, Try.ntmps6
  go_wp2_with fail
  refine (sure_any _).mono ?_
  rintro e w1 ⟨rfl, hb1⟩
  go_wp2_with fail
  refine (given_any os a cap _ (HH.out.ops.below hb1) HH.out.lenO).mono ?_
  rintro e w2 ⟨⟨b, p, rfl, hp2, hs, hc10⟩, hb2⟩
  have HB2 : Hid (Below w.heap.size w w2) := hb1.trans (hb2.mono hb1.size)
  have HP2 : Hid (ProgIn w2 w1.heap.size w2.heap.size b p) := hp2
  have HS : Hid _ := hs
  have HC : Hid _ := hc10
  clear hb1 hb2 hp2 hs hc10
  go_wp2_with fail
  refine (line_any p w1.heap.size w2.heap.size b rs ra rcap _ HP2.out HS.out HC.out (Nat.le_refl _) (NumsIn.below HH.out.nums HB2.out) HH.out.lenR).mono ?_
  rintro e w3 ⟨ms, ma, mcap, S, es, rfl, hl3⟩
  have HL3 : Hid _ := hl3
  have HP3 : Hid (ProgIn w3 w1.heap.size w2.heap.size b p) := HP2.out.below hl3.bl
  have HLEN : Hid _ := follow_len hl3.fol
  clear hl3
  go_wp2_with fail
  refine (progReady_any p w1.heap.size w2.heap.size b ms ma mcap _ HP3.out HS.out HL3.out.bl.size (ints_of_owns HL3.out.own) (by have := HLEN.out.2.2; have := HC.out; unfold maxLen; omega)).mono ?_
  rintro e w4 hrs
  unfold ReadySays at hrs
  rw [HL3.out.fol] at hrs
  obtain ⟨hb4, la, lcap, rfl, ho4⟩ := hrs
  have HB4 : Hid (Below w3.heap.size w3 w4) := hb4
  have HO4 : Hid _ := ho4
  clear hb4 ho4
  have HP4 : Hid (ProgIn w4 w1.heap.size w2.heap.size b p) := HP3.out.below (HB4.out.mono HL3.out.bl.size)
  go_wp2_with fail
  refine (play_any p w1.heap.size w2.heap.size b ms ma mcap _ HP4.out HS.out (Nat.le_trans HL3.out.bl.size HB4.out.size) (ints_of_owns ((ownsRow_in HL3.out.own).below HB4.out).1) (by have := HLEN.out.2.2; have := HC.out; unfold maxLen; omega)).mono ?_
  rintro e w5 ⟨rfl, hb5⟩
  have hpv : playV p ms = .tuple #[resV (endOf S p) S.v0 S.v1 S.v2 S.v3, .int .i64 0] := by unfold playV; rw [HL3.out.fol]
  rw [hpv]
  unfold resV
  have HB5 : Hid _ := hb5
  clear hb5 hpv
  go_upto_region 10 with fail
  have HBX : Hid (Below w5.heap.size w5 (w5.alloc (.cells #[.int .u8 (endOf S p : Int), .int .i16 S.v0, .int .i16 S.v1, .int .i16 S.v2, .int .i16 S.v3] 59))) := (Below.refl _ _).alloc (Nat.le_refl _) _
  have r0 : (w5.alloc (.cells #[.int .u8 (endOf S p : Int), .int .i16 S.v0, .int .i16 S.v1, .int .i16 S.v2, .int .i16 S.v3] 59)).cell? ⟨w5.heap.size, 0, none⟩ = some (.int .u8 (endOf S p : Int)) := by simp
  have HZX : Hid ((w5.alloc (.cells #[.int .u8 (endOf S p : Int), .int .i16 S.v0, .int .i16 S.v1, .int .i16 S.v2, .int .i16 S.v3] 59)).heap.size = w5.heap.size + 1) := by show _ = _; simp
  generalize (w5.alloc (.cells #[.int .u8 (endOf S p : Int), .int .i16 S.v0, .int .i16 S.v1, .int .i16 S.v2, .int .i16 S.v3] 59)) = X at *
  have HB4X : Hid (Below w4.heap.size w4 X) := HB5.out.trans (HBX.out.mono HB5.out.size)
  have HOX : Hid (X.ownsRow w3.heap.size 3 1 (.slice la (readyTo S p 4).length lcap) (readyTo S p 4).length (intCells (readyTo S p 4))) := ((ownsRow_in HO4.out).below HB4X.out).1
  have HB3X : Hid (Below w3.heap.size w3 X) := HB4.out.trans (HB4X.out.mono HB4.out.size)
  have HMX : Hid (X.ownsRow w2.heap.size 3 1 (.slice ma ms.length mcap) ms.length (intCells ms)) := ((ownsRow_in HL3.out.own).below HB3X.out).1
  have HPX : Hid (ProgIn X w1.heap.size w2.heap.size b p) := HP3.out.below (HB3X.out.mono HL3.out.bl.size)
  have HB2X : Hid (Below w2.heap.size w2 X) := HL3.out.bl.trans (HB3X.out.mono HL3.out.bl.size)
  have HBW : Hid (Below w.heap.size w X) := HB2.out.trans (HB2X.out.mono HB2.out.size)
  have HMEM : Hid (∀ m, m ∈ readyTo S p 4 ↔ canStep S p m = true) := fun m => mem_ready4 S p m
  have HSRT : Hid _ := ready_sorted S p 4
  have HEND : Hid _ := end_zero S p
  have hl4 := readyTo_length S p 4
  have HFEW : Hid _ := HS.out.few
  have HFOL : Hid _ := HL3.out.fol
  have HNIL : Hid _ := HL3.out.nil
  have HZ2 : Hid (w2.heap.size ≤ X.heap.size) := HB2X.out.size
  clear HO4 HB4 HB5 HBX HB4X HP4 HP3 HP2 HB3X
  generalize readyTo S p 4 = L at *
  go_wp2_with fail
  go_loopw [16, 17] (fun v16 v17 wr => ∃ i : Nat, i ≤ L.length ∧ v17 = .int .i64 (i : Int) ∧ v16 = .bool (decide (t ∈ L.take i)) ∧ Hid (Below X.heap.size X wr)) (fun _ v17 _ => L.length - (intOf v17).toNat)
  case atStart => exact ⟨0, Nat.zero_le _, rfl, by simp, (show Hid _ from Below.refl _ _)⟩
  case round =>
    obtain ⟨i, hi, rfl, rfl, HB⟩ := hrel
    by_cases hlt : i < L.length
    · obtain ⟨lb, rfl, -, hlb, -, -, hlc, -⟩ := owns_cells HOX.out (by omega)
      have c0 : wr.cell? ⟨lb, i, none⟩ = some (.int .i64 L[i]) := (HB.out.cell (p := ⟨lb, i, none⟩) hlb).trans (hlc i _ (by simp [intCells, hlt]))
      have hbd := can_bound ((HMEM.out L[i]).1 (List.getElem_mem hlt))
      have HPW : Hid (ProgIn wr w1.heap.size w2.heap.size b p) := HPX.out.below (HB.out.mono HZ2.out)
      have HAM0 : Hid (decide (t ∈ L.take (i + 1)) = (decide (t ∈ L.take i) || (L[i] == t))) := by
        show _ = _
        have hm : t ∈ L.take (i + 1) ↔ t ∈ L.take i ∨ t = L[i] := by
          rw [List.take_add_one, List.getElem?_eq_getElem hlt, List.mem_append, Option.toList_some, List.mem_singleton]
        rw [Bool.eq_iff_iff]
        simp only [decide_eq_true_eq, Bool.or_eq_true, beq_iff_eq, hm]
        constructor
        · rintro (h | h)
          · exact .inl h
          · exact .inr h.symm
        · rintro (h | h)
          · exact .inl h
          · exact .inr h.symm
      have f0 : decide (L[i] < 0) = false := by simp; omega
      have f1 : decide ((p.length : Int) ≤ L[i]) = false := by simp; omega
      have f2 : Hid (∀ j, j + 1 = i → ∃ y : Int, wr.cell? ⟨lb, j, none⟩ = some (.int .i64 y) ∧ decide (L[i] ≤ y) = false) := fun j hj => by
        subst hj
        refine ⟨L[j], (HB.out.cell (p := ⟨lb, j, none⟩) hlb).trans (hlc j _ (by simp [intCells, show j < L.length by omega])), ?_⟩
        have := List.pairwise_iff_getElem.1 HSRT.out j (j + 1) (by omega) hlt (by omega)
        simp; omega
      clear hlc hbd
      generalize L[i] = m at *
      have hlt' : (i : Int) < (L.length : Int) := by omega
      have hi0 : (0 : Int) ≤ (i : Int) := by omega
      cases i with
      | zero =>
        clear f2
        cases ha : decide (t ∈ L.take 0)
        · rw [ha] at HAM0
          cases he : (m == t)
          · have HAM : Hid (decide (t ∈ L.take (0 + 1)) = false) := by show _ = _; rw [HAM0.out, he]; rfl
            clear HAM0
            go_wp2_with fail
            go_quiet ((go_at_call 17; exact Calls.quiet_of_same (threads_any p w1.heap.size w2.heap.size b _ (HPW.out.below (by exact below_drewN (Below.refl _ _) _)) HFEW.out)))
            go_wp2
            go_roundw
            case rel => exact ⟨0 + 1, by omega, by go_num, by rw [HAM.out], (show Hid _ from below_drewN HB.out _)⟩
            case measure => simp [intOf]; omega
          · have HAM : Hid (decide (t ∈ L.take (0 + 1)) = true) := by show _ = _; rw [HAM0.out, he]; rfl
            clear HAM0
            go_wp2_with fail
            go_quiet ((go_at_call 17; exact Calls.quiet_of_same (threads_any p w1.heap.size w2.heap.size b _ (HPW.out.below (by exact below_drewN (Below.refl _ _) _)) HFEW.out)))
            go_wp2
            go_roundw
            case rel => exact ⟨0 + 1, by omega, by go_num, by rw [HAM.out], (show Hid _ from below_drewN HB.out _)⟩
            case measure => simp [intOf]; omega
        · rw [ha] at HAM0
          have HAM : Hid (decide (t ∈ L.take (0 + 1)) = true) := by show _ = _; rw [HAM0.out]; rfl
          clear HAM0
          go_wp2_with fail
          go_quiet ((go_at_call 17; exact Calls.quiet_of_same (threads_any p w1.heap.size w2.heap.size b _ (HPW.out.below (by exact below_drewN (Below.refl _ _) _)) HFEW.out)))
          go_wp2
          go_roundw
          case rel => exact ⟨0 + 1, by omega, by go_num, by rw [HAM.out], (show Hid _ from below_drewN HB.out _)⟩
          case measure => simp [intOf]; omega
      | succ j =>
        obtain ⟨y, cy, fy⟩ := f2.out j rfl
        clear f2
        have hj1 : ((j + 1 : Nat) : Int) - 1 = (j : Int) := by omega
        have hjl : (j : Int) < (L.length : Int) := by omega
        have hj0 : (0 : Int) ≤ (j : Int) := by omega
        cases ha : decide (t ∈ L.take (j + 1))
        · rw [ha] at HAM0
          cases he : (m == t)
          · have HAM : Hid (decide (t ∈ L.take ((j + 1) + 1)) = false) := by show _ = _; rw [HAM0.out, he]; rfl
            clear HAM0
            go_wp2_with fail
            go_quiet ((go_at_call 17; exact Calls.quiet_of_same (threads_any p w1.heap.size w2.heap.size b _ (HPW.out.below (by exact below_drewN (Below.refl _ _) _)) HFEW.out)))
            go_wp2
            go_roundw
            case rel => exact ⟨j + 1 + 1, by omega, by go_num, by rw [HAM.out], (show Hid _ from below_drewN HB.out _)⟩
            case measure => simp [intOf]; omega
          · have HAM : Hid (decide (t ∈ L.take ((j + 1) + 1)) = true) := by show _ = _; rw [HAM0.out, he]; rfl
            clear HAM0
            go_wp2_with fail
            go_quiet ((go_at_call 17; exact Calls.quiet_of_same (threads_any p w1.heap.size w2.heap.size b _ (HPW.out.below (by exact below_drewN (Below.refl _ _) _)) HFEW.out)))
            go_wp2
            go_roundw
            case rel => exact ⟨j + 1 + 1, by omega, by go_num, by rw [HAM.out], (show Hid _ from below_drewN HB.out _)⟩
            case measure => simp [intOf]; omega
        · rw [ha] at HAM0
          have HAM : Hid (decide (t ∈ L.take ((j + 1) + 1)) = true) := by show _ = _; rw [HAM0.out]; rfl
          clear HAM0
          go_wp2_with fail
          go_quiet ((go_at_call 17; exact Calls.quiet_of_same (threads_any p w1.heap.size w2.heap.size b _ (HPW.out.below (by exact below_drewN (Below.refl _ _) _)) HFEW.out)))
          go_wp2
          go_roundw
          case rel => exact ⟨j + 1 + 1, by omega, by go_num, by rw [HAM.out], (show Hid _ from below_drewN HB.out _)⟩
          case measure => simp [intOf]; omega
    · have hie : i = L.length := by omega
      subst hie
      rw [List.take_length]
      have ltX : w5.heap.size < X.heap.size := by have := HZX.out; omega
      have r1 := (HB.out.cell (p := ⟨w5.heap.size, 0, none⟩) ltX).trans r0
      have HMW : Hid (wr.ownsRow w2.heap.size 3 1 (.slice ma ms.length mcap) ms.length (intCells ms)) := ((ownsRow_in HMX.out).below HB.out).1
      have hm10 : ms.length ≤ 10 := by have := HLEN.out.2.2; have := HC.out; omega
      have hzr := HB.out.size
      obtain ⟨i0, hi0, hz0, hz1, hz2⟩ := info_parts Try.info3
      by_cases hnil : ms = []
      · obtain ⟨rfl, rfl⟩ := HNIL.out hnil
        subst hnil
        go_upto_region 19 with fail
        go_wp2_with (first | (refine wpList_append_lies _ rfl _ _ _ rfl X.heap.size 3 i0 _ 1 8 Try.underlying40 hi0 hz0 hz1 hz2 rfl (by omega) (.slice none 0 0) 0 [] rfl (World.ownsRow_nil _ _ _ _) ⟨wr.heap.size, 0, none⟩ 1 1 [Value.int .i64 t] rfl rfl (World.news_of_block (cs := #[Value.int .i64 t]) (t := 3) (fr := (0, 0)) (heap_alloc_new wr _)) (by simp [Value.oneCell']) (by omega) (by unfold maxLen; omega) (by omega) (by simp; omega) (wr.heap.size + 1) (by simp) ?_; intro g2 cap2 w7 hown7 hgrow7 hat7 hlt7))
        have ho7 : w7.ownsRow X.heap.size 3 1 (.slice (some ⟨g2, 0, none⟩) ([] ++ [t]).length cap2) ([] ++ [t]).length (intCells ([] ++ [t])) := by simpa [intCells] using hown7
        have HO7 : Hid _ := ho7
        have HB7 : Hid (Below X.heap.size X w7) := HB.out.trans (Below.grown ((Below.refl X.heap.size wr).alloc (by omega) _) hgrow7 (by simp; omega) (fun y hy => by simp [Value.ownBlock] at hy))
        clear hown7 hgrow7 hat7 ho7
        have HPE : Hid (ProgIn w7 w1.heap.size w2.heap.size b p) := HPX.out.below (HB7.out.mono HZ2.out)
        refine (play_any p w1.heap.size w2.heap.size b ([] ++ [t]) _ _ _ HPE.out HS.out (by have := HZ2.out; have := HB7.out.size; omega) (ints_of_owns HO7.out) (by have := HLEN.out.2.2; have := HC.out; unfold maxLen; simp <;> omega)).mono ?_
        rintro e w8 ⟨rfl, hb8⟩
        have HBE : Hid (Below w.heap.size w w8) := HBW.out.trans ((HB7.out.trans (hb8.mono HB7.out.size)).mono HBW.out.size)
        have r8 : w8.cell? ⟨w5.heap.size, 0, none⟩ = some (.int .u8 (endOf S p : Int)) := ((HB7.out.trans (hb8.mono HB7.out.size)).cell (p := ⟨w5.heap.size, 0, none⟩) ltX).trans r0
        have r9 := fun x => alloc_cell r8 x
        clear hb8
        cases hcan : canStep S p t
        · have HAMF : Hid (decide (t ∈ L) = false) := by show _ = _; rw [decide_eq_false_iff_not]; intro hm; have := (HMEM.out t).1 hm; rw [hcan] at this; cases this
          have HPV : Hid (playV p ([] ++ [t]) = .tuple #[resV 0 0 0 0 0, .int .i64 4]) := by
            show _ = _
            have hst := step_iff S p t
            rw [hcan] at hst
            unfold playV
            rw [(follow_snoc HFOL.out t).1 (by simpa using hst)]
          rw [HAMF.out]
          rw [HPV.out]
          unfold resV
          by_cases hL : 0 < L.length
          · have hL' : (0 : Int) < (L.length : Int) := by omega
            have hE : ((endOf S p : Int) == 0) = true := by simp; exact HEND.out.2 hL
            clear hL
            go_wp2
            go_ret
            exact ⟨rfl, HBE.out.alloc HBE.out.size _⟩
          · have hE : ((endOf S p : Int) == 0) = false := by simp; exact fun e => hL (HEND.out.1 e)
            obtain rfl : L = [] := List.length_eq_zero_iff.1 (by omega)
            clear hL
            go_wp2
            go_ret
            exact ⟨rfl, HBE.out.alloc HBE.out.size _⟩
        · have hmem : t ∈ L := (HMEM.out t).2 hcan
          have HAMT : Hid (decide (t ∈ L) = true) := decide_eq_true hmem
          have hst := step_iff S p t
          rw [hcan] at hst
          obtain ⟨⟨S2, ev⟩, hx⟩ := Option.isSome_iff_exists.1 hst
          obtain ⟨gr, hf⟩ := (follow_snoc HFOL.out t).2 S2 ev hx
          have HPV : Hid (playV p ([] ++ [t]) = .tuple #[resV (endOf S2 p) S2.v0 S2.v1 S2.v2 S2.v3, .int .i64 0]) := by show _ = _; unfold playV; rw [hf]
          have hL' : (0 : Int) < (L.length : Int) := by have := List.length_pos_of_mem hmem; omega
          have hE : ((endOf S p : Int) == 0) = true := by simp; exact HEND.out.2 (List.length_pos_of_mem hmem)
          rw [HAMT.out]
          rw [HPV.out]
          unfold resV
          clear hmem hst hx hf
          go_wp2
          go_ret
          exact ⟨rfl, HBE.out.alloc HBE.out.size _⟩
      · have hmp : 0 < ms.length := List.length_pos_iff.2 hnil
        obtain ⟨mb, rfl, -, hmb, -, -, hmc, -⟩ := owns_cells HMW.out hmp
        go_upto_region 19 with (first | (refine wpList_append_lies _ rfl _ _ _ rfl X.heap.size 3 i0 _ 1 8 Try.underlying40 hi0 hz0 hz1 hz2 rfl (by omega) (.slice none 0 0) 0 [] rfl (World.ownsRow_nil _ _ _ _) ⟨mb, 0, none⟩ ms.length mcap (intCells ms) rfl (by simp [intCells]) (fun j u hu => by have hadd : (⟨mb, 0, none⟩ : Addr).add j = ⟨mb, j, none⟩ := (by unfold Addr.add; split <;> simp_all); rw [hadd]; exact hmc j u hu) (by intro u hu; simp [intCells] at hu; obtain ⟨q, -, rfl⟩ := hu; rfl) hmp (by unfold maxLen; omega) (by omega) (by omega) wr.heap.size rfl ?_; intro g1 cap1 w6 hown6 hgrow6 hat6 hlt6))
        have HO6 : Hid (w6.ownsRow X.heap.size 3 1 (.slice (some ⟨g1, 0, none⟩) ms.length cap1) ms.length (intCells ms)) := by have := hown6; rw [Nat.zero_add, List.nil_append] at this; exact this
        have HB6 : Hid (Below X.heap.size X w6) := HB.out.trans (Below.grown (Below.refl X.heap.size wr) hgrow6 (by omega) (fun y hy => by simp [Value.ownBlock] at hy))
        have hz6 := HB6.out.size
        clear hown6 hgrow6 hat6 hmc r1
        go_wp2_with (first | (refine wpList_append_lies _ rfl _ _ _ rfl X.heap.size 3 i0 _ 1 8 Try.underlying40 hi0 hz0 hz1 hz2 rfl (by omega) (.slice (some ⟨g1, 0, none⟩) ms.length cap1) ms.length (intCells ms) rfl (HO6.out.alloc _) ⟨w6.heap.size, 0, none⟩ 1 1 [Value.int .i64 t] rfl rfl (World.news_of_block (cs := #[Value.int .i64 t]) (t := 3) (fr := (0, 0)) (heap_alloc_new w6 _)) (by simp [Value.oneCell']) (by omega) (by unfold maxLen; omega) (by omega) (by simp; omega) (w6.heap.size + 1) (by simp) ?_; intro g2 cap2 w7 hown7 hgrow7 hat7 hlt7))
        have ho7 : w7.ownsRow X.heap.size 3 1 (.slice (some ⟨g2, 0, none⟩) (ms ++ [t]).length cap2) (ms ++ [t]).length (intCells (ms ++ [t])) := by simpa [intCells] using hown7
        have HO7 : Hid _ := ho7
        have HB7 : Hid (Below X.heap.size X w7) := HB6.out.trans (Below.grown ((Below.refl X.heap.size w6).alloc (by omega) _) hgrow7 (by simp; omega) (fun y hy => (HO6.out.lt y hy).1))
        rw [show ms.length + 1 = (ms ++ [t]).length by simp]
        clear hown7 hgrow7 hat7 ho7
        have HPE : Hid (ProgIn w7 w1.heap.size w2.heap.size b p) := HPX.out.below (HB7.out.mono HZ2.out)
        refine (play_any p w1.heap.size w2.heap.size b (ms ++ [t]) _ _ _ HPE.out HS.out (by have := HZ2.out; have := HB7.out.size; omega) (ints_of_owns HO7.out) (by have := HLEN.out.2.2; have := HC.out; unfold maxLen; simp <;> omega)).mono ?_
        rintro e w8 ⟨rfl, hb8⟩
        have HBE : Hid (Below w.heap.size w w8) := HBW.out.trans ((HB7.out.trans (hb8.mono HB7.out.size)).mono HBW.out.size)
        have r8 : w8.cell? ⟨w5.heap.size, 0, none⟩ = some (.int .u8 (endOf S p : Int)) := ((HB7.out.trans (hb8.mono HB7.out.size)).cell (p := ⟨w5.heap.size, 0, none⟩) ltX).trans r0
        have r9 := fun x => alloc_cell r8 x
        clear hb8
        cases hcan : canStep S p t
        · have HAMF : Hid (decide (t ∈ L) = false) := by show _ = _; rw [decide_eq_false_iff_not]; intro hm; have := (HMEM.out t).1 hm; rw [hcan] at this; cases this
          have HPV : Hid (playV p (ms ++ [t]) = .tuple #[resV 0 0 0 0 0, .int .i64 4]) := by
            show _ = _
            have hst := step_iff S p t
            rw [hcan] at hst
            unfold playV
            rw [(follow_snoc HFOL.out t).1 (by simpa using hst)]
          rw [HAMF.out]
          rw [HPV.out]
          unfold resV
          by_cases hL : 0 < L.length
          · have hL' : (0 : Int) < (L.length : Int) := by omega
            have hE : ((endOf S p : Int) == 0) = true := by simp; exact HEND.out.2 hL
            clear hL
            go_wp2
            go_ret
            exact ⟨rfl, HBE.out.alloc HBE.out.size _⟩
          · have hE : ((endOf S p : Int) == 0) = false := by simp; exact fun e => hL (HEND.out.1 e)
            obtain rfl : L = [] := List.length_eq_zero_iff.1 (by omega)
            clear hL
            go_wp2
            go_ret
            exact ⟨rfl, HBE.out.alloc HBE.out.size _⟩
        · have hmem : t ∈ L := (HMEM.out t).2 hcan
          have HAMT : Hid (decide (t ∈ L) = true) := decide_eq_true hmem
          have hst := step_iff S p t
          rw [hcan] at hst
          obtain ⟨⟨S2, ev⟩, hx⟩ := Option.isSome_iff_exists.1 hst
          obtain ⟨gr, hf⟩ := (follow_snoc HFOL.out t).2 S2 ev hx
          have HPV : Hid (playV p (ms ++ [t]) = .tuple #[resV (endOf S2 p) S2.v0 S2.v1 S2.v2 S2.v3, .int .i64 0]) := by show _ = _; unfold playV; rw [hf]
          have hL' : (0 : Int) < (L.length : Int) := by have := List.length_pos_of_mem hmem; omega
          have hE : ((endOf S p : Int) == 0) = true := by simp; exact HEND.out.2 (List.length_pos_of_mem hmem)
          rw [HAMT.out]
          rw [HPV.out]
          unfold resV
          clear hmem hst hx hf
          go_wp2
          go_ret
          exact ⟨rfl, HBE.out.alloc HBE.out.size _⟩

end Go.Proofs.Ytfdafcnfefbcbaa
