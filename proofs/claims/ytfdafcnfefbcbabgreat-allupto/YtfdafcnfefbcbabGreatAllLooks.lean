/-
 Package interleavelaw: the contract of World.looks.
-/
import Derived.Test.YtfdafcnfefbcbabGreatAllInts
import Derived.Deep.QuietTactic
import Derived.BigQuiet
namespace Go.Proofs.YtfdafcnfefbcbabGreat
open Go.RowKit
set_option linter.unusedVariables false
set_option maxRecDepth 100000
set_option maxHeartbeats 8000000

/-- A row of lists that came out, each as its owner wrote it. -/
structure RecsAt (w : World) (wb : Nat) (D : Nat → Prop) (f : Nat) (mk : Int → List Value) (esz : Nat) (a : Option Addr) (cap : Nat) (L : List Rec) : Prop where
 cell : w.cell? ⟨wb, f, none⟩ = some (.slice a L.length cap)
 row : 0 < L.length → ∃ g, a = some ⟨g, 0, none⟩ ∧ g < w.heap.size ∧ ∀ j u, (recCells L)[j]? = some u → w.cell? ⟨g, j, none⟩ = some u
 ok : ∀ r ∈ L, RecOk w mk esz D r
 dlt : ∀ q, D q → q < w.heap.size
 lt : wb < w.heap.size
 len : L.length ≤ 1000000000

theorem WRows.recs {w : World} {wb : Nat} {D : Nat → Prop} {nl : Nat} {n : Nat → Nat} {cs : Nat → List Value} {rw : Nat → Rw} (h : WRows wty wsz w wb D nl n cs rw) {i : Nat} (hi : i < 5) (hs : wsz i = 2) {mk : Int → List Value} {esz : Nat} {L : List Rec} (hn : n i = L.length) (hc : cs i = recCells L) (hl : L.length ≤ 1000000000) (hok : ∀ r ∈ L, RecOk w mk esz D r) : RecsAt w wb D (fld i) mk esz (rw i).a (rw i).cap L := by
 have h1 := h.cell i hi
 have h2 := h.own i hi
 rw [hn] at h1 h2
 rw [hc, hs] at h2
 refine ⟨h1, fun h0 => ?_, hok, h.dlt, h.lt, hl⟩
 obtain ⟨g, cap, e, -, hg⟩ := h2.form h0
 rw [e] at h2
 have ea : (rw i).a = some ⟨g, 0, none⟩ := by have := e; simp at this; exact this.1
 refine ⟨g, ea, hg, fun j u hu => ?_⟩
 have hj := (List.getElem?_eq_some_iff.1 hu).1
 rw [recCells_length] at hj
 rw [h2.cellAt j hj]
 exact hu

theorem RecsAt.below {w w' : World} {wb : Nat} {D : Nat → Prop} {f : Nat} {mk : Int → List Value} {esz : Nat} {a : Option Addr} {cap : Nat} {L : List Rec} (h : RecsAt w wb D f mk esz a cap L) (hb : Below w.heap.size w w') : RecsAt w' wb D f mk esz a cap L := by
 refine ⟨(hb.cell (p := ⟨wb, f, none⟩) h.lt).trans h.cell, fun h0 => ?_, fun r hr => (h.ok r hr).of (fun q hq => ⟨hq, hb.block q (h.dlt q hq)⟩), fun q hq => Nat.lt_of_lt_of_le (h.dlt q hq) hb.size, Nat.lt_of_lt_of_le h.lt hb.size, h.len⟩
 obtain ⟨g, e, hg, hc⟩ := h.row h0
 exact ⟨g, e, Nat.lt_of_lt_of_le hg hb.size, fun j u hu => (hb.cell (p := ⟨g, j, none⟩) hg).trans (hc j u hu)⟩

theorem looks_any {w : World} {wb : Nat} {D : Nat → Prop} {ia ea ra : Option Addr} {icap ecap rcap : Nat} {LI LE LR : List Rec} (hI : RecsAt w wb D 3 mkI 1 ia icap LI) (hE : RecsAt w wb D 4 mkE 6 ea ecap LE) (hR : RecsAt w wb D 5 mkR 5 ra rcap LR) :
  Calls Tryz.prog 5 #[.pointer (some ⟨wb, 0, none⟩)] w fun e w' => e = .returned (.bool true) ∧ Below w.heap.size w w' := by
 have HI : Hid (RecsAt w wb D 3 mkI 1 ia icap LI) := hI
 have HE : Hid (RecsAt w wb D 4 mkE 6 ea ecap LE) := hE
 have HR : Hid (RecsAt w wb D 5 mkR 5 ra rcap LR) := hR
 have hli := hI.len
 have hle := hE.len
 have hlr := hR.len
 clear hI hE hR
 go_enter Tryz.func5, Tryz.ntmps5
 go_wp2_with fail
 go_loopw [3] (fun v3 wr => ∃ k : Nat, k ≤ LI.length ∧ v3 = .int .i64 (k : Int) ∧ Hid (Below w.heap.size w wr)) (fun v3 _ => LI.length - (intOf v3).toNat)
 case atStart => exact ⟨0, Nat.zero_le _, rfl, (show Hid _ from Below.refl _ _)⟩
 case round =>
  obtain ⟨k, hk, rfl, H1⟩ := hrel
  have HX : Hid (RecsAt wr wb D 3 mkI 1 ia icap LI) := HI.out.below H1.out
  have s0 := HX.out.cell
  by_cases hkl : k < LI.length
  ·have hkl' : (k : Int) < (LI.length : Int) := by omega
   obtain ⟨gi, rfl, hgi, hgc⟩ := HX.out.row (by omega)
   obtain ⟨c1, c2⟩ := recCells_at LI k LI[k] (List.getElem?_eq_getElem hkl)
   have s1 := hgc _ _ c1
   have s2 := hgc _ _ c2
   obtain ⟨la, len, lcap, he, hll, hrec⟩ := HX.out.ok LI[k] (List.getElem_mem hkl)
   rw [he] at s1
   have HREC : Hid (0 < len → ∃ g, la = some ⟨g, 0, none⟩ ∧ D g ∧ ∀ j, j < len → wr.rangeAt g (j * 1) (mkI LI[k].2)) := hrec
   clear hgc c1 c2 hrec he
   generalize LI[k].2 = m at *
   have HS0 : Hid _ := s0
   have HS1 : Hid _ := s1
   have HS2 : Hid _ := s2
   have HGI : Hid (gi < wr.heap.size) := hgi
   have HD : Hid (∀ q, D q → q < wr.heap.size) := HX.out.dlt
   have HWL : Hid (wb < wr.heap.size) := HX.out.lt
   have HB0 : Hid (Below w.heap.size w wr) := H1.out
   generalize wr = w0 at *
   clear H1 HX hgi
   go_wp2_with fail
   clear s0 s1 s2
   go_loopw [4] (fun v4 wq => ∃ i : Nat, i ≤ len ∧ v4 = .int .i64 (i : Int) ∧ Hid (Below w0.heap.size w0 wq)) (fun v4 _ => len - (intOf v4).toNat)
   case atStart => exact ⟨0, Nat.zero_le _, rfl, (show Hid _ from Below.refl _ _)⟩
   case round =>
    obtain ⟨i, hi, rfl, H2⟩ := hrel
    have s0 := (H2.out.cell (p := ⟨wb, 3, none⟩) HWL.out).trans HS0.out
    have s1 := (H2.out.cell (p := ⟨gi, k * 2, none⟩) HGI.out).trans HS1.out
    have s2 := (H2.out.cell (p := ⟨gi, k * 2 + 1, none⟩) HGI.out).trans HS2.out
    by_cases hil : i < len
    ·have hil' : (i : Int) < (len : Int) := by omega
     obtain ⟨g, rfl, hg, hcells⟩ := HREC.out (by omega)
     have hr := range_below (hcells i hil) H2.out (HD.out g hg)
     have l0 : wr.cell? ⟨g, i, none⟩ = some (.int .i64 m) := by have := hr 0 _ rfl; simpa using this
     clear hcells hr
     go_upto_region 7 with fail
     go_quiet (fail)
     go_wp2
     go_roundw
     case rel => exact ⟨i + 1, by omega, by go_num, (show Hid _ from below_drewN H2.out _)⟩
     case measure => simp [intOf]; omega
    ·have hil' : ¬ (i : Int) < (len : Int) := by omega
     go_wp2
     go_roundw
     case rel => exact ⟨k + 1, by omega, by go_num, (show Hid _ from HB0.out.trans (H2.out.mono HB0.out.size))⟩
     case measure => simp [intOf]; omega
  ·have hkl' : ¬ (k : Int) < (LI.length : Int) := by omega
   have HB : Hid (Below w.heap.size w wr) := H1.out
   clear H1 HX
   go_wp2_with fail
   clear s0
   go_loopw [5] (fun v5 wr => ∃ k : Nat, k ≤ LE.length ∧ v5 = .int .i64 (k : Int) ∧ Hid (Below w.heap.size w wr)) (fun v5 _ => LE.length - (intOf v5).toNat)
   case atStart => exact ⟨0, Nat.zero_le _, rfl, (show Hid _ from HB.out)⟩
   case round =>
    obtain ⟨k, hk, rfl, H1⟩ := hrel
    have HX : Hid (RecsAt wr wb D 4 mkE 6 ea ecap LE) := HE.out.below H1.out
    have s0 := HX.out.cell
    by_cases hkl : k < LE.length
    ·have hkl' : (k : Int) < (LE.length : Int) := by omega
     obtain ⟨gi, rfl, hgi, hgc⟩ := HX.out.row (by omega)
     obtain ⟨c1, c2⟩ := recCells_at LE k LE[k] (List.getElem?_eq_getElem hkl)
     have s1 := hgc _ _ c1
     have s2 := hgc _ _ c2
     obtain ⟨la, len, lcap, he, hll, hrec⟩ := HX.out.ok LE[k] (List.getElem_mem hkl)
     rw [he] at s1
     have HREC : Hid (0 < len → ∃ g, la = some ⟨g, 0, none⟩ ∧ D g ∧ ∀ j, j < len → wr.rangeAt g (j * 6) (mkE LE[k].2)) := hrec
     clear hgc c1 c2 hrec he
     generalize LE[k].2 = m at *
     have HS0 : Hid _ := s0
     have HS1 : Hid _ := s1
     have HS2 : Hid _ := s2
     have HGI : Hid (gi < wr.heap.size) := hgi
     have HD : Hid (∀ q, D q → q < wr.heap.size) := HX.out.dlt
     have HWL : Hid (wb < wr.heap.size) := HX.out.lt
     have HB0 : Hid (Below w.heap.size w wr) := H1.out
     generalize wr = w0 at *
     clear H1 HX hgi
     go_wp2_with fail
     clear s0 s1 s2
     go_loopw [6] (fun v6 wq => ∃ i : Nat, i ≤ len ∧ v6 = .int .i64 (i : Int) ∧ Hid (Below w0.heap.size w0 wq)) (fun v6 _ => len - (intOf v6).toNat)
     case atStart => exact ⟨0, Nat.zero_le _, rfl, (show Hid _ from Below.refl _ _)⟩
     case round =>
      obtain ⟨i, hi, rfl, H2⟩ := hrel
      have s0 := (H2.out.cell (p := ⟨wb, 4, none⟩) HWL.out).trans HS0.out
      have s1 := (H2.out.cell (p := ⟨gi, k * 2, none⟩) HGI.out).trans HS1.out
      have s2 := (H2.out.cell (p := ⟨gi, k * 2 + 1, none⟩) HGI.out).trans HS2.out
      by_cases hil : i < len
      ·have hil' : (i : Int) < (len : Int) := by omega
       obtain ⟨g, rfl, hg, hcells⟩ := HREC.out (by omega)
       have hr := range_below (hcells i hil) H2.out (HD.out g hg)
       have l0 : wr.cell? ⟨g, i * 6, none⟩ = some (.int .i64 (-77)) := hr 0 _ rfl
       have l1 : wr.cell? ⟨g, i * 6 + 1, none⟩ = some (.int .u8 0) := hr 1 _ rfl
       have l2 : wr.cell? ⟨g, i * 6 + 2, none⟩ = some (.int .u8 0) := hr 2 _ rfl
       have l3 : wr.cell? ⟨g, i * 6 + 3, none⟩ = some (.int .i16 0) := hr 3 _ rfl
       have l4 : wr.cell? ⟨g, i * 6 + 4, none⟩ = some (.int .i64 0) := hr 4 _ rfl
       have l5 : wr.cell? ⟨g, i * 6 + 5, none⟩ = some (.int .i64 m) := hr 5 _ rfl
       clear hcells hr
       go_upto_region 15 with fail
       go_quiet (fail)
       go_wp2
       go_roundw
       case rel => exact ⟨i + 1, by omega, by go_num, (show Hid _ from below_drewN H2.out _)⟩
       case measure => simp [intOf]; omega
      ·have hil' : ¬ (i : Int) < (len : Int) := by omega
       go_wp2
       go_roundw
       case rel => exact ⟨k + 1, by omega, by go_num, (show Hid _ from HB0.out.trans (H2.out.mono HB0.out.size))⟩
       case measure => simp [intOf]; omega
    ·have hkl' : ¬ (k : Int) < (LE.length : Int) := by omega
     have HB : Hid (Below w.heap.size w wr) := H1.out
     clear H1 HX
     go_wp2_with fail
     clear s0
     go_loopw [7] (fun v7 wr => ∃ k : Nat, k ≤ LR.length ∧ v7 = .int .i64 (k : Int) ∧ Hid (Below w.heap.size w wr)) (fun v7 _ => LR.length - (intOf v7).toNat)
     case atStart => exact ⟨0, Nat.zero_le _, rfl, (show Hid _ from HB.out)⟩
     case round =>
      obtain ⟨k, hk, rfl, H1⟩ := hrel
      have HX : Hid (RecsAt wr wb D 5 mkR 5 ra rcap LR) := HR.out.below H1.out
      have s0 := HX.out.cell
      by_cases hkl : k < LR.length
      ·have hkl' : (k : Int) < (LR.length : Int) := by omega
       obtain ⟨gi, rfl, hgi, hgc⟩ := HX.out.row (by omega)
       obtain ⟨c1, c2⟩ := recCells_at LR k LR[k] (List.getElem?_eq_getElem hkl)
       have s1 := hgc _ _ c1
       have s2 := hgc _ _ c2
       obtain ⟨la, len, lcap, he, hll, hrec⟩ := HX.out.ok LR[k] (List.getElem_mem hkl)
       rw [he] at s1
       have HREC : Hid (0 < len → ∃ g, la = some ⟨g, 0, none⟩ ∧ D g ∧ ∀ j, j < len → wr.rangeAt g (j * 5) (mkR LR[k].2)) := hrec
       clear hgc c1 c2 hrec he
       generalize LR[k].2 = m at *
       have HS0 : Hid _ := s0
       have HS1 : Hid _ := s1
       have HS2 : Hid _ := s2
       have HGI : Hid (gi < wr.heap.size) := hgi
       have HD : Hid (∀ q, D q → q < wr.heap.size) := HX.out.dlt
       have HWL : Hid (wb < wr.heap.size) := HX.out.lt
       have HB0 : Hid (Below w.heap.size w wr) := H1.out
       generalize wr = w0 at *
       clear H1 HX hgi
       go_wp2_with fail
       clear s0 s1 s2
       go_loopw [8] (fun v8 wq => ∃ i : Nat, i ≤ len ∧ v8 = .int .i64 (i : Int) ∧ Hid (Below w0.heap.size w0 wq)) (fun v8 _ => len - (intOf v8).toNat)
       case atStart => exact ⟨0, Nat.zero_le _, rfl, (show Hid _ from Below.refl _ _)⟩
       case round =>
        obtain ⟨i, hi, rfl, H2⟩ := hrel
        have s0 := (H2.out.cell (p := ⟨wb, 5, none⟩) HWL.out).trans HS0.out
        have s1 := (H2.out.cell (p := ⟨gi, k * 2, none⟩) HGI.out).trans HS1.out
        have s2 := (H2.out.cell (p := ⟨gi, k * 2 + 1, none⟩) HGI.out).trans HS2.out
        by_cases hil : i < len
        ·have hil' : (i : Int) < (len : Int) := by omega
         obtain ⟨g, rfl, hg, hcells⟩ := HREC.out (by omega)
         have hr := range_below (hcells i hil) H2.out (HD.out g hg)
         have l0 : wr.cell? ⟨g, i * 5, none⟩ = some (.int .u8 99) := hr 0 _ rfl
         have l1 : wr.cell? ⟨g, i * 5 + 1, none⟩ = some (.int .i16 (IntKind.wrap .i16 m)) := hr 1 _ rfl
         clear hcells hr
         go_upto_region 23 with fail
         go_quiet (fail)
         go_wp2
         go_roundw
         case rel => exact ⟨i + 1, by omega, by go_num, (show Hid _ from below_drewN H2.out _)⟩
         case measure => simp [intOf]; omega
        ·have hil' : ¬ (i : Int) < (len : Int) := by omega
         go_wp2
         go_roundw
         case rel => exact ⟨k + 1, by omega, by go_num, (show Hid _ from HB0.out.trans (H2.out.mono HB0.out.size))⟩
         case measure => simp [intOf]; omega
      ·have hkl' : ¬ (k : Int) < (LR.length : Int) := by omega
       have HB : Hid (Below w.heap.size w wr) := H1.out
       clear H1 HX
       go_wp2
       go_ret
       exact ⟨rfl, HB.out⟩

end Go.Proofs.YtfdafcnfefbcbabGreat
