/-
  The contract of text: its first loop.
-/
import Derived.Test.YtfdafcnfefbcbabTextPl
import Derived.Deep.RegionHeld3
import Derived.Deep.LoopGhost
namespace Go.Proofs.Ytfdafcnfefbcbab
open Go.RowKit
set_option linter.unusedVariables false

structure TextAt (w wr : World) (T : Tx) : Prop where
  rows : ∀ i, i < 4 → ∃ s, wr.cell? ⟨w.heap.size, i, none⟩ = some (.string s) ∧ bytesOf s = T.row i
  opn : ∀ i, i < 4 → wr.cell? ⟨w.heap.size + 1, i, none⟩ = some (.bool (T.opn i))
  fr : ∀ i, wr.frozen? ⟨w.heap.size, i, none⟩ = false
  fo : ∀ i, wr.frozen? ⟨w.heap.size + 1, i, none⟩ = false
  bl : Below w.heap.size w wr
  size : w.heap.size + 2 ≤ wr.heap.size

theorem TextAt.below {w wr wr' : World} {T : Tx} (h : TextAt w wr T) {B : Nat} (hb : Below B wr wr') (hB : w.heap.size + 2 ≤ B) : TextAt w wr' T :=
  ⟨fun i hi => by obtain ⟨s, h1, h2⟩ := h.rows i hi; exact ⟨s, (hb.cell (p := ⟨w.heap.size, i, none⟩) (by show w.heap.size < B; omega)).trans h1, h2⟩,
   fun i hi => (hb.cell (p := ⟨w.heap.size + 1, i, none⟩) (by show w.heap.size + 1 < B; omega)).trans (h.opn i hi),
   fun i => (hb.frozen (p := ⟨w.heap.size, i, none⟩) (by show w.heap.size < B; omega)).trans (h.fr i),
   fun i => (hb.frozen (p := ⟨w.heap.size + 1, i, none⟩) (by show w.heap.size + 1 < B; omega)).trans (h.fo i),
   h.bl.trans (hb.mono (by omega)), Nat.le_trans h.size hb.size⟩

theorem TextAt.putRow {w wr : World} {T : Tx} (h : TextAt w wr T) (t : Nat) (ht : t < 4) (s : ByteArray) : TextAt w (wr.setCell ⟨w.heap.size, t, none⟩ (.string s)) { T with row := fun i => if i = t then bytesOf s else T.row i } := by
  have hz := h.size
  refine ⟨fun i hi => ?_, fun i hi => ?_, fun i => by rw [World.frozen?_setCell]; exact h.fr i, fun i => by rw [World.frozen?_setCell]; exact h.fo i, h.bl.setCell (Nat.le_refl _) _, by simpa using hz⟩
  · by_cases hit : i = t
    · subst hit
      obtain ⟨s0, h1, -⟩ := h.rows i hi
      exact ⟨s, World.cell?_setCell_same _ _ _ h1, by simp⟩
    · obtain ⟨s0, h1, h2⟩ := h.rows i hi
      exact ⟨s0, (World.cell?_setCell_other _ _ _ _ (by simp [])).trans h1, by simp [hit, h2]⟩
  · exact (World.cell?_setCell_other _ _ _ _ (by simp)).trans (h.opn i hi)

theorem TextAt.putOpn {w wr : World} {T : Tx} (h : TextAt w wr T) (t : Nat) (ht : t < 4) (b : Bool) : TextAt w (wr.setCell ⟨w.heap.size + 1, t, none⟩ (.bool b)) { T with opn := fun i => if i = t then b else T.opn i } := by
  have hz := h.size
  refine ⟨fun i hi => ?_, fun i hi => ?_, fun i => by rw [World.frozen?_setCell]; exact h.fr i, fun i => by rw [World.frozen?_setCell]; exact h.fo i, h.bl.setCell (by show w.heap.size ≤ w.heap.size + 1; omega) _, by simpa using hz⟩
  · obtain ⟨s0, h1, h2⟩ := h.rows i hi
    exact ⟨s0, (World.cell?_setCell_other _ _ _ _ (by simp)).trans h1, h2⟩
  · by_cases hit : i = t
    · subst hit
      simp only [if_true]
      exact World.cell?_setCell_same _ _ _ (h.opn i hi)
    · simp only [hit, if_false]
      exact (World.cell?_setCell_other _ _ _ _ (by simp [])).trans (h.opn i hi)

theorem TextAt.to {w wr : World} {T T' : Tx} (h : TextAt w wr T) (h1 : ∀ i, i < 4 → T.row i = T'.row i) (h2 : ∀ i, i < 4 → T.opn i = T'.opn i) : TextAt w wr T' :=
  ⟨fun i hi => by obtain ⟨s, a, b⟩ := h.rows i hi; exact ⟨s, a, by rw [b, h1 i hi]⟩, fun i hi => by rw [← h2 i hi]; exact h.opn i hi, h.fr, h.fo, h.bl, h.size⟩

theorem bytesOf_inj {s t : ByteArray} (h : bytesOf s = bytesOf t) : s = t := by
  have h2 : s.data.toList = t.data.toList := by
    unfold bytesOf at h
    exact (List.map_inj_right (fun a b hab => UInt8.toNat_inj.1 hab)).1 h
  cases s; cases t
  simp at h2
  rw [h2]

theorem TextAt.take0 {w wr : World} {T : Tx} (h : TextAt w wr T) {t : Nat} (ht : t < 4) {s0 s : ByteArray} {sp : List Nat} (hs0 : bytesOf s0 = T.row t) (hs : bytesOf s = sp) (hno : ¬ (sp = [91] ∨ sp = [93])) : TextAt w (wr.setCell ⟨w.heap.size, t, none⟩ (.string (s0 ++ s))) (txPut T t sp) :=
  (h.putRow t ht (s0 ++ s)).to (fun i hi => by
    simp only [txPut]
    by_cases hit : i = t
    · subst hit; simp [bytesOf_append, hs0, hs]
    · simp [hit]) (fun i hi => by simp only [txPut, hno, and_false, if_false])

theorem TextAt.take1 {w wr : World} {T : Tx} (h : TextAt w wr T) {t : Nat} (ht : t < 4) {s0 s : ByteArray} {sp : List Nat} (hs0 : bytesOf s0 = T.row t) (hs : bytesOf s = sp) (hyes : sp = [91] ∨ sp = [93]) (b : Bool) (hb : b = !T.opn t) : TextAt w ((wr.setCell ⟨w.heap.size + 1, t, none⟩ (.bool b)).setCell ⟨w.heap.size, t, none⟩ (.string (s0 ++ s))) (txPut T t sp) :=
  ((h.putOpn t ht b).putRow t ht (s0 ++ s)).to (fun i hi => by
    simp only [txPut]
    by_cases hit : i = t
    · subst hit; simp [bytesOf_append, hs0, hs]
    · simp [hit]) (fun i hi => by
    simp only [txPut, hyes, and_true]
    by_cases hit : i = t
    · subst hit; simp [hb]
    · simp [hit])

set_option maxRecDepth 100000 in
set_option maxHeartbeats 2000000 in
theorem text_any (os : List Raw) (a : Option Addr) (cap : Nat) (w : World) (hr : RawsIn w a os) (hl : os.length ≤ 140737488351232) :
    Calls Try.prog 15 #[.slice a os.length cap] w fun e w' => (∃ s : ByteArray, e = .returned (.string s) ∧ bytesOf s = joinTo (txAll os) (lastTo (txAll os) 4 + 1)) ∧ Below w.heap.size w w' := by
  have HR : Hid _ := hr
  clear hr
  go_enter Try.func15, Try.ntmps15
  go_wp2_with fail
  go_loopw [5, 6, 7] (fun v5 v6 v7 wr => ∃ (i st sz : Nat), i ≤ os.length ∧ st ≤ 10 ∧ sz ≤ 100 ∧ v7 = .int .i64 (i : Int) ∧ v5 = .int .i64 (st : Int) ∧ v6 = .int .i64 (sz : Int) ∧ Hid (TextAt w wr (txAll (os.take i)) ∧ st = (txAll (os.take i)).steps ∧ sz = (txAll (os.take i)).size)) (fun _ _ v7 _ => os.length - (intOf v7).toNat)
  case atStart =>
    refine ⟨0, 0, 7, Nat.zero_le _, by omega, by omega, rfl, rfl, rfl, ?_⟩
    show _ ∧ _ ∧ _
    refine ⟨⟨fun i hi => ?_, fun i hi => ?_, fun i => ?_, fun i => ?_, two_new w _ _, by simp⟩, rfl, rfl⟩
    · have : i = 0 ∨ i = 1 ∨ i = 2 ∨ i = 3 := by omega
      rcases this with rfl | rfl | rfl | rfl <;> exact ⟨⟨#[]⟩, by simp [go_sem], rfl⟩
    · have : i = 0 ∨ i = 1 ∨ i = 2 ∨ i = 3 := by omega
      rcases this with rfl | rfl | rfl | rfl <;> simp [go_sem, txAll, tx0]
    · rw [World.frozen?_of_block (w := w.alloc _) (Below.heap_alloc _ _ _ (by simp)), World.frozen?_alloc_at _ _ _ _ rfl]
    · rw [World.frozen?_alloc_at _ _ _ _ (by simp)]
  case round =>
    obtain ⟨i, st, sz, hil, hst, hsz, rfl, rfl, rfl, HH⟩ := hrel
    by_cases hlt : i < os.length
    · obtain ⟨g, o, rfl, hg, hgc⟩ := HR.out (by omega)
      obtain ⟨k0, k1, k2, i0, i1, i2⟩ := hgc i os[i] (List.getElem?_eq_getElem hlt)
      have c0 := (HH.out.1.bl.cell (p := ⟨g, o + i * 3, none⟩) hg).trans k0
      have c1 := (HH.out.1.bl.cell (p := ⟨g, o + i * 3 + 1, none⟩) hg).trans k1
      have c2 := (HH.out.1.bl.cell (p := ⟨g, o + i * 3 + 2, none⟩) hg).trans k2
      have HS : Hid _ := txAll_succ (List.getElem?_eq_getElem hlt)
      have HI0 : Hid _ := i0
      have HI1 : Hid _ := i1
      have HI2 : Hid _ := i2
      have hgW := Nat.lt_of_lt_of_le hg HH.out.1.bl.size
      clear k0 k1 k2 hgc i0 i1 i2
      generalize os[i] = x at *
      go_wp2_with fail
      refine (pick_any x.thread 4 _ HI0.out (by omega) (by omega)).mono ?_
      rintro e w1 ⟨rfl, rfl⟩
      have hp := pickOf_lt x.thread 4 (by omega)
      obtain ⟨t, ht2⟩ : ∃ t : Nat, pickOf x.thread 4 = (t : Int) := ⟨(pickOf x.thread 4).toNat, by omega⟩
      have ht : t < 4 := by omega
      have HT : Hid (txAll (os.take (i + 1)) = if txBad (txAll (os.take i)) t (spellOf x.kind x.arg) then txAll (os.take i) else txPut (txAll (os.take i)) t (spellOf x.kind x.arg)) := by
        show _ = _
        rw [HS.out, txStep, ht2]; rfl
      rw [ht2]
      clear hp ht2 HS
      go_wp2_with fail
      go_region_held3 (fun w' => w'.cell? ⟨g, o + i * 3 + 1, none⟩ = some (.int .i64 x.kind) ∧ w'.cell? ⟨g, o + i * 3 + 2, none⟩ = some (.int .i64 x.arg)) (first | exact ⟨c1, c2⟩ | exact ⟨(hw2.cell (p := ⟨g, o + i * 3 + 1, none⟩) hgW).trans c1, (hw2.cell (p := ⟨g, o + i * 3 + 2, none⟩) hgW).trans c2⟩)
        (first | (go_at_call 27; refine (spell_any x.kind x.arg _ HI1.out HI2.out).mono ?_; rintro e w2 ⟨⟨s, rfl, hs⟩, hw2'⟩; have hw2 : Below w1.heap.size w1 w2 := (Below.refl _ _).drew.trans (hw2'.mono (Nat.le_refl _))))
      have HA : Hid (TextAt w w2 (txAll (os.take i))) := HH.out.1.below hw2 HH.out.1.size
      have hsteps : Hid (st = (txAll (os.take i)).steps) := HH.out.2.1
      have hsize : Hid (sz = (txAll (os.take i)).size) := HH.out.2.2
      have HF : Hid (g < w2.heap.size) := Nat.lt_of_lt_of_le hgW hw2.size
      clear c0 c1 c2 hw2 hw2' HH hgW
      have HTK : Hid (TxOk (txAll (os.take i))) := txAll_ok _
      generalize txAll (os.take i) = T at *
      obtain ⟨c, hsp⟩ := spellOf_cases x.kind x.arg
      have HSP : Hid _ := hs
      clear hs
      generalize spellOf x.kind x.arg = sp at *
      have op := HA.out.opn t ht
      obtain ⟨s0, rw0, hs0⟩ := HA.out.rows t ht
      have hz0 : s0.size ≤ 100 := by
        have h1 := HTK.out.len
        have h2 := HTK.out.le
        have h3 := bytesOf_length s0
        rw [hs0] at h3
        unfold sumLen at h1
        have : t = 0 ∨ t = 1 ∨ t = 2 ∨ t = 3 := by omega
        rcases this with rfl | rfl | rfl | rfl <;> omega
      have hcat1 : ¬ 9223372036854775807 < s0.size + 1 := by omega
      have hcat2 : ¬ 9223372036854775807 < s0.size + 2 := by omega
      have fo := HA.out.fo t
      have fr := HA.out.fr t
      have ht' : (t : Int) < 4 := by omega
      rcases hsp with ⟨rfl, rfl⟩ | ⟨rfl, rfl⟩ | ⟨rfl, rfl⟩ | ⟨n, hcn, hn, hn2, rfl⟩
      · obtain rfl : s = ⟨#[33]⟩ := bytesOf_inj HSP.out
        have HZS : Hid ((ByteArray.mk #[33]).size ≤ 1000) := by show _ ≤ _; decide
        have hsh : Pl.isShared 33 = false := rfl
        have hL : (ByteArray.mk #[33]).toList = [33] := by rw [ByteArray.toList_eq]
        by_cases hf : 100 < sz + 1
        · have hf' : (100 : Int) < (sz : Int) + 1 := by omega
          have HB : Hid (txAll (os.take (i + 1)) = T) := HT.out.trans (if_pos (by unfold txBad; right; right; right; rw [← hsize.out]; simpa using hf))
          go_wp2_with (first | (go_at_call 28; refine (sharedS_any _ 33 [] _ HSP.out (by have := HZS.out; omega)).mono ?_; rintro e w9 ⟨rfl, rfl⟩; rw [hsh]))
          go_roundw
          case rel => exact ⟨i + 1, st, sz, by omega, by omega, by omega, by go_num, rfl, rfl, (show Hid _ from ⟨by rw [HB.out]; exact HA.out, by rw [HB.out]; exact hsteps.out, by rw [HB.out]; exact hsize.out⟩)⟩
          case measure => simp [intOf]; omega
        · have hf' : ¬ (100 : Int) < (sz : Int) + 1 := by omega
          have HB : Hid (txAll (os.take (i + 1)) = txPut T t _) := HT.out.trans (if_neg (by unfold txBad; rw [← hsize.out]; simp [hsh]; omega))
          go_wp2_with (first | (go_at_call 28; refine (sharedS_any _ 33 [] _ HSP.out (by have := HZS.out; omega)).mono ?_; rintro e w9 ⟨rfl, rfl⟩; rw [hsh]))
          go_roundw
          case rel =>
            refine ⟨i + 1, st, sz + 1, by omega, by omega, by omega, by go_num, by go_num, by go_num, ?_⟩
            show _ ∧ _ ∧ _
            rw [HB.out]
            exact ⟨HA.out.take0 ht hs0 HSP.out (by simp), hsteps.out, by rw [hsize.out]; rfl⟩
          case measure => simp [intOf]; omega
      · obtain rfl : s = ⟨#[91]⟩ := bytesOf_inj HSP.out
        have HZS : Hid ((ByteArray.mk #[91]).size ≤ 1000) := by show _ ≤ _; decide
        have hsh : Pl.isShared 91 = false := rfl
        have hL : (ByteArray.mk #[91]).toList = [91] := by rw [ByteArray.toList_eq]
        cases ho : T.opn t
        · rw [ho] at op
          by_cases hf : 100 < sz + 1
          · have hf' : (100 : Int) < (sz : Int) + 1 := by omega
            have HB : Hid (txAll (os.take (i + 1)) = T) := HT.out.trans (if_pos (by unfold txBad; right; right; right; rw [← hsize.out]; simpa using hf))
            go_wp2_with (first | (go_at_call 28; refine (sharedS_any _ 91 [] _ HSP.out (by have := HZS.out; omega)).mono ?_; rintro e w9 ⟨rfl, rfl⟩; rw [hsh]))
            go_roundw
            case rel => exact ⟨i + 1, st, sz, by omega, by omega, by omega, by go_num, rfl, rfl, (show Hid _ from ⟨by rw [HB.out]; exact HA.out, by rw [HB.out]; exact hsteps.out, by rw [HB.out]; exact hsize.out⟩)⟩
            case measure => simp [intOf]; omega
          · have hf' : ¬ (100 : Int) < (sz : Int) + 1 := by omega
            have HB : Hid (txAll (os.take (i + 1)) = txPut T t _) := HT.out.trans (if_neg (by unfold txBad; rw [← hsize.out]; simp [hsh, ho]; omega))
            go_wp2_with (first | (go_at_call 28; refine (sharedS_any _ 91 [] _ HSP.out (by have := HZS.out; omega)).mono ?_; rintro e w9 ⟨rfl, rfl⟩; rw [hsh]))
            go_roundw
            case rel =>
              refine ⟨i + 1, st, sz + 1, by omega, by omega, by omega, by go_num, by go_num, by go_num, ?_⟩
              show _ ∧ _ ∧ _
              rw [HB.out]
              exact ⟨HA.out.take1 ht hs0 HSP.out (.inl rfl) _ (by rw [ho]; rfl), hsteps.out, by rw [hsize.out]; rfl⟩
            case measure => simp [intOf]; omega
        · rw [ho] at op
          have HB : Hid (txAll (os.take (i + 1)) = T) := HT.out.trans (if_pos (by unfold txBad; left; exact ⟨rfl, ho⟩))
          go_wp2_with (first | (go_at_call 28; refine (sharedS_any _ 91 [] _ HSP.out (by have := HZS.out; omega)).mono ?_; rintro e w9 ⟨rfl, rfl⟩; rw [hsh]))
          go_roundw
          case rel => exact ⟨i + 1, st, sz, by omega, by omega, by omega, by go_num, rfl, rfl, (show Hid _ from ⟨by rw [HB.out]; exact HA.out, by rw [HB.out]; exact hsteps.out, by rw [HB.out]; exact hsize.out⟩)⟩
          case measure => simp [intOf]; omega
      · obtain rfl : s = ⟨#[93]⟩ := bytesOf_inj HSP.out
        have HZS : Hid ((ByteArray.mk #[93]).size ≤ 1000) := by show _ ≤ _; decide
        have hsh : Pl.isShared 93 = false := rfl
        have hL : (ByteArray.mk #[93]).toList = [93] := by rw [ByteArray.toList_eq]
        cases ho : T.opn t
        · rw [ho] at op
          have HB : Hid (txAll (os.take (i + 1)) = T) := HT.out.trans (if_pos (by unfold txBad; right; left; exact ⟨rfl, ho⟩))
          go_wp2_with (first | (go_at_call 28; refine (sharedS_any _ 93 [] _ HSP.out (by have := HZS.out; omega)).mono ?_; rintro e w9 ⟨rfl, rfl⟩; rw [hsh]))
          go_roundw
          case rel => exact ⟨i + 1, st, sz, by omega, by omega, by omega, by go_num, rfl, rfl, (show Hid _ from ⟨by rw [HB.out]; exact HA.out, by rw [HB.out]; exact hsteps.out, by rw [HB.out]; exact hsize.out⟩)⟩
          case measure => simp [intOf]; omega
        · rw [ho] at op
          by_cases hf : 100 < sz + 1
          · have hf' : (100 : Int) < (sz : Int) + 1 := by omega
            have HB : Hid (txAll (os.take (i + 1)) = T) := HT.out.trans (if_pos (by unfold txBad; right; right; right; rw [← hsize.out]; simpa using hf))
            go_wp2_with (first | (go_at_call 28; refine (sharedS_any _ 93 [] _ HSP.out (by have := HZS.out; omega)).mono ?_; rintro e w9 ⟨rfl, rfl⟩; rw [hsh]))
            go_roundw
            case rel => exact ⟨i + 1, st, sz, by omega, by omega, by omega, by go_num, rfl, rfl, (show Hid _ from ⟨by rw [HB.out]; exact HA.out, by rw [HB.out]; exact hsteps.out, by rw [HB.out]; exact hsize.out⟩)⟩
            case measure => simp [intOf]; omega
          · have hf' : ¬ (100 : Int) < (sz : Int) + 1 := by omega
            have HB : Hid (txAll (os.take (i + 1)) = txPut T t _) := HT.out.trans (if_neg (by unfold txBad; rw [← hsize.out]; simp [hsh, ho]; omega))
            go_wp2_with (first | (go_at_call 28; refine (sharedS_any _ 93 [] _ HSP.out (by have := HZS.out; omega)).mono ?_; rintro e w9 ⟨rfl, rfl⟩; rw [hsh]))
            go_roundw
            case rel =>
              refine ⟨i + 1, st, sz + 1, by omega, by omega, by omega, by go_num, by go_num, by go_num, ?_⟩
              show _ ∧ _ ∧ _
              rw [HB.out]
              exact ⟨HA.out.take1 ht hs0 HSP.out (.inr rfl) _ (by rw [ho]; rfl), hsteps.out, by rw [hsize.out]; rfl⟩
            case measure => simp [intOf]; omega
      · have hz2 : s.size = 2 := by have := bytesOf_length s; rw [HSP.out] at this; simpa using this.symm
        have HZS : Hid (s.size ≤ 1000) := by show _ ≤ _; omega
        have n91 : ¬ s.toList = [91] := fun e => by rw [ByteArray.toList_eq] at e; have := congrArg List.length e; simp at this; omega
        have n93 : ¬ s.toList = [93] := fun e => by rw [ByteArray.toList_eq] at e; have := congrArg List.length e; simp at this; omega
        have d91 : (s.toList == [91]) = false := beq_eq_false_iff_ne.2 n91
        have d93 : (s.toList == [93]) = false := beq_eq_false_iff_ne.2 n93
        cases hsh : Pl.isShared c
        · by_cases hf : 100 < sz + 2
          · have hf' : (100 : Int) < (sz : Int) + 2 := by omega
            have HB : Hid (txAll (os.take (i + 1)) = T) := HT.out.trans (if_pos (by unfold txBad; right; right; right; rw [← hsize.out]; simpa using hf))
            go_wp2_with (first | (go_at_call 28; refine (sharedS_any _ c [n] _ HSP.out (by have := HZS.out; omega)).mono ?_; rintro e w9 ⟨rfl, rfl⟩; rw [hsh]))
            go_roundw
            case rel => exact ⟨i + 1, st, sz, by omega, by omega, by omega, by go_num, rfl, rfl, (show Hid _ from ⟨by rw [HB.out]; exact HA.out, by rw [HB.out]; exact hsteps.out, by rw [HB.out]; exact hsize.out⟩)⟩
            case measure => simp [intOf]; omega
          · have hf' : ¬ (100 : Int) < (sz : Int) + 2 := by omega
            have HB : Hid (txAll (os.take (i + 1)) = txPut T t _) := HT.out.trans (if_neg (by unfold txBad; rw [← hsize.out]; simp [hsh]; omega))
            go_wp2_with (first | (go_at_call 28; refine (sharedS_any _ c [n] _ HSP.out (by have := HZS.out; omega)).mono ?_; rintro e w9 ⟨rfl, rfl⟩; rw [hsh]))
            go_roundw
            case rel =>
              refine ⟨i + 1, st, sz + 2, by omega, by omega, by omega, by go_num, by go_num, by go_num, ?_⟩
              show _ ∧ _ ∧ _
              rw [HB.out]
              exact ⟨HA.out.take0 ht hs0 HSP.out (by simp), by simp [txPut, hsh]; exact hsteps.out, by rw [hsize.out]; rfl⟩
            case measure => simp [intOf]; omega
        · by_cases h10 : st = 10
          · have h10' : ((st : Int) == 10) = true := by simp; omega
            have HB : Hid (txAll (os.take (i + 1)) = T) := HT.out.trans (if_pos (by unfold txBad; right; right; left; exact ⟨hsh, by rw [← hsteps.out]; exact h10⟩))
            clear h10
            go_wp2_with (first | (go_at_call 28; refine (sharedS_any _ c [n] _ HSP.out (by have := HZS.out; omega)).mono ?_; rintro e w9 ⟨rfl, rfl⟩; rw [hsh]))
            go_roundw
            case rel => exact ⟨i + 1, st, sz, by omega, by omega, by omega, by go_num, rfl, rfl, (show Hid _ from ⟨by rw [HB.out]; exact HA.out, by rw [HB.out]; exact hsteps.out, by rw [HB.out]; exact hsize.out⟩)⟩
            case measure => simp [intOf]; omega
          · have h10' : ((st : Int) == 10) = false := by simp; omega
            by_cases hf : 100 < sz + 2
            · have hf' : (100 : Int) < (sz : Int) + 2 := by omega
              have HB : Hid (txAll (os.take (i + 1)) = T) := HT.out.trans (if_pos (by unfold txBad; right; right; right; rw [← hsize.out]; simpa using hf))
              go_wp2_with (first | (go_at_call 28; refine (sharedS_any _ c [n] _ HSP.out (by have := HZS.out; omega)).mono ?_; rintro e w9 ⟨rfl, rfl⟩; rw [hsh]))
              go_roundw
              case rel => exact ⟨i + 1, st, sz, by omega, by omega, by omega, by go_num, rfl, rfl, (show Hid _ from ⟨by rw [HB.out]; exact HA.out, by rw [HB.out]; exact hsteps.out, by rw [HB.out]; exact hsize.out⟩)⟩
              case measure => simp [intOf]; omega
            · have hf' : ¬ (100 : Int) < (sz : Int) + 2 := by omega
              have HB : Hid (txAll (os.take (i + 1)) = txPut T t _) := HT.out.trans (if_neg (by unfold txBad; rw [← hsize.out, ← hsteps.out]; simp [hsh]; omega))
              go_wp2_with (first | (go_at_call 28; refine (sharedS_any _ c [n] _ HSP.out (by have := HZS.out; omega)).mono ?_; rintro e w9 ⟨rfl, rfl⟩; rw [hsh]))
              go_roundw
              case rel =>
                refine ⟨i + 1, st + 1, sz + 2, by omega, by omega, by omega, by go_num, by go_num, by go_num, ?_⟩
                show _ ∧ _ ∧ _
                rw [HB.out]
                exact ⟨HA.out.take0 ht hs0 HSP.out (by simp), by simp [txPut, hsh]; exact hsteps.out, by rw [hsize.out]; rfl⟩
              case measure => simp [intOf]; omega
    · have hie : i = os.length := by omega
      have HTX : Hid (TextAt w wr (txAll os)) := by
        have := HH.out.1
        rw [hie, List.take_length] at this
        exact this
      have HTK : Hid (TxOk (txAll os)) := txAll_ok _
      clear HH hie
      generalize hTe : txAll os = T at HTX HTK
      have HTE : Hid _ := hTe
      clear hTe
      go_wp2_with fail
      go_loopw [12, 13] (fun v12 v13 wr' => ∃ (k la : Nat), k ≤ 4 ∧ v13 = .int .i64 (k : Int) ∧ v12 = .int .i64 (la : Int) ∧ Hid (wr' = wr ∧ la = lastTo T k)) (fun _ v13 _ => 4 - (intOf v13).toNat)
      case atStart => exact ⟨0, 0, by omega, rfl, rfl, (show Hid _ from ⟨rfl, rfl⟩)⟩
      case round =>
        obtain ⟨k, la, hk, rfl, rfl, H2⟩ := hrel
        obtain ⟨rfl, hla⟩ := H2.out
        by_cases hlt2 : k < 4
        · obtain ⟨rs, rw1, hrs⟩ := HTX.out.rows k hlt2
          have hk' : (k : Int) < 4 := by omega
          by_cases hne : T.row k = []
          · obtain rfl : rs = ⟨#[]⟩ := bytesOf_inj (by rw [hrs, hne]; rfl)
            have hL : (ByteArray.mk #[]).toList = [] := by rw [ByteArray.toList_eq]
            have HV : Hid (lastTo T (k + 1) = la) := by show _ = _; rw [lastTo, if_neg (by simpa using hne), hla]
            clear hne hrs
            go_wp2
            go_roundw
            case rel => exact ⟨k + 1, la, by omega, by go_num, rfl, (show Hid _ from ⟨by trivial, HV.out.symm⟩)⟩
            case measure => simp [intOf]; omega
          · have n0 : ¬ rs.toList = [] := fun e => hne (by rw [← hrs]; rw [ByteArray.toList_eq] at e; unfold bytesOf; rw [e]; rfl)
            have d0 : (rs.toList == []) = false := beq_eq_false_iff_ne.2 n0
            have d1 : (rs.toList != []) = true := by rw [bne_iff_ne]; exact n0
            have d2 : rs.toList.isEmpty = false := by cases h : rs.toList with | nil => exact absurd h n0 | cons a b => rfl
            have HV : Hid (lastTo T (k + 1) = k) := by show _ = _; rw [lastTo, if_pos hne]
            clear hne hrs
            go_wp2
            go_roundw
            case rel => exact ⟨k + 1, k, by omega, by go_num, rfl, (show Hid _ from ⟨by trivial, HV.out.symm⟩)⟩
            case measure => simp [intOf]; omega
        · have hk4 : k = 4 := by omega
          subst hk4
          have hla4 : la < 4 := by
            rw [hla]
            unfold lastTo lastTo lastTo lastTo lastTo
            repeat' split
            all_goals omega
          have HLA : Hid _ := hla
          clear H2 hla
          go_wp2_with fail
          go_loopw [11, 14] (fun v11 v14 w3 => ∃ (k : Nat) (sa : ByteArray), k ≤ la + 1 ∧ v14 = .int .i64 (k : Int) ∧ v11 = .string sa ∧ Hid (bytesOf sa = joinTo T k ∧ ∃ T', TextAt w w3 T' ∧ (∀ j, k ≤ j → T'.row j = T.row j) ∧ ∀ j, T'.opn j = T.opn j)) (fun _ v14 _ => la + 1 - (intOf v14).toNat)
          case atStart => exact ⟨0, ⟨#[]⟩, by omega, rfl, rfl, (show Hid _ from ⟨rfl, T, HTX.out, fun _ _ => rfl, fun _ => rfl⟩)⟩
          case round =>
            obtain ⟨k, sa, hk, rfl, rfl, H3⟩ := hrel
            obtain ⟨hsa, T', hta, hr2, ho2⟩ := H3.out
            have HTA : Hid _ := hta
            have HR2 : Hid _ := hr2
            have HO2 : Hid _ := ho2
            by_cases hle : k ≤ la
            · have hk4 : k < 4 := by omega
              have hle' : (k : Int) ≤ (la : Int) := by omega
              have hk4' : (k : Int) < 4 := by omega
              have op := hta.opn k hk4
              rw [ho2 k] at op
              obtain ⟨rs, rw1, hrs⟩ := hta.rows k hk4
              rw [hr2 k (Nat.le_refl _)] at hrs
              have fr := hta.fr k
              have hz1 : rs.size ≤ 100 := by
                have h1 := HTK.out.len
                have h2 := HTK.out.le
                have h3 := bytesOf_length rs
                rw [hrs] at h3
                unfold sumLen at h1
                have : k = 0 ∨ k = 1 ∨ k = 2 ∨ k = 3 := by omega
                rcases this with rfl | rfl | rfl | rfl <;> omega
              have hz2 : sa.size ≤ 100 := by
                have h3 := bytesOf_length sa
                rw [hsa] at h3
                by_cases hk00 : k = 0
                · subst hk00; simp [joinTo] at h3; omega
                · have := (join_bounds HTK.out (k - 1) (by omega)).1
                  rw [show k - 1 + 1 = k by omega] at this
                  omega
              have q1 : ¬ 9223372036854775807 < rs.size + 1 := by omega
              have q2 : ¬ 9223372036854775807 < sa.size + 1 := by omega
              have q3 : ¬ 9223372036854775807 < sa.size + rs.size := by omega
              have q4 : ¬ 9223372036854775807 < sa.size + 1 + rs.size := by omega
              have q5 : ¬ 9223372036854775807 < sa.size + (rs.size + 1) := by omega
              have q6 : ¬ 9223372036854775807 < sa.size + 1 + (rs.size + 1) := by omega
              clear hta hr2 ho2 H3
              cases ho : T.opn k
              · by_cases hk0 : 0 < k
                · have HC : Hid (closed T k = T.row k) := by show _ = _; unfold closed; rw [ho]; rfl
                  have HJ : Hid (joinTo T (k + 1) = joinTo T k ++ [10] ++ closed T k) := by show _ = _; rw [joinTo, if_pos hk0]
                  rw [ho] at op
                  have hk0' : (0 : Int) < (k : Int) := by omega
                  clear ho
                  go_wp2
                  go_roundw
                  case rel =>
                    refine ⟨k + 1, (sa ++ ⟨#[10]⟩) ++ rs, by omega, by go_num, rfl, ?_⟩
                    show _ ∧ _
                    refine ⟨by rw [HJ.out, HC.out]; simp only [bytesOf_append, hsa, hrs]; simp [show bytesOf ⟨#[10]⟩ = [10] from rfl], ?_⟩
                    exact ⟨T', HTA.out, fun j hj => HR2.out j (by omega), HO2.out⟩
                  case measure => simp [intOf]; omega
                · have HC : Hid (closed T k = T.row k) := by show _ = _; unfold closed; rw [ho]; rfl
                  have HJ : Hid (joinTo T (k + 1) = joinTo T k ++ [] ++ closed T k) := by show _ = _; rw [joinTo, if_neg (by omega)]
                  rw [ho] at op
                  have hk0' : ¬ (0 : Int) < (k : Int) := by omega
                  clear ho
                  go_wp2
                  go_roundw
                  case rel =>
                    refine ⟨k + 1, sa ++ rs, by omega, by go_num, rfl, ?_⟩
                    show _ ∧ _
                    refine ⟨by rw [HJ.out, HC.out]; simp only [bytesOf_append, hsa, hrs]; simp [], ?_⟩
                    exact ⟨T', HTA.out, fun j hj => HR2.out j (by omega), HO2.out⟩
                  case measure => simp [intOf]; omega
              · by_cases hk0 : 0 < k
                · have HC : Hid (closed T k = T.row k ++ [93]) := by show _ = _; unfold closed; rw [ho]; rfl
                  have HJ : Hid (joinTo T (k + 1) = joinTo T k ++ [10] ++ closed T k) := by show _ = _; rw [joinTo, if_pos hk0]
                  rw [ho] at op
                  have hk0' : (0 : Int) < (k : Int) := by omega
                  clear ho
                  go_wp2
                  go_roundw
                  case rel =>
                    refine ⟨k + 1, (sa ++ ⟨#[10]⟩) ++ (rs ++ ⟨#[93]⟩), by omega, by go_num, rfl, ?_⟩
                    show _ ∧ _
                    refine ⟨by rw [HJ.out, HC.out]; simp only [bytesOf_append, hsa, hrs]; simp [show bytesOf ⟨#[93]⟩ = [93] from rfl, show bytesOf ⟨#[10]⟩ = [10] from rfl], ?_⟩
                    refine ⟨{ T' with row := fun i => if i = k then bytesOf (rs ++ ⟨#[93]⟩) else T'.row i }, HTA.out.putRow k hk4 (rs ++ ⟨#[93]⟩), fun j hj => ?_, fun j => HO2.out j⟩
                    simp only
                    rw [if_neg (by omega)]; exact HR2.out j (by omega)
                  case measure => simp [intOf]; omega
                · have HC : Hid (closed T k = T.row k ++ [93]) := by show _ = _; unfold closed; rw [ho]; rfl
                  have HJ : Hid (joinTo T (k + 1) = joinTo T k ++ [] ++ closed T k) := by show _ = _; rw [joinTo, if_neg (by omega)]
                  rw [ho] at op
                  have hk0' : ¬ (0 : Int) < (k : Int) := by omega
                  clear ho
                  go_wp2
                  go_roundw
                  case rel =>
                    refine ⟨k + 1, sa ++ (rs ++ ⟨#[93]⟩), by omega, by go_num, rfl, ?_⟩
                    show _ ∧ _
                    refine ⟨by rw [HJ.out, HC.out]; simp only [bytesOf_append, hsa, hrs]; simp [show bytesOf ⟨#[93]⟩ = [93] from rfl], ?_⟩
                    refine ⟨{ T' with row := fun i => if i = k then bytesOf (rs ++ ⟨#[93]⟩) else T'.row i }, HTA.out.putRow k hk4 (rs ++ ⟨#[93]⟩), fun j hj => ?_, fun j => HO2.out j⟩
                    simp only
                    rw [if_neg (by omega)]; exact HR2.out j (by omega)
                  case measure => simp [intOf]; omega
            · have hke : k = la + 1 := by omega
              subst hke
              have hle' : ¬ ((la : Int) + 1 ≤ (la : Int)) := by omega
              go_wp2
              go_ret
              exact ⟨⟨sa, rfl, by rw [hsa, HLA.out, HTE.out]⟩, HTA.out.bl⟩

end Go.Proofs.Ytfdafcnfefbcbab
