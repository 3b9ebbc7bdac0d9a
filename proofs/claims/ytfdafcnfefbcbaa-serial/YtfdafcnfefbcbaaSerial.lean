/-
  The law Serial: its walk.
-/
import Derived.Test.YtfdafcnfefbcbaaNext
import Derived.Test.YtfdafcnfefbcbaaRawArgs
namespace Go.Proofs.Ytfdafcnfefbcbaa
open Go.RowKit
set_option linter.unusedVariables false

theorem Try.size84 : (Try.prog.info? 84).map (·.size) = some 4 := by kernel_rfl

/-- Where Serial's loop stands; of: the block in which each thread stepped last, in the block of memory behind the world w2. -/
structure SerAt (p : List (List Pl.POp)) (w2 wr : World) (ms : List Int) (ma : Option Addr) (mcap : Nat) (S : St) (es : List Ev) : Prop where
  own : wr.ownsRow (w2.heap.size + 1) 3 1 (.slice ma ms.length mcap) ms.length (intCells ms)
  bl2 : Below w2.heap.size w2 wr
  fol : follow p (beginTo p 4) [] 0 ms = some (S, es)
  nil : ms = [] → ma = none ∧ mcap = 0
  tog : Together es
  at_ : ∀ q, q < 4 → wr.cell? ⟨w2.heap.size, q, none⟩ = some (.int .i64 (ofB es (q : Int)))
  fr : ∀ q, wr.frozen? ⟨w2.heap.size, q, none⟩ = false
  lt : w2.heap.size < wr.heap.size
  ten : ms.length ≤ 10

theorem SerAt.sh {p : List (List Pl.POp)} {w2 wr : World} {ms : List Int} {ma : Option Addr} {mcap : Nat} {S : St} {es : List Ev} (h : SerAt p w2 wr ms ma mcap S es) : ms.length ≤ maxLen := by have := h.ten; unfold maxLen; omega

theorem SerAt.below {p : List (List Pl.POp)} {w2 wr wr' : World} {ms : List Int} {ma : Option Addr} {mcap : Nat} {S : St} {es : List Ev} (h : SerAt p w2 wr ms ma mcap S es) (hb : Below wr.heap.size wr wr') : SerAt p w2 wr' ms ma mcap S es :=
  ⟨((ownsRow_in h.own).below hb).1, h.bl2.trans (hb.mono h.bl2.size), h.fol, h.nil, h.tog, fun q hq => (hb.cell (p := ⟨w2.heap.size, q, none⟩) h.lt).trans (h.at_ q hq), fun q => (hb.frozen (p := ⟨w2.heap.size, q, none⟩) h.lt).trans (h.fr q), Nat.lt_of_lt_of_le h.lt hb.size, h.ten⟩

/-- What the call of next rests on. -/
structure SerT (g k B : Nat) (x : Int) (o : Nat → Int) (w : World) : Prop where
  a : w.cell? ⟨g, k, none⟩ = some (.int .i64 x)
  b : w.rangeAt B 0 [.int .i64 (o 0), .int .i64 (o 1), .int .i64 (o 2), .int .i64 (o 3)]

theorem SerAt.range {p : List (List Pl.POp)} {w2 wr : World} {ms : List Int} {ma : Option Addr} {mcap : Nat} {S : St} {es : List Ev} (h : SerAt p w2 wr ms ma mcap S es) : wr.rangeAt w2.heap.size 0 [.int .i64 (ofB es ((0 : Nat) : Int)), .int .i64 (ofB es ((1 : Nat) : Int)), .int .i64 (ofB es ((2 : Nat) : Int)), .int .i64 (ofB es ((3 : Nat) : Int))] := fun j v hv => by
  have hj : j < 4 := by simpa using (List.getElem?_eq_some_iff.1 hv).1
  have : j = 0 ∨ j = 1 ∨ j = 2 ∨ j = 3 := by omega
  rw [Nat.zero_add, h.at_ j hj]
  rcases this with rfl | rfl | rfl | rfl <;> exact hv

set_option maxRecDepth 100000 in
set_option maxHeartbeats 8000000 in
theorem serial_walk (os : List Raw) (rs : List Int) (a ra : Option Addr) (cap rcap : Nat) (w : World) (h : RawArgs w a os ra rs) :
    Calls Try.prog 12 #[.slice a os.length cap, .slice ra rs.length rcap] w fun e w' => e = .returned (.bool true) ∧ Below w.heap.size w w' := by
  have HH : Hid (RawArgs w a os ra rs) := h
  clear h
  obtain ⟨i0, hi0, hz0, hz1, hz2⟩ := info_parts Try.info3
  go_enter Try.func12, Try.ntmps12
  go_wp2_with fail
  refine (sure_any _).mono ?_
  rintro e w1 ⟨rfl, hb1⟩
  go_wp2_with fail
  refine (given3_any os a cap _ (HH.out.ops.below hb1) HH.out.lenO).mono ?_
  rintro e w2 ⟨⟨b, p, rfl, hp2, hs, hc10, hnm, hcp⟩, hb2⟩
  have HB2 : Hid (Below w.heap.size w w2) := hb1.trans (hb2.mono hb1.size)
  have HP2 : Hid (ProgIn w2 w1.heap.size w2.heap.size b p) := hp2
  have HS : Hid _ := hs
  have HC : Hid (Pl.countShared p ≤ 10) := hc10
  have HCP : Hid (ContP p) := hcp
  clear hb1 hb2 hp2 hs hc10 hnm hcp
  go_upto_region 7 with fail
  have HBW : Hid (Below w2.heap.size w2 (w2.alloc (.cells #[.int .i64 0, .int .i64 0, .int .i64 0, .int .i64 0] 84))) := (Below.refl _ _).alloc (Nat.le_refl _) _
  have HOW : Hid (∀ q, q < 4 → (w2.alloc (.cells #[.int .i64 0, .int .i64 0, .int .i64 0, .int .i64 0] 84)).cell? ⟨w2.heap.size, q, none⟩ = some (.int .i64 0)) := fun q hq => by
    have : q = 0 ∨ q = 1 ∨ q = 2 ∨ q = 3 := by omega
    rcases this with rfl | rfl | rfl | rfl <;> simp
  have HFW : Hid (∀ q, (w2.alloc (.cells #[.int .i64 0, .int .i64 0, .int .i64 0, .int .i64 0] 84)).frozen? ⟨w2.heap.size, q, none⟩ = false) := fun q => World.frozen?_alloc_at _ _ _ _ rfl
  have HZW : Hid ((w2.alloc (.cells #[.int .i64 0, .int .i64 0, .int .i64 0, .int .i64 0] 84)).heap.size = w2.heap.size + 1) := by show _ = _; simp
  generalize w2.alloc (.cells #[.int .i64 0, .int .i64 0, .int .i64 0, .int .i64 0] 84) = W at *
  go_wp2_with fail
  go_loopw [10] (fun v10 wr => ∃ i : Nat, i ≤ 4 ∧ v10 = .int .i64 (i : Int) ∧ Hid (Below w2.heap.size w2 wr ∧ wr.heap.size = w2.heap.size + 1 ∧ (∀ q, wr.frozen? ⟨w2.heap.size, q, none⟩ = false) ∧ ∀ q, q < 4 → wr.cell? ⟨w2.heap.size, q, none⟩ = some (.int .i64 (if q < i then -1 else 0)))) (fun v10 _ => 4 - (intOf v10).toNat)
  case atStart => exact ⟨0, Nat.zero_le _, rfl, (show Hid _ from ⟨HBW.out, HZW.out, HFW.out, fun q hq => by rw [if_neg (by omega)]; exact HOW.out q hq⟩)⟩
  case round =>
    obtain ⟨i, hi4, rfl, H1⟩ := hrel
    by_cases hlt : i < 4
    · have hlt' : (i : Int) < 4 := by omega
      have hi0' : (0 : Int) ≤ (i : Int) := by omega
      have c0 := H1.out.2.2.2 i hlt
      rw [if_neg (Nat.lt_irrefl i)] at c0
      have f0 := H1.out.2.2.1 i
      go_wp2
      go_roundw
      case rel =>
        refine ⟨i + 1, by omega, by go_num, (show Hid _ from ⟨H1.out.1.setCell (Nat.le_refl _) _, by rw [World.size_setCell]; exact H1.out.2.1, fun q => by rw [World.frozen?_setCell]; exact H1.out.2.2.1 q, fun q hq => ?_⟩)⟩
        by_cases hqi : q = i
        · subst hqi
          rw [if_pos (by omega)]
          simp [World.cell?_setCell_same', c0]
        · rw [World.cell?_setCell_other _ _ _ _ (by simp []), H1.out.2.2.2 q hq]
          by_cases hq2 : q < i
          · rw [if_pos hq2, if_pos (by omega)]
          · rw [if_neg hq2, if_neg (by omega)]
      case measure => simp [intOf]; omega
    · have hlt' : ¬ (i : Int) < 4 := by omega
      have hi4' : i = 4 := by omega
      subst hi4'
      have HX0 : Hid (SerAt p w2 wr [] none 0 (beginTo p 4) []) := ⟨World.ownsRow_nil _ _ _ _, H1.out.1, rfl, fun _ => ⟨rfl, rfl⟩, fun e a b hs => absurd hs (by simp), fun q hq => by have := H1.out.2.2.2 q hq; rw [if_pos hq] at this; exact this, H1.out.2.2.1, by have := H1.out.2.1; omega, by simp⟩
      clear H1 HBW HOW HFW HZW
      go_wp2_with fail
      go_loopw [8, 11] (fun v8 v11 wr => ∃ (ms : List Int) (ma : Option Addr) (mcap : Nat) (S : St) (es : List Ev), ms.length ≤ 10 ∧ v8 = .slice ma ms.length mcap ∧ v11 = .int .i64 (ms.length : Int) ∧ Hid (SerAt p w2 wr ms ma mcap S es)) (fun _ v11 _ => 11 - (intOf v11).toNat)
      case atStart => exact ⟨[], none, 0, beginTo p 4, [], by simp, rfl, rfl, HX0⟩
      case round =>
        clear HX0
        obtain ⟨ms, ma, mcap, S, es, hm10, rfl, rfl, HX⟩ := hrel
        have h10' : (ms.length : Int) ≤ 10 := by omega
        by_cases hr0 : 0 < rs.length
        · have hr0' : (0 : Int) < (rs.length : Int) := by omega
          go_wp2_with fail
          refine (progReady_any p w1.heap.size w2.heap.size b ms ma mcap _ (HP2.out.below HX.out.bl2) HS.out HX.out.bl2.size (ints_of_owns HX.out.own) HX.out.sh).mono ?_
          rintro e w5 hrs
          unfold ReadySays at hrs
          rw [HX.out.fol] at hrs
          obtain ⟨hb5, la, lcap, rfl, ho5⟩ := hrs
          have HX5 : Hid (SerAt p w2 w5 ms ma mcap S es) := HX.out.below hb5
          have HL5 : Hid (IntsIn w5 la (readyTo S p 4)) := ints_of_owns ho5
          clear hb5 ho5 HX
          by_cases hrd : readyTo S p 4 = []
          · rw [hrd]
            have HX : Hid (SerAt p w2 w5 ms ma mcap S es) := HX5
            clear HX5 HL5 hrd
            go_wp2_with fail
            refine (events_any p w1.heap.size w2.heap.size b ms ma mcap _ (HP2.out.below HX.out.bl2) HS.out HX.out.bl2.size (ints_of_owns HX.out.own) HX.out.sh).mono ?_
            rintro e wa hev
            unfold EventsSays at hev
            rw [HX.out.fol] at hev
            obtain ⟨hba, fa, fcap, rfl, hoa⟩ := hev
            have HEA : Hid (EvsIn wa fa es) := evs_of_owns hoa
            have HXA : Hid (SerAt p w2 wa ms ma mcap S es) := HX.out.below hba
            clear hba hoa HX
            go_wp2_with fail
            refine (together_any es fa fcap _ HEA.out HXA.out.tog (by have h1 := (follow_len HXA.out.fol).2.1; have h2 := HXA.out.ten; omega)).mono ?_
            rintro e wb ⟨rfl, hbb⟩
            have HXB : Hid (SerAt p w2 wb ms ma mcap S es) := HXA.out.below hbb
            have HCY : Hid (cycleOf es = []) := together_cycle HXA.out.tog
            clear hbb HXA HEA
            go_wp2_with fail
            refine (progCycle_any p w1.heap.size w2.heap.size b ms ma mcap _ (HP2.out.below HXB.out.bl2) HS.out HXB.out.bl2.size (ints_of_owns HXB.out.own) HXB.out.sh).mono ?_
            rintro e wc hcs
            unfold CycleSays at hcs
            rw [HXB.out.fol] at hcs
            obtain ⟨hbc, v, rfl, ca, ccap, rfl, -, -⟩ := hcs
            rw [HCY.out]
            go_wp2
            go_ret
            exact ⟨rfl, HB2.out.trans ((HXB.out.bl2.trans (hbc.mono HXB.out.bl2.size)).mono HB2.out.size)⟩
          · have hpos : 0 < (readyTo S p 4).length := List.length_pos_iff.2 hrd
            have hne : (((readyTo S p 4).length : Int) == 0) = false := by rw [beq_eq_false_iff_ne]; omega
            have hrl := readyTo_length S p 4
            have h9 : ms.length + 1 ≤ 10 := by
              obtain ⟨y, hy⟩ := List.length_pos_iff_exists_mem.1 hpos
              have h1 := can_rem (follow_len HX5.out.fol).1 ((mem_ready4 S p y).1 hy)
              have h2 := (follow_len HX5.out.fol).2.2
              have h3 := HC.out
              omega
            obtain ⟨lb, rfl, hlb, hlc⟩ := HL5.out hpos
            have HLC : Hid _ := hlc
            clear hlc hrd
            go_wp2_with fail
            go_loopw [14] (fun v14 wr => ∃ k : Nat, k ≤ (readyTo S p 4).length ∧ v14 = .int .i64 (k : Int) ∧ Hid (wr = w5)) (fun v14 _ => (readyTo S p 4).length - (intOf v14).toNat)
            case atStart => exact ⟨0, Nat.zero_le _, rfl, (show Hid _ from rfl)⟩
            case round =>
              obtain ⟨k, hkl, rfl, HE5⟩ := hrel
              obtain rfl := HE5.out
              clear HE5
              by_cases hk : k < (readyTo S p 4).length
              · have hk' : (k : Int) < ((readyTo S p 4).length : Int) := by omega
                have hk0 : (0 : Int) ≤ (k : Int) := by omega
                have c0 := HLC.out k _ (List.getElem?_eq_getElem hk)
                obtain ⟨q, hq, hq4, -⟩ := ready_nat (List.getElem_mem hk)
                rw [hq] at c0
                have hq1 : ¬ (q : Int) < 0 := by omega
                have hq2 : ¬ (4 : Int) ≤ (q : Int) := by omega
                clear hq
                generalize (readyTo S p 4).length = n at *
                go_wp2
                go_roundw
                case rel => exact ⟨k + 1, by omega, by go_num, (show Hid _ from by trivial)⟩
                case measure => simp [intOf]; omega
              · have hk' : ¬ (k : Int) < ((readyTo S p 4).length : Int) := by omega
                obtain ⟨g, o, rfl, hg, hgc⟩ := HH.out.nums hr0
                have hkk : ms.length % rs.length < rs.length := Nat.mod_lt _ hr0
                obtain ⟨c0, hin⟩ := hgc (ms.length % rs.length) _ (List.getElem?_eq_getElem hkk)
                have HBX : Hid (Below w.heap.size w wr) := HB2.out.trans (HX5.out.bl2.mono HB2.out.size)
                have c1 := (HBX.out.cell (p := ⟨g, o + ms.length % rs.length, none⟩) hg).trans c0
                have HMOD : Hid ((ms.length : Int).tmod (rs.length : Int) = ((ms.length % rs.length : Nat) : Int)) := rfl
                have HRZ : Hid (rs ≠ []) := List.length_pos_iff.1 hr0
                have HIN : Hid _ := hin
                have hkk' : ((ms.length % rs.length : Nat) : Int) < (rs.length : Int) := by omega
                have hkk0 : (0 : Int) ≤ ((ms.length % rs.length : Nat) : Int) := by omega
                clear c0 hgc hin
                generalize rs[ms.length % rs.length] = x at *
                generalize ms.length % rs.length = kk at *
                have HST : Hid (SerT g (o + kk) w2.heap.size x (fun q => ofB es (q : Int)) wr) := ⟨c1, HX5.out.range⟩
                clear c1
                go_wp2_with fail
                refine wp_region_held_drew (S := SerT g (o + kk) w2.heap.size x (fun q => ofB es (q : Int))) (by kernel_rfl) ⟨HST.out.a, HST.out.b⟩ (fun hHeld => ?_)
                refine wpAnyH_take (i := 0) (v := (.pointer (some ⟨b, 0, none⟩))) rfl (by kernel_rfl) (by kernel_rfl) (by kernel_rfl) (fun _ _ _ h => h) (Or.inl ⟨by rfl, fun _ _ => rfl⟩) hHeld ?_
                simp only [List.getElem_toArray, List.getElem_cons_zero, Act.put, List.setIfInBounds_toArray, List.set_cons_zero, List.set_cons_succ]
                refine wpAnyH_take (i := 1) (v := (.slice ma ms.length mcap)) rfl (by kernel_rfl) (by kernel_rfl) (by kernel_rfl) (fun _ _ _ h => h) (Or.inl ⟨by rfl, fun _ _ => rfl⟩) hHeld ?_
                simp only [List.getElem_toArray, List.getElem_cons_zero, List.getElem_cons_succ, Act.put, List.setIfInBounds_toArray, List.set_cons_zero, List.set_cons_succ]
                refine wpAnyH_take (i := 2) (v := (.slice (some ⟨lb, 0, none⟩) (readyTo S p 4).length lcap)) rfl (by kernel_rfl) (by kernel_rfl) (by kernel_rfl) (fun _ _ _ h => h) (Or.inl ⟨by rfl, fun _ _ => rfl⟩) hHeld ?_
                simp only [List.getElem_toArray, List.getElem_cons_zero, List.getElem_cons_succ, Act.put, List.setIfInBounds_toArray, List.set_cons_zero, List.set_cons_succ]
                refine wpAnyH_take (i := 3) (v := (.slice (some ⟨g, o, none⟩) rs.length rcap)) rfl (by kernel_rfl) (by kernel_rfl) (by kernel_rfl) (fun _ _ _ h => h) (Or.inl ⟨by rfl, fun _ _ => rfl⟩) hHeld ?_
                simp only [List.getElem_toArray, List.getElem_cons_zero, List.getElem_cons_succ, Act.put, List.setIfInBounds_toArray, List.set_cons_zero, List.set_cons_succ]
                refine wpAnyH_take (i := 4) (v := (.int .i64 (ms.length : Int))) rfl (by kernel_rfl) (by kernel_rfl) (by kernel_rfl) (fun _ _ _ h => h) (Or.inl ⟨by rfl, fun _ _ => rfl⟩) hHeld ?_
                simp only [List.getElem_toArray, List.getElem_cons_zero, List.getElem_cons_succ, Act.put, List.setIfInBounds_toArray, List.set_cons_zero, List.set_cons_succ]
                refine wpAnyH_take (i := 5) (v := (.slice (some ⟨g, o, none⟩) rs.length rcap)) rfl (by kernel_rfl) (by kernel_rfl) (by kernel_rfl) (fun _ _ _ h => h) (Or.inl ⟨by rfl, fun _ _ => rfl⟩) hHeld ?_
                simp only [List.getElem_toArray, List.getElem_cons_zero, List.getElem_cons_succ, Act.put, List.setIfInBounds_toArray, List.set_cons_zero, List.set_cons_succ]
                refine wpAnyH_take (i := 6) (v := (.int .i64 (rs.length : Int))) rfl (by kernel_rfl) (by kernel_rfl) (by kernel_rfl) (fun _ _ _ h => h) (Or.inl ⟨by rfl, fun _ _ => by go_simp⟩) hHeld ?_
                simp only [List.getElem_toArray, List.getElem_cons_zero, List.getElem_cons_succ, Act.put, List.setIfInBounds_toArray, List.set_cons_zero, List.set_cons_succ]
                refine wpAnyH_take (i := 7) (v := (.int .i64 (kk : Int))) rfl (by kernel_rfl) (by kernel_rfl) (by kernel_rfl) (fun _ _ _ h => h) (Or.inl ⟨by rfl, fun _ _ => by go_simp; rw [if_neg HRZ.out, HMOD.out]⟩) hHeld ?_
                simp only [List.getElem_toArray, List.getElem_cons_zero, List.getElem_cons_succ, Act.put, List.setIfInBounds_toArray, List.set_cons_zero, List.set_cons_succ]
                refine wpAnyH_take (i := 8) (v := (.pointer (some ⟨g, o + kk, none⟩))) rfl (by kernel_rfl) (by kernel_rfl) (by kernel_rfl) (fun _ _ _ h => h) (Or.inl ⟨by rfl, fun _ _ => by go_simp <;> (intro h; omega)⟩) hHeld ?_
                simp only [List.getElem_toArray, List.getElem_cons_zero, List.getElem_cons_succ, Act.put, List.setIfInBounds_toArray, List.set_cons_zero, List.set_cons_succ]
                refine wpAnyH_take (i := 9) (v := (.int .i64 x)) rfl (by kernel_rfl) (by kernel_rfl) (by kernel_rfl) (fun _ _ _ h => h) (Or.inl ⟨by rfl, fun w hw => by have hwa := hw.a; clear hHeld HST; go_simp⟩) hHeld ?_
                simp only [List.getElem_toArray, List.getElem_cons_zero, List.getElem_cons_succ, Act.put, List.setIfInBounds_toArray, List.set_cons_zero, List.set_cons_succ]
                refine wpAnyH_take (i := 10) (v := (ofV fun q => ofB es (q : Int))) rfl (by kernel_rfl) (by kernel_rfl) (by kernel_rfl) (fun _ _ _ h => h) (yieldsIf_load_mid (by rfl) _ _ rfl w2.heap.size 0 rfl [.int .i64 (ofB es ((0 : Nat) : Int)), .int .i64 (ofB es ((1 : Nat) : Int)), .int .i64 (ofB es ((2 : Nat) : Int)), .int .i64 (ofB es ((3 : Nat) : Int))] _ (fun w hw => hw.b) Try.underlying84 rfl Try.size84) hHeld ?_
                simp only [List.getElem_toArray, List.getElem_cons_zero, List.getElem_cons_succ, Act.put, List.setIfInBounds_toArray, List.set_cons_zero, List.set_cons_succ]
                refine wpAnyH_call 11 _ (by kernel_rfl) rfl rfl 41 #[.pointer (some ⟨b, 0, none⟩), .slice ma ms.length mcap, .slice (some ⟨lb, 0, none⟩) (readyTo S p 4).length lcap, .int .i64 x, ofV fun q => ofB es (q : Int)] (by go_simp) _ (next_any p w1.heap.size w2.heap.size b ms ma mcap (some ⟨lb, 0, none⟩) lcap x (fun q => ofB es (q : Int)) S es _ (HP2.out.below HX5.out.bl2.drew) HS.out HX5.out.bl2.size (IntsIn.below (ints_of_owns HX5.out.own) (Below.refl _ _).drew) (IntsIn.below HL5.out (Below.refl _ _).drew) HX5.out.fol hpos HIN.out hm10 HX5.out.nil (fun hn q hq => by
                  have h1 := (follow_len HX5.out.fol).2.1
                  rw [hn] at h1
                  rw [List.length_eq_zero_iff.1 h1]; rfl)) ?_
                rintro e w6 ⟨hb6', hnx⟩
                have hb6 : Below wr.heap.size wr w6 := (Below.refl _ _).drew.trans (hb6'.mono (Nat.le_refl _))
                have HX6 : Hid (SerAt p w2 w6 ms ma mcap S es) := HX5.out.below hb6
                have hS6 : SerT g (o + kk) w2.heap.size x (fun q => ofB es (q : Int)) w6 := ⟨(hb6.cell (p := ⟨g, o + kk, none⟩) (Nat.lt_of_lt_of_le hg HBX.out.size)).trans HST.out.a, HX6.out.range⟩
                clear hb6 hb6'
                rcases hnx with rfl | ⟨q, bk, S2, ev, hq4, rfl, hst, hbk, hcond⟩
                · refine ⟨_, rfl, hS6, ?_⟩
                  simp only [List.getElem_toArray, List.getElem_cons_zero, List.getElem_cons_succ, Act.put, List.setIfInBounds_toArray, List.set_cons_zero, List.set_cons_succ]
                  refine wpAnyH_take (i := 12) (v := (.tuple #[.int .i64 (-1), .int .i64 (-1)])) rfl (by kernel_rfl) (by kernel_rfl) (by kernel_rfl) (fun _ _ _ h => h) (Or.inl ⟨by rfl, fun _ _ => rfl⟩) hS6 ?_
                  simp only [List.getElem_toArray, List.getElem_cons_zero, List.getElem_cons_succ, Act.put, List.setIfInBounds_toArray, List.set_cons_zero, List.set_cons_succ]
                  refine wpAnyH_take (i := 13) (v := (.int .i64 (-1))) rfl (by kernel_rfl) (by kernel_rfl) (by kernel_rfl) (fun _ _ _ h => h) (Or.inl ⟨by rfl, fun _ _ => by go_simp⟩) hS6 ?_
                  simp only [List.getElem_toArray, List.getElem_cons_zero, List.getElem_cons_succ, Act.put, List.setIfInBounds_toArray, List.set_cons_zero, List.set_cons_succ]
                  refine wpAnyH_take (i := 14) (v := (.int .i64 (-1))) rfl (by kernel_rfl) (by kernel_rfl) (by kernel_rfl) (fun _ _ _ h => h) (Or.inl ⟨by rfl, fun _ _ => by go_simp⟩) hS6 ?_
                  simp only [List.getElem_toArray, List.getElem_cons_zero, List.getElem_cons_succ, Act.put, List.setIfInBounds_toArray, List.set_cons_zero, List.set_cons_succ]
                  refine wpAnyH_take (i := 15) (v := (.int .i64 (-1))) rfl (by kernel_rfl) (by kernel_rfl) (by kernel_rfl) (fun _ _ _ h => h) (Or.inl ⟨by rfl, fun _ _ => rfl⟩) hS6 ?_
                  simp only [List.getElem_toArray, List.getElem_cons_zero, List.getElem_cons_succ, Act.put, List.setIfInBounds_toArray, List.set_cons_zero, List.set_cons_succ]
                  refine wpAnyH_take (i := 16) (v := (.int .i64 (-1))) rfl (by kernel_rfl) (by kernel_rfl) (by kernel_rfl) (fun _ _ _ h => h) (Or.inl ⟨by rfl, fun _ _ => rfl⟩) hS6 ?_
                  simp only [List.getElem_toArray, List.getElem_cons_zero, List.getElem_cons_succ, Act.put, List.setIfInBounds_toArray, List.set_cons_zero, List.set_cons_succ]
                  refine wpAnyH_done (by kernel_rfl) ?_ _
                  have HX : Hid (SerAt p w2 w6 ms ma mcap S es) := HX6
                  clear hS6 HX6 hHeld HST HX5 HL5
                  generalize ofV (fun q => ofB es (q : Int)) = vo
                  go_wp2_with fail
                  refine (events_any p w1.heap.size w2.heap.size b ms ma mcap _ (HP2.out.below HX.out.bl2) HS.out HX.out.bl2.size (ints_of_owns HX.out.own) HX.out.sh).mono ?_
                  rintro e wa hev
                  unfold EventsSays at hev
                  rw [HX.out.fol] at hev
                  obtain ⟨hba, fa, fcap, rfl, hoa⟩ := hev
                  have HEA : Hid (EvsIn wa fa es) := evs_of_owns hoa
                  have HXA : Hid (SerAt p w2 wa ms ma mcap S es) := HX.out.below hba
                  clear hba hoa HX
                  go_wp2_with fail
                  refine (together_any es fa fcap _ HEA.out HXA.out.tog (by have h1 := (follow_len HXA.out.fol).2.1; have h2 := HXA.out.ten; omega)).mono ?_
                  rintro e wb ⟨rfl, hbb⟩
                  have HXB : Hid (SerAt p w2 wb ms ma mcap S es) := HXA.out.below hbb
                  have HCY : Hid (cycleOf es = []) := together_cycle HXA.out.tog
                  clear hbb HXA HEA
                  go_wp2_with fail
                  refine (progCycle_any p w1.heap.size w2.heap.size b ms ma mcap _ (HP2.out.below HXB.out.bl2) HS.out HXB.out.bl2.size (ints_of_owns HXB.out.own) HXB.out.sh).mono ?_
                  rintro e wc hcs
                  unfold CycleSays at hcs
                  rw [HXB.out.fol] at hcs
                  obtain ⟨hbc, v, rfl, ca, ccap, rfl, -, -⟩ := hcs
                  rw [HCY.out]
                  go_wp2
                  go_ret
                  exact ⟨rfl, HB2.out.trans ((HXB.out.bl2.trans (hbc.mono HXB.out.bl2.size)).mono HB2.out.size)⟩
                · refine ⟨_, rfl, hS6, ?_⟩
                  simp only [List.getElem_toArray, List.getElem_cons_zero, List.getElem_cons_succ, Act.put, List.setIfInBounds_toArray, List.set_cons_zero, List.set_cons_succ]
                  refine wpAnyH_take (i := 12) (v := (.tuple #[.int .i64 (q : Int), .int .i64 bk])) rfl (by kernel_rfl) (by kernel_rfl) (by kernel_rfl) (fun _ _ _ h => h) (Or.inl ⟨by rfl, fun _ _ => rfl⟩) hS6 ?_
                  simp only [List.getElem_toArray, List.getElem_cons_zero, List.getElem_cons_succ, Act.put, List.setIfInBounds_toArray, List.set_cons_zero, List.set_cons_succ]
                  refine wpAnyH_take (i := 13) (v := (.int .i64 (q : Int))) rfl (by kernel_rfl) (by kernel_rfl) (by kernel_rfl) (fun _ _ _ h => h) (Or.inl ⟨by rfl, fun _ _ => by go_simp⟩) hS6 ?_
                  simp only [List.getElem_toArray, List.getElem_cons_zero, List.getElem_cons_succ, Act.put, List.setIfInBounds_toArray, List.set_cons_zero, List.set_cons_succ]
                  refine wpAnyH_take (i := 14) (v := (.int .i64 bk)) rfl (by kernel_rfl) (by kernel_rfl) (by kernel_rfl) (fun _ _ _ h => h) (Or.inl ⟨by rfl, fun _ _ => by go_simp⟩) hS6 ?_
                  simp only [List.getElem_toArray, List.getElem_cons_zero, List.getElem_cons_succ, Act.put, List.setIfInBounds_toArray, List.set_cons_zero, List.set_cons_succ]
                  refine wpAnyH_take (i := 15) (v := (.int .i64 (q : Int))) rfl (by kernel_rfl) (by kernel_rfl) (by kernel_rfl) (fun _ _ _ h => h) (Or.inl ⟨by rfl, fun _ _ => rfl⟩) hS6 ?_
                  simp only [List.getElem_toArray, List.getElem_cons_zero, List.getElem_cons_succ, Act.put, List.setIfInBounds_toArray, List.set_cons_zero, List.set_cons_succ]
                  refine wpAnyH_take (i := 16) (v := (.int .i64 bk)) rfl (by kernel_rfl) (by kernel_rfl) (by kernel_rfl) (fun _ _ _ h => h) (Or.inl ⟨by rfl, fun _ _ => rfl⟩) hS6 ?_
                  simp only [List.getElem_toArray, List.getElem_cons_zero, List.getElem_cons_succ, Act.put, List.setIfInBounds_toArray, List.set_cons_zero, List.set_cons_succ]
                  refine wpAnyH_done (by kernel_rfl) ?_ _
                  obtain ⟨es2, hf2, hT2, ho2⟩ := serial_step HCP.out HX6.out.fol hst HX6.out.tog (by rw [hbk]; exact hcond)
                  have HF2 : Hid _ := hf2
                  have HT2 : Hid _ := hT2
                  have HO2 : Hid (∀ u, ofB es2 u = if u = (q : Int) then bk else ofB es u) := fun u => by rw [ho2 u, hbk]
                  have hzw : w2.heap.size < w6.heap.size := HX6.out.lt
                  have hq0 : ¬ (q : Int) < 0 := by omega
                  have hq4' : (q : Int) < 4 := by omega
                  have hq0' : (0 : Int) ≤ (q : Int) := by omega
                  clear hS6 hHeld HST HX5 HL5 hst hbk hcond hf2 hT2 ho2
                  generalize ofV (fun q => ofB es (q : Int)) = vo
                  go_upto_region 26 with (first | (refine wpList_append_lies _ rfl _ _ _ rfl (w2.heap.size + 1) 3 i0 _ 1 8 Try.underlying40 hi0 hz0 hz1 hz2 rfl (by omega) (.slice ma ms.length mcap) ms.length (intCells ms) rfl (HX6.out.own.alloc _) ⟨w6.heap.size, 0, none⟩ 1 1 [Value.int .i64 (q : Int)] rfl rfl (World.news_of_block (cs := #[Value.int .i64 (q : Int)]) (t := 3) (fr := (0, 0)) (heap_alloc_new w6 _)) (by simp [Value.oneCell']) (by omega) (by unfold maxLen; omega) (by omega) (by simp; omega) (w6.heap.size + 1) (by simp) ?_; intro gg cap1 w7 hown hgrow hat hlt7))
                  have HB7 : Hid (Below (w2.heap.size + 1) w6 w7) := Below.grown ((Below.refl (w2.heap.size + 1) w6).alloc (by omega) _) hgrow (by simp; omega) (fun y hy => (HX6.out.own.lt y hy).1)
                  have HO7 : Hid (w7.ownsRow (w2.heap.size + 1) 3 1 (.slice (some ⟨gg, 0, none⟩) (ms ++ [(q : Int)]).length cap1) (ms ++ [(q : Int)]).length (intCells (ms ++ [(q : Int)]))) := by show World.ownsRow _ _ _ _ _ _ _; simpa [intCells] using hown
                  have d0 := (HB7.out.cell (p := ⟨w2.heap.size, q, none⟩) (Nat.lt_succ_self _)).trans (HX6.out.at_ q hq4)
                  have f0 := (HB7.out.frozen (p := ⟨w2.heap.size, q, none⟩) (Nat.lt_succ_self _)).trans (HX6.out.fr q)
                  have HD0 : Hid (w7.cell? ⟨w2.heap.size, q, none⟩ = some (.int .i64 (ofB es (q : Int)))) := d0
                  clear hown hgrow hat
                  go_wp2
                  go_roundw
                  case rel =>
                    refine ⟨ms ++ [(q : Int)], some ⟨gg, 0, none⟩, cap1, S2, es2, by simp only [List.length_append, List.length_singleton]; exact h9, by simp, by first | go_num | simp, ?_⟩
                    show SerAt _ _ _ _ _ _ _ _
                    have hlt8 : w2.heap.size < w7.heap.size := Nat.lt_of_lt_of_le hzw HB7.out.size
                    refine ⟨ownsRow_setCell_below HO7.out (Nat.lt_succ_self _) _, (HX6.out.bl2.trans (HB7.out.mono (Nat.le_succ _))).setCell (Nat.le_refl _) _, HF2.out, fun e => by simp at e, HT2.out, fun u hu => ?_, fun u => ?_, by rw [World.size_setCell]; exact hlt8, by simp only [List.length_append, List.length_singleton]; exact h9⟩
                    · rw [HO2.out]
                      by_cases huq : u = q
                      · subst huq
                        rw [if_pos rfl]
                        simp [World.cell?_setCell_same', HD0.out]
                      · rw [if_neg (by omega), World.cell?_setCell_other _ _ _ _ (by simp [])]
                        exact (HB7.out.cell (p := ⟨w2.heap.size, u, none⟩) (Nat.lt_succ_self _)).trans (HX6.out.at_ u hu)
                    · rw [World.frozen?_setCell]
                      exact (HB7.out.frozen (p := ⟨w2.heap.size, u, none⟩) (Nat.lt_succ_self _)).trans (HX6.out.fr u)
                  case measure => simp [intOf]; omega
        · have hr0' : decide ((0 : Int) < (rs.length : Int)) = false := decide_eq_false (by omega)
          go_wp2_with fail
          refine (events_any p w1.heap.size w2.heap.size b ms ma mcap _ (HP2.out.below HX.out.bl2) HS.out HX.out.bl2.size (ints_of_owns HX.out.own) HX.out.sh).mono ?_
          rintro e wa hev
          unfold EventsSays at hev
          rw [HX.out.fol] at hev
          obtain ⟨hba, fa, fcap, rfl, hoa⟩ := hev
          have HEA : Hid (EvsIn wa fa es) := evs_of_owns hoa
          have HXA : Hid (SerAt p w2 wa ms ma mcap S es) := HX.out.below hba
          clear hba hoa HX
          go_wp2_with fail
          refine (together_any es fa fcap _ HEA.out HXA.out.tog (by have h1 := (follow_len HXA.out.fol).2.1; have h2 := HXA.out.ten; omega)).mono ?_
          rintro e wb ⟨rfl, hbb⟩
          have HXB : Hid (SerAt p w2 wb ms ma mcap S es) := HXA.out.below hbb
          have HCY : Hid (cycleOf es = []) := together_cycle HXA.out.tog
          clear hbb HXA HEA
          go_wp2_with fail
          refine (progCycle_any p w1.heap.size w2.heap.size b ms ma mcap _ (HP2.out.below HXB.out.bl2) HS.out HXB.out.bl2.size (ints_of_owns HXB.out.own) HXB.out.sh).mono ?_
          rintro e wc hcs
          unfold CycleSays at hcs
          rw [HXB.out.fol] at hcs
          obtain ⟨hbc, v, rfl, ca, ccap, rfl, -, -⟩ := hcs
          rw [HCY.out]
          go_wp2
          go_ret
          exact ⟨rfl, HB2.out.trans ((HXB.out.bl2.trans (hbc.mono HXB.out.bl2.size)).mono HB2.out.size)⟩

end Go.Proofs.Ytfdafcnfefbcbaa
