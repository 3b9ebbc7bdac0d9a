/-
  The law Traced: its walk.
-/
import Derived.Test.YtfdafcnfefbcbaaTracedSt
import Derived.Test.YtfdafcnfefbcbaaReadied
namespace Go.Proofs.Ytfdafcnfefbcbaa
open Go.RowKit
set_option linter.unusedVariables false

set_option maxRecDepth 100000 in
set_option maxHeartbeats 1000000 in
theorem given2_any (os : List Raw) (a : Option Addr) (cap : Nat) (w : World) (hr : RawsIn w a os) (hl : os.length ≤ 140737488351232) :
    Calls Try.prog 24 #[.slice a os.length cap] w fun e w' => (∃ b p, e = .returned (.tuple #[.pointer (some ⟨b, 0, none⟩), .bool true]) ∧ ProgIn w' w.heap.size w'.heap.size b p ∧ Tiny p ∧ Pl.countShared p ≤ 10 ∧ Names p) ∧ Below w.heap.size w w' := by
  have HR : Hid _ := hr
  clear hr
  go_enter Try.func24, Try.ntmps24
  go_wp2_with fail
  refine (text_any os a cap _ HR.out hl).mono ?_
  rintro e w1 ⟨⟨s, rfl, hs⟩, hb1⟩
  have hla : lastTo (txAll os) 4 < 4 := by
    unfold lastTo lastTo lastTo lastTo lastTo
    repeat' split
    all_goals omega
  obtain ⟨p, hp⟩ := join_new (txAll_ok os) _ hla
  have hz : s.size ≤ 100 := by
    have h1 := bytesOf_length s
    have h2 := (join_bounds (txAll_ok os) _ hla).1
    rw [hs] at h1
    omega
  rw [← hs] at hp
  have HP : Hid _ := hp
  have HB1 : Hid _ := hb1
  clear hla hs hp hb1
  go_wp2_with fail
  refine (new_any s _ (by unfold maxLen; omega)).mono ?_
  rintro e w2 hn
  have hb2 := HB1.out.trans (hn.1.mono HB1.out.size)
  rw [HP.out] at hn
  obtain ⟨h1, b, rfl, h2⟩ := hn
  have H2 : Hid _ := h2
  have HZ : Hid _ := HB1.out.size
  have HB2 : Hid _ := hb2
  clear h1 h2 hb2
  go_wp2
  go_ret2
  refine ⟨⟨b, p, rfl, ?_, new_tiny (bytesOf_lt _) HP.out, new_count HP.out, new_names HP.out⟩, HB2.out⟩
  obtain ⟨g1, g2, a', cap', g3, g4⟩ := H2.out
  exact ⟨Nat.le_trans HZ.out g1, g2, a', cap', g3, g4.mono HZ.out (Nat.le_refl _)⟩


theorem eq_vars (a b c d : Int) (w : World) : (Op.equalIn 10000 57 (.agg #[.int .i16 a, .int .i16 b, .int .i16 c, .int .i16 d]) (.agg #[.int .i16 a, .int .i16 b, .int .i16 c, .int .i16 d])).run Try.prog w = .ok true w := by
  have u3 := Try.underlying55
  have a3 := Try.isAgg55
  have z3 := Try.sizeOf55
  rw [show (10000 : Nat) = 9999 + 1 from rfl, Op.equalIn]
  simp only [Sem.run_bind, run_underlying Try.underlying57, Result.andThen_ok]
  simp only [Std.Legacy.Range.forIn_eq_forIn_range', Std.Legacy.Range.size, Nat.sub_zero, Nat.add_sub_cancel, Nat.div_one, List.range'_succ, List.range'_zero, List.forIn_cons, List.forIn_nil]
  go_simp

set_option maxRecDepth 100000 in
set_option maxHeartbeats 12000000 in
theorem traced_walk (os : List Raw) (rs : List Int) (a ra : Option Addr) (cap rcap : Nat) (w : World) (h : RawArgs w a os ra rs) :
    Calls Try.prog 8 #[.slice a os.length cap, .slice ra rs.length rcap] w fun e w' => e = .returned (.bool true) ∧ Below w.heap.size w w' := by
  have HH : Hid _ := h
  clear h
  go_enter Try.func8, Try.ntmps8
  go_wp2_with fail
  refine (sure_any _).mono ?_
  rintro e w1 ⟨rfl, hb1⟩
  go_wp2_with fail
  refine (given2_any os a cap _ (HH.out.ops.below hb1) HH.out.lenO).mono ?_
  rintro e w2 ⟨⟨b, p, rfl, hp2, hs, hc10, hnm⟩, hb2⟩
  have HB2 : Hid (Below w.heap.size w w2) := hb1.trans (hb2.mono hb1.size)
  have HP2 : Hid (ProgIn w2 w1.heap.size w2.heap.size b p) := hp2
  have HS : Hid _ := hs
  have HC : Hid _ := hc10
  have HNM : Hid _ := hnm
  clear hb1 hb2 hp2 hs hc10 hnm
  go_wp2_with fail
  refine (line_any p w1.heap.size w2.heap.size b rs ra rcap _ HP2.out HS.out HC.out (Nat.le_refl _) (NumsIn.below HH.out.nums HB2.out) HH.out.lenR).mono ?_
  rintro e w3 ⟨ms, ma, mcap, S, es, rfl, hl3⟩
  have HL3 : Hid _ := hl3
  have HP3 : Hid (ProgIn w3 w1.heap.size w2.heap.size b p) := HP2.out.below hl3.bl
  have HLEN : Hid _ := follow_len hl3.fol
  clear hl3
  go_wp2_with fail
  refine (events_any p w1.heap.size w2.heap.size b ms ma mcap _ HP3.out HS.out HL3.out.bl.size (ints_of_owns HL3.out.own) (by have := HLEN.out.2.2; have := HC.out; unfold maxLen; omega)).mono ?_
  rintro e w4 hev
  unfold EventsSays at hev
  rw [HL3.out.fol] at hev
  obtain ⟨hb4, ea, ecap, rfl, ho4⟩ := hev
  have HB4 : Hid (Below w3.heap.size w3 w4) := hb4
  have HO4 : Hid _ := ho4
  clear hb4 ho4
  have HP4 : Hid (ProgIn w4 w1.heap.size w2.heap.size b p) := HP3.out.below (HB4.out.mono HL3.out.bl.size)
  go_wp2_with fail
  refine (play_any p w1.heap.size w2.heap.size b ms ma mcap _ HP4.out HS.out (Nat.le_trans HL3.out.bl.size HB4.out.size) (ints_of_owns ((ownsRow_in HL3.out.own).below HB4.out).1) (by have := HLEN.out.2.2; have := HC.out; unfold maxLen; omega)).mono ?_
  rintro e w5 ⟨rfl, hb5⟩
  have hpv : playV p ms = .tuple #[resV (endOf S p) S.v0 S.v1 S.v2 S.v3, .int .i64 0] := by unfold playV; rw [HL3.out.fol]
  rw [hpv]
  unfold resV
  have HB5 : Hid _ := hb5
  have hel : Hid _ := HLEN.out.2.1
  clear hb5 hpv
  go_upto_region 8 with fail
  have HBX : Hid (Below w5.heap.size w5 (w5.alloc (.cells #[.int .u8 (endOf S p : Int), .int .i16 S.v0, .int .i16 S.v1, .int .i16 S.v2, .int .i16 S.v3] 59))) := (Below.refl _ _).alloc (Nat.le_refl _) _
  have r0 : (w5.alloc (.cells #[.int .u8 (endOf S p : Int), .int .i16 S.v0, .int .i16 S.v1, .int .i16 S.v2, .int .i16 S.v3] 59)).cell? ⟨w5.heap.size, 0, none⟩ = some (.int .u8 (endOf S p : Int)) := by simp
  have r1 : (w5.alloc (.cells #[.int .u8 (endOf S p : Int), .int .i16 S.v0, .int .i16 S.v1, .int .i16 S.v2, .int .i16 S.v3] 59)).cell? ⟨w5.heap.size, 1, none⟩ = some (.int .i16 S.v0) := by simp
  have r2 : (w5.alloc (.cells #[.int .u8 (endOf S p : Int), .int .i16 S.v0, .int .i16 S.v1, .int .i16 S.v2, .int .i16 S.v3] 59)).cell? ⟨w5.heap.size, 2, none⟩ = some (.int .i16 S.v1) := by simp
  have r3 : (w5.alloc (.cells #[.int .u8 (endOf S p : Int), .int .i16 S.v0, .int .i16 S.v1, .int .i16 S.v2, .int .i16 S.v3] 59)).cell? ⟨w5.heap.size, 3, none⟩ = some (.int .i16 S.v2) := by simp
  have r4 : (w5.alloc (.cells #[.int .u8 (endOf S p : Int), .int .i16 S.v0, .int .i16 S.v1, .int .i16 S.v2, .int .i16 S.v3] 59)).cell? ⟨w5.heap.size, 4, none⟩ = some (.int .i16 S.v3) := by simp
  have HZX : Hid ((w5.alloc (.cells #[.int .u8 (endOf S p : Int), .int .i16 S.v0, .int .i16 S.v1, .int .i16 S.v2, .int .i16 S.v3] 59)).heap.size = w5.heap.size + 1) := by show _ = _; simp
  generalize (w5.alloc (.cells #[.int .u8 (endOf S p : Int), .int .i16 S.v0, .int .i16 S.v1, .int .i16 S.v2, .int .i16 S.v3] 59)) = X at *
  have HB4X : Hid (Below w4.heap.size w4 X) := HB5.out.trans (HBX.out.mono HB5.out.size)
  have HOX : Hid (X.ownsRow w3.heap.size 70 6 (.slice ea es.length ecap) es.length (evCells es)) := ((ownsRow_in HO4.out).below HB4X.out).1
  have HB3X : Hid (Below w3.heap.size w3 X) := HB4.out.trans (HB4X.out.mono HB4.out.size)
  have HMX : Hid (X.ownsRow w2.heap.size 3 1 (.slice ma ms.length mcap) ms.length (intCells ms)) := ((ownsRow_in HL3.out.own).below HB3X.out).1
  have HB2X : Hid (Below w2.heap.size w2 X) := HL3.out.bl.trans (HB3X.out.mono HL3.out.bl.size)
  have HBW : Hid (Below w.heap.size w X) := HB2.out.trans (HB2X.out.mono HB2.out.size)
  have HFOL : Hid _ := HL3.out.fol
  have R0 : Hid _ := r0
  have R1 : Hid _ := r1
  have R2 : Hid _ := r2
  have R3 : Hid _ := r3
  have R4 : Hid _ := r4
  clear HO4 HB4 HB5 HBX HB4X HP4 HP3 HP2 HB3X r0 r1 r2 r3 r4
  rw [hel.out]
  have hm10 : ms.length ≤ 10 := by have := HLEN.out.2.2; have := HC.out; omega
  obtain ⟨hrunAll, tl, htl, htlen, hev⟩ := follow_events p ms _ _ _ _ _ HFOL.out
  rw [List.nil_append] at htl
  subst htl
  have HRUN : Hid _ := hrunAll
  have HEV : Hid _ := hev
  clear hrunAll htlen hev
  go_wp2_with fail
  go_loopw [17] (fun v17 wr => ∃ (i : Nat) (Si : St) (g : Nat → Bool), i ≤ ms.length ∧ v17 = .int .i64 (i : Int) ∧ Hid (runSt p (beginTo p 4) (ms.take i) = some Si ∧ TrAt X wr Si g)) (fun v17 _ => ms.length - (intOf v17).toNat)
  case atStart =>
    refine ⟨0, beginTo p 4, fun _ => false, Nat.zero_le _, rfl, ?_⟩
    show _ ∧ _
    refine ⟨rfl, ⟨fun i hi => ?_, fun t k ht hk => ?_, fun t ht => ?_, fun t ht h => (by cases h), three_new X _ _ _, by simp⟩⟩
    · have : i = 0 ∨ i = 1 ∨ i = 2 ∨ i = 3 := by omega
      refine ⟨?_, ?_⟩
      · rw [World.cell?_alloc_past _ _ _ (by simp; omega), World.cell?_alloc_past _ _ _ (by simp)]
        rcases this with rfl | rfl | rfl | rfl <;> simp <;> rfl
      · rw [World.frozen?_of_block (w := (X.alloc _).alloc _) (Below.heap_alloc _ _ _ (by simp; omega)), World.frozen?_of_block (w := X.alloc _) (Below.heap_alloc _ _ _ (by simp)), World.frozen?_alloc_at _ _ _ _ rfl]
    · have hz : ((beginTo p 4).th t).held k = 0 := by
        have h2 : t = 0 ∨ t = 1 ∨ t = 2 ∨ t = 3 := by omega
        have e : (beginTo p 4).th t = settle (rowOf p t) ((rowOf p t).length + 1) th0 := by rcases h2 with rfl | rfl | rfl | rfl <;> rfl
        rw [e]
        have := settle_held (rowOf p t) ((rowOf p t).length + 1) th0
        unfold Th.held
        split
        · exact this.1
        · exact this.2
      simp only [hz]
      have h2 : t * 2 + k = 0 ∨ t * 2 + k = 1 ∨ t * 2 + k = 2 ∨ t * 2 + k = 3 ∨ t * 2 + k = 4 ∨ t * 2 + k = 5 ∨ t * 2 + k = 6 ∨ t * 2 + k = 7 := by omega
      refine ⟨?_, ?_⟩
      · rw [World.cell?_alloc_past _ _ _ (by simp)]
        rcases h2 with h2 | h2 | h2 | h2 | h2 | h2 | h2 | h2 <;> rw [h2] <;> simp [go_sem]
      · rw [World.frozen?_of_block (w := (X.alloc _).alloc _) (Below.heap_alloc _ _ _ (by simp)), World.frozen?_alloc_at _ _ _ _ (by simp)]
    · have : t = 0 ∨ t = 1 ∨ t = 2 ∨ t = 3 := by omega
      refine ⟨?_, by rw [World.frozen?_alloc_at _ _ _ _ (by simp)]⟩
      rcases this with rfl | rfl | rfl | rfl <;> simp [go_sem]
  case round =>
    obtain ⟨i, Si, g, hi, rfl, H1⟩ := hrel
    by_cases hlt : i < ms.length
    · have hie : i < es.length := by have := hel.out; omega
      obtain ⟨m, Si0, Si', ev, hm, hrun, hstep, hrun', he⟩ := HEV.out i es[i] (List.getElem?_eq_getElem hie)
      obtain rfl : Si0 = Si := by rw [H1.out.1] at hrun; simpa using hrun.symm
      have hok := run_ok p _ _ _ (begin_ok p) H1.out.1
      obtain ⟨n, o, rfl, hn, t0, t1, t2, t3, rfl, hsh, hin, hnf, hlk⟩ := step_tells hok HNM.out hstep
      obtain ⟨eb, rfl, -, heb, -, -, hec, -⟩ := owns_cells HOX.out (by omega)
      obtain ⟨mb, rfl, -, hmb, -, -, hmc, -⟩ := owns_cells HMX.out (by omega)
      obtain ⟨x0, x1, x2, x3, x4, x5⟩ := evCells_at es i es[i] (List.getElem?_eq_getElem hie)
      have hm1 : wr.cell? ⟨mb, i, none⟩ = some (.int .i64 (n : Int)) := (H1.out.2.bl.cell (p := ⟨mb, i, none⟩) hmb).trans (hmc i _ (by simp [intCells, hm]))
      generalize es[i] = ee at *
      obtain ⟨e0, e1, e2, e3, e4, e5⟩ := ee
      simp only [Ev.mk.injEq, and_true] at he
      obtain ⟨g0, g1, g2, g3, g4⟩ := he
      rw [t0] at g0
      rw [t1] at g1
      rw [t2] at g2
      rw [t3] at g3
      subst g0 g1 g2 g3 g4
      have c0 := (H1.out.2.bl.cell (p := ⟨eb, i * 6, none⟩) heb).trans (hec _ _ x0)
      have c1 := (H1.out.2.bl.cell (p := ⟨eb, i * 6 + 1, none⟩) heb).trans (hec _ _ x1)
      have c2 := (H1.out.2.bl.cell (p := ⟨eb, i * 6 + 2, none⟩) heb).trans (hec _ _ x2)
      have c3 := (H1.out.2.bl.cell (p := ⟨eb, i * 6 + 3, none⟩) heb).trans (hec _ _ x3)
      have c4 := (H1.out.2.bl.cell (p := ⟨eb, i * 6 + 4, none⟩) heb).trans (hec _ _ x4)
      have c5 := (H1.out.2.bl.cell (p := ⟨eb, i * 6 + 5, none⟩) heb).trans (hec _ _ x5)
      simp only at c0 c1 c2 c3 c4 c5
      go_upto_region 17 with fail
      have HVB : Hid (Below wr.heap.size wr (wr.alloc (.cells #[.int .i64 (n : Int), .int .u8 (o.kind : Int), .int .u8 (o.name : Int), .int .i16 (shared Si0 n o).2, .int .i64 ev.block, .int .i64 e5] 70))) := (Below.refl _ _).alloc (Nat.le_refl _) _
      have d0 : (wr.alloc (.cells #[.int .i64 (n : Int), .int .u8 (o.kind : Int), .int .u8 (o.name : Int), .int .i16 (shared Si0 n o).2, .int .i64 ev.block, .int .i64 e5] 70)).cell? ⟨wr.heap.size, 0, none⟩ = some (.int .i64 (n : Int)) := by simp
      have d1 : (wr.alloc (.cells #[.int .i64 (n : Int), .int .u8 (o.kind : Int), .int .u8 (o.name : Int), .int .i16 (shared Si0 n o).2, .int .i64 ev.block, .int .i64 e5] 70)).cell? ⟨wr.heap.size, 1, none⟩ = some (.int .u8 (o.kind : Int)) := by simp
      have d2 : (wr.alloc (.cells #[.int .i64 (n : Int), .int .u8 (o.kind : Int), .int .u8 (o.name : Int), .int .i16 (shared Si0 n o).2, .int .i64 ev.block, .int .i64 e5] 70)).cell? ⟨wr.heap.size, 2, none⟩ = some (.int .u8 (o.name : Int)) := by simp
      have d3 : (wr.alloc (.cells #[.int .i64 (n : Int), .int .u8 (o.kind : Int), .int .u8 (o.name : Int), .int .i16 (shared Si0 n o).2, .int .i64 ev.block, .int .i64 e5] 70)).cell? ⟨wr.heap.size, 3, none⟩ = some (.int .i16 (shared Si0 n o).2) := by simp
      have d4 : (wr.alloc (.cells #[.int .i64 (n : Int), .int .u8 (o.kind : Int), .int .u8 (o.name : Int), .int .i16 (shared Si0 n o).2, .int .i64 ev.block, .int .i64 e5] 70)).cell? ⟨wr.heap.size, 4, none⟩ = some (.int .i64 ev.block) := by simp
      have d5 : (wr.alloc (.cells #[.int .i64 (n : Int), .int .u8 (o.kind : Int), .int .u8 (o.name : Int), .int .i16 (shared Si0 n o).2, .int .i64 ev.block, .int .i64 e5] 70)).cell? ⟨wr.heap.size, 5, none⟩ = some (.int .i64 e5) := by simp
      have HVZ : Hid ((wr.alloc (.cells #[.int .i64 (n : Int), .int .u8 (o.kind : Int), .int .u8 (o.name : Int), .int .i16 (shared Si0 n o).2, .int .i64 ev.block, .int .i64 e5] 70)).heap.size = wr.heap.size + 1) := by show _ = _; simp
      generalize (wr.alloc (.cells #[.int .i64 (n : Int), .int .u8 (o.kind : Int), .int .u8 (o.name : Int), .int .i16 (shared Si0 n o).2, .int .i64 ev.block, .int .i64 e5] 70)) = V at *
      have HTV : Hid (TrAt X V Si0 g) := H1.out.2.below HVB.out H1.out.2.size
      have hgn : g n = false := by
        cases hg : g n with
        | false => rfl
        | true => have := H1.out.2.gf n hn hg; rw [hnf] at this; cases this
      have gc := (HTV.out.gn n hn).1
      rw [hgn] at gc
      have hm2 : V.cell? ⟨mb, i, none⟩ = some (.int .i64 (n : Int)) := (HVB.out.cell (p := ⟨mb, i, none⟩) (show mb < wr.heap.size by have := H1.out.2.bl.size; omega)).trans hm1
      have n4 : (n : Int) < 4 := by omega
      have n0 : (0 : Int) ≤ (n : Int) := by omega
      have q0 : decide ((n : Int) < 0) = false := by simp
      have q1 : decide ((4 : Int) ≤ (n : Int)) = false := by simp; omega
      have q2 : ((n : Int) != (n : Int)) = false := by simp
      have hlt' : (i : Int) < (ms.length : Int) := by omega
      have hi0 : (0 : Int) ≤ (i : Int) := by omega
      have HLE : Hid (∀ l, (Si0.th n).held l ≤ 1000) := fun l => by
        have h1 := hok n hn
        have h2 := h1.holds
        have h3 := h1.pos
        have h4 : (rowOf p (n : Int)).length ≤ 1000 := by
          rcases rowOf_mem p (n : Int) with h0 | h0
          · rw [h0]; simp
          · exact HS.out.short _ h0
        unfold Th.held
        split <;> omega
      have HNF : Hid _ := hnf
      have HSH : Hid _ := hsh
      have HIN : Hid _ := hin
      have HLK : Hid _ := hlk
      have HST : Hid _ := hstep
      have HRN : Hid _ := hrun'
      clear c0 c1 c2 c3 c4 c5 x0 x1 x2 x3 x4 x5 hec hmc hm1 hm hrun hok t0 t1 t2 t3 hnf hsh hin hlk hstep hrun' hgn
      go_wp2_with fail
      go_quiet (fail)
      have hU : Below V.heap.size V (V.drewN nq) := below_drewN (Below.refl _ _) _
      have ltV : wr.heap.size < V.heap.size := by have := HVZ.out; omega
      have u0 := (hU.cell (p := ⟨wr.heap.size, 0, none⟩) ltV).trans d0
      have u1 := (hU.cell (p := ⟨wr.heap.size, 1, none⟩) ltV).trans d1
      have u2 := (hU.cell (p := ⟨wr.heap.size, 2, none⟩) ltV).trans d2
      have u3 := (hU.cell (p := ⟨wr.heap.size, 3, none⟩) ltV).trans d3
      have u4 := (hU.cell (p := ⟨wr.heap.size, 4, none⟩) ltV).trans d4
      have u5 := (hU.cell (p := ⟨wr.heap.size, 5, none⟩) ltV).trans d5
      have HTU : Hid (TrAt X (V.drewN nq) Si0 g) := HTV.out.below hU (by have := HTV.out.size; omega)
      have HUZ : Hid (wr.heap.size < (V.drewN nq).heap.size) := Nat.lt_of_lt_of_le ltV hU.size
      have HWX : Hid (X.heap.size + 3 ≤ wr.heap.size) := H1.out.2.size
      clear hU d0 d1 d2 d3 d4 d5 gc hm2 HTV HVB
      generalize V.drewN nq = U at *
      have HF : Hid (∀ t, t < 4 → g t = true → ((goneTo p n (shared Si0 n o).1).th t).failed = true) := fun t ht h => by
        by_cases htn : t = n
        · subst htn
          have h1 := HTU.out.gf t ht h
          rw [HNF.out] at h1
          cases h1
        · rw [failed_other p Si0 n o hn t ht htn]; exact HTU.out.gf t ht h
      obtain ⟨okind, oname, oblock⟩ := o
      simp only at u1 u2
      have hkinds : okind = 114 ∨ okind = 119 ∨ okind = 108 ∨ okind = 117 := by have := HSH.out; simp only [Pl.isShared, Bool.or_eq_true, beq_iff_eq] at this; omega
      rcases hkinds with rfl | rfl | rfl | rfl
      · have hnames : oname = 97 ∨ oname = 98 ∨ oname = 99 ∨ oname = 100 := by have := HIN.out; simp [Pl.isName] at this; omega
        rcases hnames with rfl | rfl | rfl | rfl
        · obtain ⟨tv, tr, th⟩ := tells_read p Si0 n ⟨114, 97, oblock⟩ hn rfl
          have tv' : (shared Si0 n ⟨114, 97, oblock⟩).2 = Si0.var 0 := tv
          have TR : Hid _ := tr
          have TH : Hid _ := th
          have TV : Hid _ := tv'
          rw [tv'] at u3
          clear tr th tv' tv
          have s0 := (HTU.out.st 0 (by omega)).1
          go_wp2_with fail
          go_quiet (fail)
          have hU2 : Below U.heap.size U (U.drewN nq) := below_drewN (Below.refl _ _) _
          have HT2 : Hid (TrAt X (U.drewN nq) Si0 g) := HTU.out.below hU2 (by have := HTU.out.size; omega)
          have s1 := (HT2.out.st 0 (by omega)).1
          have s2 := (HT2.out.st 0 (by omega)).2
          have z2 := (hU2.cell (p := ⟨wr.heap.size, 2, none⟩) HUZ.out).trans u2
          have z3 := (hU2.cell (p := ⟨wr.heap.size, 3, none⟩) HUZ.out).trans u3
          clear hU2 u0 u1 u2 u3 u4 u5 s0
          generalize U.drewN nq = U2 at *
          go_wp2
          go_roundw
          case rel => exact ⟨i + 1, _, g, by omega, by go_num, (show Hid _ from ⟨HRN.out, HT2.out.putVar (by omega) (Si0.var 0) (fun i hi => by rw [TR.out i]; split <;> first | rfl | (rename_i hij; rw [hij])) TH.out HF.out⟩)⟩
          case measure => simp [intOf]; omega
        · obtain ⟨tv, tr, th⟩ := tells_read p Si0 n ⟨114, 98, oblock⟩ hn rfl
          have tv' : (shared Si0 n ⟨114, 98, oblock⟩).2 = Si0.var 1 := tv
          have TR : Hid _ := tr
          have TH : Hid _ := th
          have TV : Hid _ := tv'
          rw [tv'] at u3
          clear tr th tv' tv
          have s0 := (HTU.out.st 1 (by omega)).1
          go_wp2_with fail
          go_quiet (fail)
          have hU2 : Below U.heap.size U (U.drewN nq) := below_drewN (Below.refl _ _) _
          have HT2 : Hid (TrAt X (U.drewN nq) Si0 g) := HTU.out.below hU2 (by have := HTU.out.size; omega)
          have s1 := (HT2.out.st 1 (by omega)).1
          have s2 := (HT2.out.st 1 (by omega)).2
          have z2 := (hU2.cell (p := ⟨wr.heap.size, 2, none⟩) HUZ.out).trans u2
          have z3 := (hU2.cell (p := ⟨wr.heap.size, 3, none⟩) HUZ.out).trans u3
          clear hU2 u0 u1 u2 u3 u4 u5 s0
          generalize U.drewN nq = U2 at *
          go_wp2
          go_roundw
          case rel => exact ⟨i + 1, _, g, by omega, by go_num, (show Hid _ from ⟨HRN.out, HT2.out.putVar (by omega) (Si0.var 1) (fun i hi => by rw [TR.out i]; split <;> first | rfl | (rename_i hij; rw [hij])) TH.out HF.out⟩)⟩
          case measure => simp [intOf]; omega
        · obtain ⟨tv, tr, th⟩ := tells_read p Si0 n ⟨114, 99, oblock⟩ hn rfl
          have tv' : (shared Si0 n ⟨114, 99, oblock⟩).2 = Si0.var 2 := tv
          have TR : Hid _ := tr
          have TH : Hid _ := th
          have TV : Hid _ := tv'
          rw [tv'] at u3
          clear tr th tv' tv
          have s0 := (HTU.out.st 2 (by omega)).1
          go_wp2_with fail
          go_quiet (fail)
          have hU2 : Below U.heap.size U (U.drewN nq) := below_drewN (Below.refl _ _) _
          have HT2 : Hid (TrAt X (U.drewN nq) Si0 g) := HTU.out.below hU2 (by have := HTU.out.size; omega)
          have s1 := (HT2.out.st 2 (by omega)).1
          have s2 := (HT2.out.st 2 (by omega)).2
          have z2 := (hU2.cell (p := ⟨wr.heap.size, 2, none⟩) HUZ.out).trans u2
          have z3 := (hU2.cell (p := ⟨wr.heap.size, 3, none⟩) HUZ.out).trans u3
          clear hU2 u0 u1 u2 u3 u4 u5 s0
          generalize U.drewN nq = U2 at *
          go_wp2
          go_roundw
          case rel => exact ⟨i + 1, _, g, by omega, by go_num, (show Hid _ from ⟨HRN.out, HT2.out.putVar (by omega) (Si0.var 2) (fun i hi => by rw [TR.out i]; split <;> first | rfl | (rename_i hij; rw [hij])) TH.out HF.out⟩)⟩
          case measure => simp [intOf]; omega
        · obtain ⟨tv, tr, th⟩ := tells_read p Si0 n ⟨114, 100, oblock⟩ hn rfl
          have tv' : (shared Si0 n ⟨114, 100, oblock⟩).2 = Si0.var 3 := tv
          have TR : Hid _ := tr
          have TH : Hid _ := th
          have TV : Hid _ := tv'
          rw [tv'] at u3
          clear tr th tv' tv
          have s0 := (HTU.out.st 3 (by omega)).1
          go_wp2_with fail
          go_quiet (fail)
          have hU2 : Below U.heap.size U (U.drewN nq) := below_drewN (Below.refl _ _) _
          have HT2 : Hid (TrAt X (U.drewN nq) Si0 g) := HTU.out.below hU2 (by have := HTU.out.size; omega)
          have s1 := (HT2.out.st 3 (by omega)).1
          have s2 := (HT2.out.st 3 (by omega)).2
          have z2 := (hU2.cell (p := ⟨wr.heap.size, 2, none⟩) HUZ.out).trans u2
          have z3 := (hU2.cell (p := ⟨wr.heap.size, 3, none⟩) HUZ.out).trans u3
          clear hU2 u0 u1 u2 u3 u4 u5 s0
          generalize U.drewN nq = U2 at *
          go_wp2
          go_roundw
          case rel => exact ⟨i + 1, _, g, by omega, by go_num, (show Hid _ from ⟨HRN.out, HT2.out.putVar (by omega) (Si0.var 3) (fun i hi => by rw [TR.out i]; split <;> first | rfl | (rename_i hij; rw [hij])) TH.out HF.out⟩)⟩
          case measure => simp [intOf]; omega
      · have hnames : oname = 97 ∨ oname = 98 ∨ oname = 99 ∨ oname = 100 := by have := HIN.out; simp [Pl.isName] at this; omega
        rcases hnames with rfl | rfl | rfl | rfl
        · obtain ⟨tr, th⟩ := tells_write p Si0 n ⟨119, 97, oblock⟩ hn rfl
          obtain ⟨vv, tv'⟩ : ∃ vv, (shared Si0 n ⟨119, 97, oblock⟩).2 = vv := ⟨_, rfl⟩
          have TR : Hid _ := tr
          have TH : Hid _ := th
          have TV : Hid _ := tv'
          rw [tv'] at u3
          clear tr th tv'
          have s0 := (HTU.out.st 0 (by omega)).1
          go_wp2_with fail
          go_quiet (fail)
          have hU2 : Below U.heap.size U (U.drewN nq) := below_drewN (Below.refl _ _) _
          have HT2 : Hid (TrAt X (U.drewN nq) Si0 g) := HTU.out.below hU2 (by have := HTU.out.size; omega)
          have s1 := (HT2.out.st 0 (by omega)).1
          have s2 := (HT2.out.st 0 (by omega)).2
          have z2 := (hU2.cell (p := ⟨wr.heap.size, 2, none⟩) HUZ.out).trans u2
          have z3 := (hU2.cell (p := ⟨wr.heap.size, 3, none⟩) HUZ.out).trans u3
          clear hU2 u0 u1 u2 u3 u4 u5 s0
          generalize U.drewN nq = U2 at *
          go_wp2
          go_roundw
          case rel => exact ⟨i + 1, _, g, by omega, by go_num, (show Hid _ from ⟨HRN.out, HT2.out.putVar (by omega) vv (fun i hi => by rw [TR.out i hi, TV.out]; rfl) TH.out HF.out⟩)⟩
          case measure => simp [intOf]; omega
        · obtain ⟨tr, th⟩ := tells_write p Si0 n ⟨119, 98, oblock⟩ hn rfl
          obtain ⟨vv, tv'⟩ : ∃ vv, (shared Si0 n ⟨119, 98, oblock⟩).2 = vv := ⟨_, rfl⟩
          have TR : Hid _ := tr
          have TH : Hid _ := th
          have TV : Hid _ := tv'
          rw [tv'] at u3
          clear tr th tv'
          have s0 := (HTU.out.st 1 (by omega)).1
          go_wp2_with fail
          go_quiet (fail)
          have hU2 : Below U.heap.size U (U.drewN nq) := below_drewN (Below.refl _ _) _
          have HT2 : Hid (TrAt X (U.drewN nq) Si0 g) := HTU.out.below hU2 (by have := HTU.out.size; omega)
          have s1 := (HT2.out.st 1 (by omega)).1
          have s2 := (HT2.out.st 1 (by omega)).2
          have z2 := (hU2.cell (p := ⟨wr.heap.size, 2, none⟩) HUZ.out).trans u2
          have z3 := (hU2.cell (p := ⟨wr.heap.size, 3, none⟩) HUZ.out).trans u3
          clear hU2 u0 u1 u2 u3 u4 u5 s0
          generalize U.drewN nq = U2 at *
          go_wp2
          go_roundw
          case rel => exact ⟨i + 1, _, g, by omega, by go_num, (show Hid _ from ⟨HRN.out, HT2.out.putVar (by omega) vv (fun i hi => by rw [TR.out i hi, TV.out]; rfl) TH.out HF.out⟩)⟩
          case measure => simp [intOf]; omega
        · obtain ⟨tr, th⟩ := tells_write p Si0 n ⟨119, 99, oblock⟩ hn rfl
          obtain ⟨vv, tv'⟩ : ∃ vv, (shared Si0 n ⟨119, 99, oblock⟩).2 = vv := ⟨_, rfl⟩
          have TR : Hid _ := tr
          have TH : Hid _ := th
          have TV : Hid _ := tv'
          rw [tv'] at u3
          clear tr th tv'
          have s0 := (HTU.out.st 2 (by omega)).1
          go_wp2_with fail
          go_quiet (fail)
          have hU2 : Below U.heap.size U (U.drewN nq) := below_drewN (Below.refl _ _) _
          have HT2 : Hid (TrAt X (U.drewN nq) Si0 g) := HTU.out.below hU2 (by have := HTU.out.size; omega)
          have s1 := (HT2.out.st 2 (by omega)).1
          have s2 := (HT2.out.st 2 (by omega)).2
          have z2 := (hU2.cell (p := ⟨wr.heap.size, 2, none⟩) HUZ.out).trans u2
          have z3 := (hU2.cell (p := ⟨wr.heap.size, 3, none⟩) HUZ.out).trans u3
          clear hU2 u0 u1 u2 u3 u4 u5 s0
          generalize U.drewN nq = U2 at *
          go_wp2
          go_roundw
          case rel => exact ⟨i + 1, _, g, by omega, by go_num, (show Hid _ from ⟨HRN.out, HT2.out.putVar (by omega) vv (fun i hi => by rw [TR.out i hi, TV.out]; rfl) TH.out HF.out⟩)⟩
          case measure => simp [intOf]; omega
        · obtain ⟨tr, th⟩ := tells_write p Si0 n ⟨119, 100, oblock⟩ hn rfl
          obtain ⟨vv, tv'⟩ : ∃ vv, (shared Si0 n ⟨119, 100, oblock⟩).2 = vv := ⟨_, rfl⟩
          have TR : Hid _ := tr
          have TH : Hid _ := th
          have TV : Hid _ := tv'
          rw [tv'] at u3
          clear tr th tv'
          have s0 := (HTU.out.st 3 (by omega)).1
          go_wp2_with fail
          go_quiet (fail)
          have hU2 : Below U.heap.size U (U.drewN nq) := below_drewN (Below.refl _ _) _
          have HT2 : Hid (TrAt X (U.drewN nq) Si0 g) := HTU.out.below hU2 (by have := HTU.out.size; omega)
          have s1 := (HT2.out.st 3 (by omega)).1
          have s2 := (HT2.out.st 3 (by omega)).2
          have z2 := (hU2.cell (p := ⟨wr.heap.size, 2, none⟩) HUZ.out).trans u2
          have z3 := (hU2.cell (p := ⟨wr.heap.size, 3, none⟩) HUZ.out).trans u3
          clear hU2 u0 u1 u2 u3 u4 u5 s0
          generalize U.drewN nq = U2 at *
          go_wp2
          go_roundw
          case rel => exact ⟨i + 1, _, g, by omega, by go_num, (show Hid _ from ⟨HRN.out, HT2.out.putVar (by omega) vv (fun i hi => by rw [TR.out i hi, TV.out]; rfl) TH.out HF.out⟩)⟩
          case measure => simp [intOf]; omega
      · have hnames : oname = 80 ∨ oname = 81 := by have := HIN.out; simp [Pl.isName] at this; omega
        rcases hnames with rfl | rfl
        · obtain ⟨tv, tr, th⟩ := tells_lock p Si0 n ⟨108, 80, oblock⟩ hn rfl
          have TR : Hid _ := tr
          have TH : Hid _ := th
          rw [tv] at u3
          clear tr th tv
          go_wp2_with fail
          have hcall := lockStep_lock (X.heap.size + 1) (X.heap.size + 1 + 1) (fun t k => (Si0.th t).held k) g n 0 ev.block e5 U HTU.out.hd HTU.out.gn (by omega) hn (by omega) (HLE.out 0) (fun u hu hne => heldTo_false 4 (HLK.out trivial) u hu (by omega)) (by have := HTU.out.size; omega) (by have := HTU.out.size; omega)
          refine Calls.mono hcall ?_
          clear hcall
          rintro e w7 ⟨rfl, hb7, ha7, hd7, hg7⟩
          have HT7 : Hid _ := HTU.out.locks hb7 ha7 hd7 hg7 TR.out (fun t k ht hk => (TH.out t k ht hk).symm) HF.out
          clear hb7 ha7 hd7 hg7
          go_wp2
          go_roundw
          case rel => exact ⟨i + 1, _, g, by omega, by go_num, (show Hid _ from ⟨HRN.out, HT7.out⟩)⟩
          case measure => simp [intOf]; omega
        · obtain ⟨tv, tr, th⟩ := tells_lock p Si0 n ⟨108, 81, oblock⟩ hn rfl
          have TR : Hid _ := tr
          have TH : Hid _ := th
          rw [tv] at u3
          clear tr th tv
          go_wp2_with fail
          have hcall := lockStep_lock (X.heap.size + 1) (X.heap.size + 1 + 1) (fun t k => (Si0.th t).held k) g n 1 ev.block e5 U HTU.out.hd HTU.out.gn (by omega) hn (by omega) (HLE.out 1) (fun u hu hne => heldTo_false 4 (HLK.out trivial) u hu (by omega)) (by have := HTU.out.size; omega) (by have := HTU.out.size; omega)
          refine Calls.mono hcall ?_
          clear hcall
          rintro e w7 ⟨rfl, hb7, ha7, hd7, hg7⟩
          have HT7 : Hid _ := HTU.out.locks hb7 ha7 hd7 hg7 TR.out (fun t k ht hk => (TH.out t k ht hk).symm) HF.out
          clear hb7 ha7 hd7 hg7
          go_wp2
          go_roundw
          case rel => exact ⟨i + 1, _, g, by omega, by go_num, (show Hid _ from ⟨HRN.out, HT7.out⟩)⟩
          case measure => simp [intOf]; omega
      · have hnames : oname = 80 ∨ oname = 81 := by have := HIN.out; simp [Pl.isName] at this; omega
        rcases hnames with rfl | rfl
        · by_cases hp : 0 < (Si0.th n).held 0
          · obtain ⟨tv, tr, th⟩ := tells_unlock p Si0 n ⟨117, 80, oblock⟩ hn rfl hp
            have TR : Hid _ := tr
            have TH : Hid _ := th
            rw [tv] at u3
            clear tr th tv
            go_wp2_with fail
            have hcall := lockStep_unlock (X.heap.size + 1) (X.heap.size + 1 + 1) (fun t k => (Si0.th t).held k) g n 0 ev.block e5 U HTU.out.hd HTU.out.gn (by omega) hn (by omega) (HLE.out 0) hp (by have := HTU.out.size; omega) (by have := HTU.out.size; omega)
            refine Calls.mono hcall ?_
            clear hcall
            rintro e w7 ⟨rfl, hb7, ha7, hd7, hg7⟩
            have HT7 : Hid _ := HTU.out.locks hb7 ha7 hd7 hg7 TR.out (fun t k ht hk => (TH.out t k ht hk).symm) HF.out
            clear hb7 ha7 hd7 hg7
            go_wp2
            go_roundw
            case rel => exact ⟨i + 1, _, g, by omega, by go_num, (show Hid _ from ⟨HRN.out, HT7.out⟩)⟩
            case measure => simp [intOf]; omega
          · have hp0 : (Si0.th n).held 0 = 0 := by omega
            obtain ⟨tv, tr, th, tf⟩ := tells_fail p Si0 n ⟨117, 80, oblock⟩ hn rfl hp0
            have TF : Hid _ := tf
            clear tf
            skip
            have TR : Hid _ := tr
            have TH : Hid _ := th
            rw [tv] at u3
            clear tr th tv
            go_wp2_with fail
            have hcall := lockStep_fail (X.heap.size + 1) (X.heap.size + 1 + 1) (fun t k => (Si0.th t).held k) g n 0 ev.block e5 U HTU.out.hd HTU.out.gn (by omega) hn (by omega) hp0 (by have := HTU.out.size; omega) (by have := HTU.out.size; omega)
            refine Calls.mono hcall ?_
            clear hcall
            rintro e w7 ⟨rfl, hb7, ha7, hd7, hg7⟩
            have HT7 : Hid _ := HTU.out.locks hb7 ha7 hd7 hg7 TR.out (fun t k ht hk => (TH.out t k ht).symm) (fun t ht h => by by_cases htn : t = n; (subst htn; exact TF.out); (simp [htn] at h; exact HF.out t ht h))
            clear hb7 ha7 hd7 hg7
            go_wp2
            go_roundw
            case rel => exact ⟨i + 1, _, _, by omega, by go_num, (show Hid _ from ⟨HRN.out, HT7.out⟩)⟩
            case measure => simp [intOf]; omega
        · by_cases hp : 0 < (Si0.th n).held 1
          · obtain ⟨tv, tr, th⟩ := tells_unlock p Si0 n ⟨117, 81, oblock⟩ hn rfl hp
            have TR : Hid _ := tr
            have TH : Hid _ := th
            rw [tv] at u3
            clear tr th tv
            go_wp2_with fail
            have hcall := lockStep_unlock (X.heap.size + 1) (X.heap.size + 1 + 1) (fun t k => (Si0.th t).held k) g n 1 ev.block e5 U HTU.out.hd HTU.out.gn (by omega) hn (by omega) (HLE.out 1) hp (by have := HTU.out.size; omega) (by have := HTU.out.size; omega)
            refine Calls.mono hcall ?_
            clear hcall
            rintro e w7 ⟨rfl, hb7, ha7, hd7, hg7⟩
            have HT7 : Hid _ := HTU.out.locks hb7 ha7 hd7 hg7 TR.out (fun t k ht hk => (TH.out t k ht hk).symm) HF.out
            clear hb7 ha7 hd7 hg7
            go_wp2
            go_roundw
            case rel => exact ⟨i + 1, _, g, by omega, by go_num, (show Hid _ from ⟨HRN.out, HT7.out⟩)⟩
            case measure => simp [intOf]; omega
          · have hp0 : (Si0.th n).held 1 = 0 := by omega
            obtain ⟨tv, tr, th, tf⟩ := tells_fail p Si0 n ⟨117, 81, oblock⟩ hn rfl hp0
            have TF : Hid _ := tf
            clear tf
            skip
            have TR : Hid _ := tr
            have TH : Hid _ := th
            rw [tv] at u3
            clear tr th tv
            go_wp2_with fail
            have hcall := lockStep_fail (X.heap.size + 1) (X.heap.size + 1 + 1) (fun t k => (Si0.th t).held k) g n 1 ev.block e5 U HTU.out.hd HTU.out.gn (by omega) hn (by omega) hp0 (by have := HTU.out.size; omega) (by have := HTU.out.size; omega)
            refine Calls.mono hcall ?_
            clear hcall
            rintro e w7 ⟨rfl, hb7, ha7, hd7, hg7⟩
            have HT7 : Hid _ := HTU.out.locks hb7 ha7 hd7 hg7 TR.out (fun t k ht hk => (TH.out t k ht).symm) (fun t ht h => by by_cases htn : t = n; (subst htn; exact TF.out); (simp [htn] at h; exact HF.out t ht h))
            clear hb7 ha7 hd7 hg7
            go_wp2
            go_roundw
            case rel => exact ⟨i + 1, _, _, by omega, by go_num, (show Hid _ from ⟨HRN.out, HT7.out⟩)⟩
            case measure => simp [intOf]; omega
    · have hie : i = ms.length := by omega
      subst hie
      have hS : Si = S := by
        have h1 := H1.out.1
        rw [List.take_length, HRUN.out] at h1
        simpa using h1.symm
      subst hS
      have HT : Hid (TrAt X wr Si g) := H1.out.2
      have ltX : w5.heap.size < X.heap.size := by have := HZX.out; omega
      clear H1
      go_wp2_with fail
      go_loopw [20, 21] (fun v20 v21 w9 => ∃ (k : Nat) (sm : Bool), k ≤ 4 ∧ v21 = .int .i64 (k : Int) ∧ v20 = .bool sm ∧ Hid (w9 = wr ∧ ∀ u l, u < k → (l = 0 ∨ l = 1) → 0 < (Si.th u).held l → sm = true)) (fun _ v21 _ => 4 - (intOf v21).toNat)
      case atStart => exact ⟨0, false, by omega, rfl, rfl, (show Hid _ from ⟨rfl, fun u l hu => by omega⟩)⟩
      case round =>
        obtain ⟨k, sm, hk, rfl, rfl, H2⟩ := hrel
        obtain ⟨rfl, hsm⟩ := H2.out
        have HSM : Hid _ := hsm
        clear hsm H2
        by_cases hk4 : k < 4
        · have hk4' : (k : Int) < 4 := by omega
          have c0 : wr.cell? ⟨X.heap.size + 1, k * 2, none⟩ = some (.int .i64 ((Si.th k).held 0 : Int)) := (HT.out.hd k 0 hk4 (by omega)).1
          have c1 : wr.cell? ⟨X.heap.size + 1, k * 2 + 1, none⟩ = some (.int .i64 ((Si.th k).held 1 : Int)) := (HT.out.hd k 1 hk4 (by omega)).1
          cases sm
          · by_cases h0 : 0 < (Si.th k).held 0
            · have h0' : decide ((0 : Int) < ((Si.th k).held 0 : Int)) = true := by simp; omega
              go_wp2
              go_roundw
              case rel => exact ⟨k + 1, true, by omega, by go_num, rfl, (show Hid _ from ⟨by trivial, fun u l hu hl hh => rfl⟩)⟩
              case measure => simp [intOf]; omega
            · have h00 : (Si.th k).held 0 = 0 := by omega
              rw [h00] at c0
              by_cases h1 : 0 < (Si.th k).held 1
              · have h1' : decide ((0 : Int) < ((Si.th k).held 1 : Int)) = true := by simp; omega
                go_wp2
                go_roundw
                case rel => exact ⟨k + 1, true, by omega, by go_num, rfl, (show Hid _ from ⟨by trivial, fun u l hu hl hh => rfl⟩)⟩
                case measure => simp [intOf]; omega
              · have h11 : (Si.th k).held 1 = 0 := by omega
                rw [h11] at c1
                have HN : Hid (∀ u l, u < k + 1 → (l = 0 ∨ l = 1) → 0 < (Si.th u).held l → false = true) := fun u l hu hl hh => by
                  by_cases huk : u = k
                  · subst huk
                    rcases hl with rfl | rfl
                    · exact absurd hh h0
                    · exact absurd hh h1
                  · exact HSM.out u l (by omega) hl hh
                clear h0 h1 h00 h11
                go_wp2
                go_roundw
                case rel => exact ⟨k + 1, false, by omega, by go_num, rfl, (show Hid _ from ⟨by trivial, HN.out⟩)⟩
                case measure => simp [intOf]; omega
          · go_wp2
            go_roundw
            case rel => exact ⟨k + 1, true, by omega, by go_num, rfl, (show Hid _ from ⟨by trivial, fun u l hu hl hh => rfl⟩)⟩
            case measure => simp [intOf]; omega
        · have hk4' : k = 4 := by omega
          subst hk4'
          have a0 := (HT.out.st 0 (by omega)).1
          have a1 := (HT.out.st 1 (by omega)).1
          have a2 := (HT.out.st 2 (by omega)).1
          have a3 := (HT.out.st 3 (by omega)).1
          have b0 := (HT.out.bl.cell (p := ⟨w5.heap.size, 0, none⟩) ltX).trans R0.out
          have b1 : wr.cell? ⟨w5.heap.size, 1, none⟩ = some (.int .i16 (Si.var 0)) := (HT.out.bl.cell (p := ⟨w5.heap.size, 1, none⟩) ltX).trans R1.out
          have b2 : wr.cell? ⟨w5.heap.size, 2, none⟩ = some (.int .i16 (Si.var 1)) := (HT.out.bl.cell (p := ⟨w5.heap.size, 2, none⟩) ltX).trans R2.out
          have b3 : wr.cell? ⟨w5.heap.size, 3, none⟩ = some (.int .i16 (Si.var 2)) := (HT.out.bl.cell (p := ⟨w5.heap.size, 3, none⟩) ltX).trans R3.out
          have b4 : wr.cell? ⟨w5.heap.size, 4, none⟩ = some (.int .i16 (Si.var 3)) := (HT.out.bl.cell (p := ⟨w5.heap.size, 4, none⟩) ltX).trans R4.out
          have heq := eq_vars (Si.var 0) (Si.var 1) (Si.var 2) (Si.var 3)
          by_cases hst : endOf Si p = 3
          · have hst' : ((endOf Si p : Int) != 3) = false := by simp; omega
            obtain ⟨u, l, hu, hl, hh⟩ := stuck_held Si p hst
            obtain rfl : sm = true := HSM.out u l hu hl hh
            clear hst
            go_wp2
            go_ret
            exact ⟨rfl, HBW.out.trans (HT.out.bl.mono HBW.out.size)⟩
          · have hst' : ((endOf Si p : Int) != 3) = true := by simp; omega
            clear hst
            go_wp2
            go_ret
            exact ⟨rfl, HBW.out.trans (HT.out.bl.mono HBW.out.size)⟩

end Go.Proofs.Ytfdafcnfefbcbaa
