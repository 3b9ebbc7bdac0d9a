/-
  Package interleavekeep: the contract of next.
-/
import Derived.Test.YtfdafcnfefbcbaaWhole
namespace Go.Proofs.Ytfdafcnfefbcbaa
open Go.RowKit
set_option linter.unusedVariables false

/-- What next answers: none, or a thread that can step, and the block of its step, so that blocks stay side by side. -/
def NextSays (p : List (List Pl.POp)) (ms : List Int) (S : St) (o : Nat → Int) (w : World) (e : Ending) (w' : World) : Prop :=
  Below w.heap.size w w' ∧ (e = .returned (.tuple #[.int .i64 (-1), .int .i64 (-1)]) ∨ ∃ (q : Nat) (bk : Int) (S2 : St) (ev : Ev), q < 4 ∧ e = .returned (.tuple #[.int .i64 (q : Int), .int .i64 bk]) ∧ step S p (q : Int) = some (S2, ev) ∧ ev.block = bk ∧ (bk = -1 ∨ bk ≠ o q ∨ ms.getLast? = some (q : Int)))

def ofV (o : Nat → Int) : Value := .agg #[.int .i64 (o 0), .int .i64 (o 1), .int .i64 (o 2), .int .i64 (o 3)]

theorem ready_nat {S : St} {p : List (List Pl.POp)} {x : Int} (h : x ∈ readyTo S p 4) : ∃ q : Nat, x = (q : Int) ∧ q < 4 ∧ canStep S p (q : Int) = true := by
  have h1 := (mem_ready4 S p x).1 h
  have h2 := can_bound h1
  exact ⟨x.toNat, by omega, by omega, by rw [show ((x.toNat : Nat) : Int) = x by omega]; exact h1⟩

theorem last_at {ms : List Int} {n : Nat} (h : ms.length = n + 1) {y : Int} (hy : ms[n]? = some y) : ms.getLast? = some y := by
  rw [List.getLast?_eq_getElem?, h]; exact hy

set_option maxRecDepth 100000 in
set_option maxHeartbeats 4000000 in
theorem next_any (p : List (List Pl.POp)) (lo hi b : Nat) (ms : List Int) (ma : Option Addr) (mcap : Nat) (la : Option Addr) (lcap : Nat) (c : Int) (o : Nat → Int) (S : St) (es : List Ev) (w : World) (hp : ProgIn w lo hi b p) (hs : Tiny p) (hh : hi ≤ w.heap.size)
    (hm : IntsIn w ma ms) (hL : IntsIn w la (readyTo S p 4)) (hf : follow p (beginTo p 4) [] 0 ms = some (S, es)) (hpos : 0 < (readyTo S p 4).length) (hc : InI64 c) (hms : ms.length ≤ 10) (hnil : ms = [] → ma = none ∧ mcap = 0) (hof : ms = [] → ∀ q, q < 4 → o q = -1) :
    Calls Try.prog 41 #[.pointer (some ⟨b, 0, none⟩), .slice ma ms.length mcap, .slice la (readyTo S p 4).length lcap, .int .i64 c, ofV o] w fun e w' => NextSays p ms S o w e w' := by
  have HP : Hid (ProgIn w lo hi b p) := hp
  have HS : Hid _ := hs
  have HM : Hid (IntsIn w ma ms) := hm
  have HF : Hid _ := hf
  have HC : Hid (InI64 c) := hc
  have HNIL : Hid _ := hnil
  have HOF0 : Hid _ := hof
  have HESL : Hid (es.length = ms.length) := (follow_len hf).2.1
  have HRN : Hid (∀ x ∈ readyTo S p 4, ∃ q : Nat, x = (q : Int) ∧ q < 4 ∧ canStep S p (q : Int) = true) := fun x hx => ready_nat hx
  have HL : Hid (IntsIn w la (readyTo S p 4)) := hL
  have hl4 := readyTo_length S p 4
  clear hp hs hm hf hc hnil hof hL
  generalize readyTo S p 4 = L at *
  obtain ⟨i0, hi0, hz0, hz1, hz2⟩ := info_parts Try.info3
  obtain ⟨lb, rfl, hlb, hlc⟩ := HL.out hpos
  have HLC : Hid _ := hlc
  clear hlc HL
  unfold ofV
  go_enter Try.func41, Try.ntmps41
  go_upto_region 1 with fail
  have HWW : Hid (Below w.heap.size w (w.alloc (.cells #[.int .i64 (o 0), .int .i64 (o 1), .int .i64 (o 2), .int .i64 (o 3)] 84))) := (Below.refl _ _).alloc (Nat.le_refl _) _
  have HOF : Hid (∀ q, q < 4 → (w.alloc (.cells #[.int .i64 (o 0), .int .i64 (o 1), .int .i64 (o 2), .int .i64 (o 3)] 84)).cell? ⟨w.heap.size, q, none⟩ = some (.int .i64 (o q))) := fun q hq => by
    have : q = 0 ∨ q = 1 ∨ q = 2 ∨ q = 3 := by omega
    rcases this with rfl | rfl | rfl | rfl <;> simp
  have HWZ : Hid ((w.alloc (.cells #[.int .i64 (o 0), .int .i64 (o 1), .int .i64 (o 2), .int .i64 (o 3)] 84)).heap.size = w.heap.size + 1) := by show _ = _; simp
  generalize w.alloc (.cells #[.int .i64 (o 0), .int .i64 (o 1), .int .i64 (o 2), .int .i64 (o 3)] 84) = W at *
  have ltW : w.heap.size < W.heap.size := by have := HWZ.out; omega
  have hpk := pickOf_lt c (L.length : Int) (by omega)
  obtain ⟨at0, hat⟩ : ∃ k : Nat, pickOf c (L.length : Int) = (k : Int) := ⟨(pickOf c (L.length : Int)).toNat, by omega⟩
  have hat0 : at0 < L.length := by omega
  have HAT : Hid _ := hat
  clear hpk hat
  go_wp2_with fail
  refine (pick_any c (L.length : Int) _ HC.out (by omega) (by omega)).mono ?_
  rintro e w1 ⟨rfl, rfl⟩
  rw [HAT.out]
  go_wp2_with fail
  go_loopw [12, 13] (fun v12 v13 wr => ∃ (k i : Nat), k < L.length ∧ i ≤ L.length ∧ v12 = .int .i64 (k : Int) ∧ v13 = .int .i64 (i : Int) ∧ Hid (Below w1.heap.size w1 wr)) (fun _ v13 _ => L.length - (intOf v13).toNat)
  case atStart => exact ⟨at0, 0, hat0, Nat.zero_le _, rfl, rfl, (show Hid _ from Below.refl _ _)⟩
  case round =>
    obtain ⟨k, i, hk, hil, rfl, rfl, H1⟩ := hrel
    by_cases hlt : i < L.length
    · have hlt' : (i : Int) < (L.length : Int) := by omega
      have hi0' : (0 : Int) ≤ (i : Int) := by omega
      obtain ⟨q, hq, hq4, -⟩ := HRN.out L[i] (List.getElem_mem hlt)
      have c0 : wr.cell? ⟨lb, i, none⟩ = some (.int .i64 (q : Int)) := (H1.out.cell (p := ⟨lb, i, none⟩) (show lb < w1.heap.size by omega)).trans ((HWW.out.cell (p := ⟨lb, i, none⟩) hlb).trans (by rw [← hq]; exact HLC.out i _ (List.getElem?_eq_getElem hlt)))
      have c1 : wr.cell? ⟨w.heap.size, q, none⟩ = some (.int .i64 (o q)) := (H1.out.cell (p := ⟨w.heap.size, q, none⟩) ltW).trans (HOF.out q hq4)
      have hq4' : (q : Int) < 4 := by omega
      have hq0' : (0 : Int) ≤ (q : Int) := by omega
      clear hq
      by_cases hm0 : 0 < ms.length
      · obtain ⟨n, hn⟩ : ∃ n, ms.length = n + 1 := ⟨ms.length - 1, by omega⟩
        obtain ⟨mb, rfl, hmb, hmc⟩ := HM.out hm0
        have hnl : n < ms.length := by omega
        have c2 : wr.cell? ⟨mb, n, none⟩ = some (.int .i64 ms[n]) := (H1.out.cell (p := ⟨mb, n, none⟩) (show mb < w1.heap.size by omega)).trans ((HWW.out.cell (p := ⟨mb, n, none⟩) hmb).trans (hmc n _ (List.getElem?_eq_getElem hnl)))
        have hn1 : (ms.length : Int) - 1 = (n : Int) := by omega
        have hm0' : (0 : Int) < (ms.length : Int) := by omega
        have hnl' : (n : Int) < (ms.length : Int) := by omega
        have hn0' : (0 : Int) ≤ (n : Int) := by omega
        clear hmc hn
        generalize ms[n] = y at *
        cases hqy : ((q : Int) == y)
        · go_wp2_with fail
          go_quiet (fail)
          go_wp2
          go_roundw
          case rel => exact ⟨k, i + 1, hk, by omega, rfl, by go_num, (show Hid _ from below_drewN H1.out _)⟩
          case measure => simp [intOf]; omega
        · cases hoq : (o q != -1)
          · go_wp2_with fail
            go_quiet (fail)
            go_wp2
            go_roundw
            case rel => exact ⟨k, i + 1, hk, by omega, rfl, by go_num, (show Hid _ from below_drewN H1.out _)⟩
            case measure => simp [intOf]; omega
          · go_wp2_with fail
            go_quiet (fail)
            go_wp2
            go_roundw
            case rel => exact ⟨i, i + 1, hlt, by omega, rfl, by go_num, (show Hid _ from below_drewN H1.out _)⟩
            case measure => simp [intOf]; omega
      · have hm0' : decide ((0 : Int) < (ms.length : Int)) = false := decide_eq_false (by omega)
        go_wp2_with fail
        go_quiet (fail)
        go_wp2
        go_roundw
        case rel => exact ⟨k, i + 1, hk, by omega, rfl, by go_num, (show Hid _ from below_drewN H1.out _)⟩
        case measure => simp [intOf]; omega
    · have hlt' : ¬ (i : Int) < (L.length : Int) := by omega
      go_wp2_with fail
      have hk' : (k : Int) < (L.length : Int) := by omega
      go_loopw [14] (fun v14 wr => ∃ i : Nat, i ≤ L.length ∧ v14 = .int .i64 (i : Int) ∧ Hid (Below w1.heap.size w1 wr)) (fun v14 _ => L.length - (intOf v14).toNat)
      case atStart => exact ⟨0, Nat.zero_le _, rfl, (show Hid _ from H1.out)⟩
      case round =>
        clear H1 hil hlt hlt'
        obtain ⟨i, hil, rfl, H1⟩ := hrel
        by_cases hlt : i < L.length
        · have hlt' : (i : Int) < (L.length : Int) := by omega
          have hi0' : (0 : Int) ≤ (i : Int) := by omega
          have hkk : (k + i) % L.length < L.length := Nat.mod_lt _ (by omega)
          obtain ⟨q, hq, hq4, hcan⟩ := HRN.out L[(k + i) % L.length] (List.getElem_mem hkk)
          have c0 : wr.cell? ⟨lb, (k + i) % L.length, none⟩ = some (.int .i64 (q : Int)) := (H1.out.cell (p := ⟨lb, (k + i) % L.length, none⟩) (show lb < w1.heap.size by omega)).trans ((HWW.out.cell (p := ⟨lb, (k + i) % L.length, none⟩) hlb).trans (by rw [← hq]; exact HLC.out _ _ (List.getElem?_eq_getElem hkk)))
          have hmod : ((k : Int) + (i : Int)) % (L.length : Int) = (((k + i) % L.length : Nat) : Int) := by simp
          have hkk' : (((k + i) % L.length : Nat) : Int) < (L.length : Int) := by omega
          have hkk0 : (0 : Int) ≤ (((k + i) % L.length : Nat) : Int) := by omega
          have hLz : ((L.length : Int) == 0) = false := by rw [beq_eq_false_iff_ne]; omega
          have hq4' : (q : Int) < 4 := by omega
          have hq0' : (0 : Int) ≤ (q : Int) := by omega
          have hst := step_iff S p (q : Int)
          rw [hcan] at hst
          obtain ⟨⟨S2, ev⟩, hst2⟩ := Option.isSome_iff_exists.1 hst
          obtain ⟨gr, hf2⟩ := (follow_snoc HF.out (q : Int)).2 S2 ev hst2
          have HST : Hid _ := hst2
          have HF2 : Hid _ := hf2
          clear hq hcan hst hst2 hf2
          generalize (k + i) % L.length = kk at *
          have hzr : w1.heap.size ≤ wr.heap.size := H1.out.size
          by_cases hm0 : 0 < ms.length
          · obtain ⟨n, hn⟩ : ∃ n, ms.length = n + 1 := ⟨ms.length - 1, by omega⟩
            obtain ⟨mb, rfl, hmb, hmc⟩ := HM.out hm0
            have hnl : n < ms.length := by omega
            have c2 : w1.cell? ⟨mb, n, none⟩ = some (.int .i64 ms[n]) := (HWW.out.cell (p := ⟨mb, n, none⟩) hmb).trans (hmc n _ (List.getElem?_eq_getElem hnl))
            have HLAST : Hid (ms.getLast? = some ms[n]) := last_at hn (List.getElem?_eq_getElem hnl)
            have hn1 : (ms.length : Int) - 1 = (n : Int) := by omega
            have hm0' : (0 : Int) < (ms.length : Int) := by omega
            have hnl' : (n : Int) < (ms.length : Int) := by omega
            have hn0' : (0 : Int) ≤ (n : Int) := by omega
            have HCC : Hid (∀ j u, (intCells ms)[j]? = some u → wr.cell? ((⟨mb, 0, none⟩ : Addr).add j) = some u) := fun j u hu => by
              have hadd : (⟨mb, 0, none⟩ : Addr).add j = ⟨mb, j, none⟩ := by unfold Addr.add; split <;> simp_all
              rw [hadd]
              simp only [intCells, List.getElem?_map, Option.map_eq_some_iff] at hu
              obtain ⟨x, hx, rfl⟩ := hu
              exact (H1.out.cell (p := ⟨mb, j, none⟩) (show mb < w1.heap.size by omega)).trans ((HWW.out.cell (p := ⟨mb, j, none⟩) hmb).trans (hmc j x hx))
            clear hmc hn
            generalize ms[n] = y at *
            go_upto_region 13 with (first | (refine wpList_append_lies _ rfl _ _ _ rfl w1.heap.size 3 i0 _ 1 8 Try.underlying40 hi0 hz0 hz1 hz2 rfl (by omega) (.slice none 0 0) 0 [] rfl (World.ownsRow_nil _ _ _ _) ⟨mb, 0, none⟩ ms.length mcap (intCells ms) rfl (by simp [intCells]) (by exact HCC.out) (by simp [intCells, Value.oneCell']) hm0 (by unfold maxLen; omega) (by omega) hzr wr.heap.size rfl ?_; intro g1 cap1 w6 hown6 hgrow6 hat6 hlt6))
            simp only [Nat.zero_add, List.nil_append] at hown6 ⊢
            have HO6 : Hid (w6.ownsRow w1.heap.size 3 1 (.slice (some ⟨g1, 0, none⟩) ms.length cap1) ms.length (intCells ms)) := hown6
            have HB6 : Hid (Below w1.heap.size w1 w6) := H1.out.grown hgrow6 hzr (fun y hy => by simp [Value.ownBlock] at hy)
            have hz6 : w1.heap.size ≤ w6.heap.size := HB6.out.size
            clear hown6 hgrow6 hat6 HCC c0
            go_upto_region 14 with (first | (refine wpList_append_lies _ rfl _ _ _ rfl w1.heap.size 3 i0 _ 1 8 Try.underlying40 hi0 hz0 hz1 hz2 rfl (by omega) (.slice (some ⟨g1, 0, none⟩) ms.length cap1) ms.length (intCells ms) rfl (HO6.out.alloc _) ⟨w6.heap.size, 0, none⟩ 1 1 [Value.int .i64 (q : Int)] rfl rfl (World.news_of_block (cs := #[Value.int .i64 (q : Int)]) (t := 3) (fr := (0, 0)) (heap_alloc_new w6 _)) (by simp [Value.oneCell']) (by omega) (by unfold maxLen; omega) (by omega) (by simp; omega) (w6.heap.size + 1) (by simp) ?_; intro g2 cap2 w7 hown7 hgrow7 hat7 hlt7))
            have HO7 : Hid (w7.ownsRow w1.heap.size 3 1 (.slice (some ⟨g2, 0, none⟩) (ms ++ [(q : Int)]).length cap2) (ms ++ [(q : Int)]).length (intCells (ms ++ [(q : Int)]))) := by show World.ownsRow _ _ _ _ _ _ _; simpa [intCells] using hown7
            have HB7 : Hid (Below w1.heap.size w1 w7) := HB6.out.trans (Below.grown ((Below.refl w1.heap.size w6).alloc (by omega) _) hgrow7 (by simp; omega) (fun y hy => (HO6.out.lt y hy).1))
            have HW7 : Hid (Below w.heap.size w w7) := HWW.out.trans (HB7.out.mono HWW.out.size)
            clear hown7 hgrow7 hat7 HO6
            have hcall := events_any p lo hi b (ms ++ [(q : Int)]) (some ⟨g2, 0, none⟩) cap2 w7 (HP.out.below (HW7.out.mono hh)) HS.out (Nat.le_trans hh HW7.out.size) (ints_of_owns HO7.out) (by simp [maxLen]; omega)
            rw [show (ms ++ [(q : Int)]).length = ms.length + 1 by simp] at hcall
            go_wp2_with fail
            refine Calls.mono hcall ?_
            clear hcall
            rintro e w8 hev
            unfold EventsSays at hev
            rw [HF2.out] at hev
            obtain ⟨hb8, fa, fcap, rfl, ho8⟩ := hev
            obtain ⟨fb, hfa, hfb, hfc⟩ := evs_of_owns ho8 (by simp)
            subst hfa
            obtain ⟨-, -, -, -, f4, -⟩ := hfc ms.length ⟨ev.thread, ev.kind, ev.name, ev.value, ev.block, gr⟩ (by rw [List.getElem?_append_right (by have := HESL.out; omega), show ms.length - es.length = 0 by have := HESL.out; omega]; rfl)
            rw [show (es ++ [(⟨ev.thread, ev.kind, ev.name, ev.value, ev.block, gr⟩ : Ev)]).length = ms.length + 1 by have := HESL.out; simp; omega]
            have HB8 : Hid (Below w1.heap.size w1 w8) := HB7.out.trans (hb8.mono HB7.out.size)
            have HW8 : Hid (Below w.heap.size w w8) := HWW.out.trans (HB8.out.mono HWW.out.size)
            have dq := (HB8.out.cell (p := ⟨w.heap.size, q, none⟩) ltW).trans (HOF.out q hq4)
            simp only at f4
            clear hb8 ho8 hfc
            have HSB : Hid (ev.block = ev.block) := rfl
            have hm1 : ((ms.length + 1 : Nat) : Int) - 1 = (ms.length : Int) := by omega
            have hm2 : (ms.length : Int) < ((ms.length + 1 : Nat) : Int) := by omega
            have hm3 : (0 : Int) ≤ (ms.length : Int) := by omega
            generalize hbk : ev.block = bk at *
            have HBK : Hid (ev.block = bk) := hbk
            clear hbk HSB
            cases hb1 : (bk == -1)
            · cases hb2 : (bk != o q)
              · cases hyq : (y == (q : Int))
                · have c3 := (HB8.out.cell (p := ⟨mb, n, none⟩) (show mb < w1.heap.size by omega)).trans c2
                  go_wp2
                  go_roundw
                  case rel => exact ⟨i + 1, by omega, by go_num, (show Hid _ from HB8.out)⟩
                  case measure => simp [intOf]; omega
                · have c3 := (HB8.out.cell (p := ⟨mb, n, none⟩) (show mb < w1.heap.size by omega)).trans c2
                  go_wp2
                  go_ret2
                  exact ⟨HW8.out, .inr ⟨q, bk, S2, ev, hq4, rfl, HST.out, HBK.out, .inr (.inr (by rw [HLAST.out]; simpa using hyq))⟩⟩
              · go_wp2
                go_ret2
                exact ⟨HW8.out, .inr ⟨q, bk, S2, ev, hq4, rfl, HST.out, HBK.out, .inr (.inl (by simpa using hb2))⟩⟩
            · go_wp2
              go_ret2
              exact ⟨HW8.out, .inr ⟨q, bk, S2, ev, hq4, rfl, HST.out, HBK.out, .inl (by simpa using hb1)⟩⟩
          · obtain rfl : ms = [] := List.length_eq_zero_iff.1 (by omega)
            obtain ⟨rfl, rfl⟩ := HNIL.out rfl
            have HOQ : Hid (o q = -1) := HOF0.out rfl q hq4
            obtain rfl : es = [] := List.length_eq_zero_iff.1 HESL.out
            simp only [List.length_nil]
            go_upto_region 13 with fail
            clear c0
            go_upto_region 14 with (first | (refine wpList_append_lies _ rfl _ _ _ rfl w1.heap.size 3 i0 _ 1 8 Try.underlying40 hi0 hz0 hz1 hz2 rfl (by omega) (.slice none 0 0) 0 [] rfl (World.ownsRow_nil _ _ _ _) ⟨wr.heap.size, 0, none⟩ 1 1 [Value.int .i64 (q : Int)] rfl rfl (World.news_of_block (cs := #[Value.int .i64 (q : Int)]) (t := 3) (fr := (0, 0)) (heap_alloc_new wr _)) (by simp [Value.oneCell']) (by omega) (by unfold maxLen; omega) (by omega) (by simp; omega) (wr.heap.size + 1) (by simp) ?_; intro g2 cap2 w7 hown7 hgrow7 hat7 hlt7))
            have HO7 : Hid (w7.ownsRow w1.heap.size 3 1 (.slice (some ⟨g2, 0, none⟩) (([] : List Int) ++ [(q : Int)]).length cap2) (([] : List Int) ++ [(q : Int)]).length (intCells (([] : List Int) ++ [(q : Int)]))) := by show World.ownsRow _ _ _ _ _ _ _; simpa [intCells] using hown7
            have HB7 : Hid (Below w1.heap.size w1 w7) := H1.out.trans (Below.grown ((Below.refl w1.heap.size wr).alloc (by omega) _) hgrow7 (by simp; omega) (fun y hy => by simp [Value.ownBlock] at hy))
            have HW7 : Hid (Below w.heap.size w w7) := HWW.out.trans (HB7.out.mono HWW.out.size)
            clear hown7 hgrow7 hat7
            have hcall := events_any p lo hi b (([] : List Int) ++ [(q : Int)]) (some ⟨g2, 0, none⟩) cap2 w7 (HP.out.below (HW7.out.mono hh)) HS.out (Nat.le_trans hh HW7.out.size) (ints_of_owns HO7.out) (by simp [maxLen])
            rw [show (([] : List Int) ++ [(q : Int)]).length = 1 from rfl] at hcall
            go_wp2_with fail
            refine Calls.mono hcall ?_
            clear hcall
            rintro e w8 hev
            unfold EventsSays at hev
            rw [HF2.out] at hev
            obtain ⟨hb8, fa, fcap, rfl, ho8⟩ := hev
            obtain ⟨fb, hfa, hfb, hfc⟩ := evs_of_owns ho8 (by simp)
            subst hfa
            obtain ⟨-, -, -, -, f4, -⟩ := hfc 0 ⟨ev.thread, ev.kind, ev.name, ev.value, ev.block, gr⟩ rfl
            simp only [Nat.zero_mul, Nat.zero_add] at f4
            rw [show (([] : List Ev) ++ [(⟨ev.thread, ev.kind, ev.name, ev.value, ev.block, gr⟩ : Ev)]).length = 1 from rfl]
            have HB8 : Hid (Below w1.heap.size w1 w8) := HB7.out.trans (hb8.mono HB7.out.size)
            have HW8 : Hid (Below w.heap.size w w8) := HWW.out.trans (HB8.out.mono HWW.out.size)
            have dq := (HB8.out.cell (p := ⟨w.heap.size, q, none⟩) ltW).trans (HOF.out q hq4)
            clear hb8 ho8 hfc
            have HSB : Hid (ev.block = ev.block) := rfl
            generalize hbk : ev.block = bk at *
            have HBK : Hid (ev.block = bk) := hbk
            clear hbk HSB
            cases hb1 : (bk == -1)
            · cases hb2 : (bk != o q)
              · exfalso
                have h1 := HOQ.out
                rw [h1] at hb2
                simp at hb1 hb2
                exact hb1 hb2
              · go_wp2
                go_ret2
                exact ⟨HW8.out, .inr ⟨q, bk, S2, ev, hq4, rfl, HST.out, HBK.out, .inr (.inl (by simpa using hb2))⟩⟩
            · go_wp2
              go_ret2
              exact ⟨HW8.out, .inr ⟨q, bk, S2, ev, hq4, rfl, HST.out, HBK.out, .inl (by simpa using hb1)⟩⟩
        · have hlt' : ¬ (i : Int) < (L.length : Int) := by omega
          go_wp2
          go_ret2
          exact ⟨HWW.out.trans (H1.out.mono HWW.out.size), .inl rfl⟩

end Go.Proofs.Ytfdafcnfefbcbaa
