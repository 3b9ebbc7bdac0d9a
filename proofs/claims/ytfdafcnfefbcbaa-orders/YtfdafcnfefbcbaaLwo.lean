/-
  Several texts of ours in one: LawOrder, Orders.
-/
import Derived.Test.YtfdafcnfefbcbaaLwb
import Derived.Test.YtfdafcnfefbcbaaOrf
import Derived.Test.YtfdafcnfefbcbaaRfp
/-
  Package interleavelaw: the contracts of pair.cycle and pair.arrange.
-/
namespace Go.Proofs.Ytfdafcnfefbcbaa
open Go.RowKit
set_option linter.unusedVariables false

/-- What Cycle answers, and Arrange. -/
def cycAns (p : List (List Pl.POp)) (ms : List Int) : List Int := match follow p (beginTo p 4) [] 0 ms with
  | none => []
  | some (S, es) => cycleOf es

theorem cycle_len (es : List Ev) : (cycleOf es).length ≤ es.length := by
  by_cases hc : cycleOf es = []
  · rw [hc]; exact Nat.zero_le _
  · have hK := cycleOf_knot hc
    have h1 := nodup_le (cycleOf es) (es.map Ev.group) hK.nd (fun x hx => by
      obtain ⟨i, hi, rfl⟩ := List.getElem_of_mem hx
      have hk : (i + 1) % (cycleOf es).length < (cycleOf es).length := Nat.mod_lt _ (by omega)
      obtain ⟨a, b, hs, h1, -⟩ := hK.ahead i _ _ (List.getElem?_eq_getElem hi) (List.getElem?_eq_getElem hk)
      exact List.mem_map.2 ⟨a, hs.subset (by simp), h1⟩)
    simpa using h1

theorem cycle_form {p : List (List Pl.POp)} {ms : List Int} {w w' : World} {e : Ending} (h : CycleSays p ms w e w') : ∃ (ra : Option Addr) (rcap : Nat) (xs : List Int) (k : Int), e = .returned (.tuple #[.slice ra xs.length rcap, .int .i64 k]) ∧ w'.ownsRow w.heap.size 3 1 (.slice ra xs.length rcap) xs.length (intCells xs) ∧ xs = cycAns p ms ∧
    (follow p (beginTo p 4) [] 0 ms = none → xs = [] ∧ k = 4) ∧ ∀ S es, follow p (beginTo p 4) [] 0 ms = some (S, es) → xs = cycleOf es ∧ k = 0 := by
  obtain ⟨h1, h2⟩ := h
  unfold cycAns
  cases hf : follow p (beginTo p 4) [] 0 ms with
  | none =>
    rw [hf] at h2
    exact ⟨none, 0, [], 4, h2, World.ownsRow_nil _ _ _ _, rfl, fun _ => ⟨rfl, rfl⟩, fun S es h => by cases h⟩
  | some x =>
    obtain ⟨S, es⟩ := x
    rw [hf] at h2
    obtain ⟨v, h3, ca, ccap, h4, h5, -⟩ := h2
    subst h4
    exact ⟨ca, ccap, _, 0, h3, h5, rfl, (fun h => by cases h), fun S' es' h => by cases h; exact ⟨rfl, rfl⟩⟩

theorem arrange_form {p : List (List Pl.POp)} {ms : List Int} {w w' : World} {e : Ending} (h : ArrangeSays p ms w e w') : ∃ (ra : Option Addr) (rcap : Nat) (xs : List Int) (k : Int), e = .returned (.tuple #[.slice ra xs.length rcap, .int .i64 k]) ∧ w'.ownsRow w.heap.size 3 1 (.slice ra xs.length rcap) xs.length (intCells xs) ∧
    (follow p (beginTo p 4) [] 0 ms = none → xs = [] ∧ k = 4) ∧ ∀ S es, follow p (beginTo p 4) [] 0 ms = some (S, es) → ((takeGroups es).2 ≠ [] ∧ xs = [] ∧ k = 5) ∨ ((takeGroups es).2 = [] ∧ xs = (takeGroups es).1 ∧ k = 0) := by
  obtain ⟨h1, h2⟩ := h
  cases hf : follow p (beginTo p 4) [] 0 ms with
  | none =>
    rw [hf] at h2
    exact ⟨none, 0, [], 4, h2, World.ownsRow_nil _ _ _ _, fun _ => ⟨rfl, rfl⟩, fun S es h => by cases h⟩
  | some x =>
    obtain ⟨S, es⟩ := x
    rw [hf] at h2
    rcases h2 with ⟨h3, h4⟩ | ⟨h3, ta, tcap, h4, h5⟩
    · exact ⟨none, 0, [], 5, h4, World.ownsRow_nil _ _ _ _, (fun h => by cases h), fun S' es' h => by cases h; exact .inl ⟨h3, rfl, rfl⟩⟩
    · exact ⟨ta, tcap, _, 0, h4, h5, (fun h => by cases h), fun S' es' h => by cases h; exact .inr ⟨h3, rfl, rfl⟩⟩

set_option maxRecDepth 100000 in
set_option maxHeartbeats 2000000 in
theorem lawCycle_any {w : World} {lo hi b bx bY la lcap : Nat} {p : List (List Pl.POp)} (h : TwoAt w lo hi b bx bY la lcap p) (hs : Tiny p) (hh : hi ≤ w.heap.size) (ms : List Int) (sa : Option Addr) (scap : Nat) (hm : SeqIn w sa ms) (hlen : ms.length ≤ 17592186044416) :
    Calls Try.prog 31 #[.pointer (some ⟨b, 0, none⟩), .slice sa ms.length scap] w
      fun e w' => Below w.heap.size w w' ∧ ∃ (ra : Option Addr) (rcap : Nat) (xs : List Int), xs = cycAns p ms ∧ e = .returned (.tuple #[.slice ra xs.length rcap, .bool true]) ∧ w'.ownsRow w.heap.size 3 1 (.slice ra xs.length rcap) xs.length (intCells xs) := by
  have H : Hid (TwoAt w lo hi b bx bY la lcap p) := h
  have HM : Hid (SeqIn w sa ms) := hm
  have HT : Hid (Tiny p) := hs
  clear h hm hs
  go_enter Try.func31, Try.ntmps31
  go_wp2_with fail
  refine (handed_any ms sa scap _ HM.out hlen).mono ?_
  rintro e w1 ⟨g, rfl, hg0, hb1, hn1⟩
  have HB1 : Hid (Below w.heap.size w w1) := hb1
  have HN1 : Hid (HandAt w1 g ms) := hn1
  have H1 : Hid (TwoAt w1 lo hi b bx bY la lcap p) := H.out.below (hb1.mono hh)
  have hs1 := hb1.size
  have c0 := H1.out.c0
  clear hb1 hn1
  go_wp2_with fail
  refine (progCycle_any p lo hi bx ms (some ⟨g, 0, none⟩) _ _ H1.out.px HT.out (by omega) HN1.out.ints (by unfold maxLen; omega)).mono ?_
  rintro e w2 hr2
  have HB2 : Hid (Below w1.heap.size w1 w2) := hr2.1
  obtain ⟨ra, rcap, xs, k, rfl, ho2, hans, hno, hyes⟩ := cycle_form hr2
  have HANS : Hid (xs = cycAns p ms) := hans
  have HO2 : Hid (w2.ownsRow w1.heap.size 3 1 (.slice ra xs.length rcap) xs.length (intCells xs)) := ho2
  have HNO : Hid (follow p (beginTo p 4) [] 0 ms = none → xs = [] ∧ k = 4) := hno
  have HYES : Hid (∀ S es, follow p (beginTo p 4) [] 0 ms = some (S, es) → xs = cycleOf es ∧ k = 0) := hyes
  have hg1 : g < w1.heap.size := by
    rcases Nat.lt_or_ge g w1.heap.size with h' | h'
    · exact h'
    · have := HN1.out; rw [HandAt, Array.getElem?_eq_none h'] at this; cases this
  have HN2 : Hid (HandAt w2 g ms) := (HB2.out.block g hg1).trans HN1.out
  have HBW2 : Hid (Below w.heap.size w w2) := HB1.out.trans (HB2.out.mono hs1)
  clear hr2 ho2 hans hno hyes c0
  go_wp2_with fail
  refine (still_any ms g sa scap _ HN2.out (HM.out.below HBW2.out) hlen).mono ?_
  rintro e w3 ⟨rfl, hk3⟩
  have HBW3 : Hid (Below w.heap.size w w3) := HBW2.out.trans (hk3.below hg0 hg0 HBW2.out.size)
  have HO3 : Hid (w3.ownsRow w1.heap.size 3 1 (.slice ra xs.length rcap) xs.length (intCells xs)) := ownsRow_of_block HO2.out (fun q hq => hk3.block q (HO2.out.lt q hq).2 (by have := (HO2.out.lt q hq).1; omega) (by have := (HO2.out.lt q hq).1; omega))
  have H3 : Hid (TwoAt w3 lo hi b bx bY la lcap p) := H.out.below (HBW3.out.mono hh)
  have c1 := H3.out.c1
  clear hk3
  go_wp2_with fail
  refine (refPlay_any H3.out.py (Nat.le_trans hh HBW3.out.size) ms sa scap (HM.out.below HBW3.out) (by unfold maxLen; omega)).mono ?_
  rintro e w4 ⟨hb4, he4⟩
  have HB4 : Hid (Below w3.heap.size w3 w4) := hb4
  have HBW4 : Hid (Below w.heap.size w w4) := HBW3.out.trans (hb4.mono HBW3.out.size)
  have HO4 : Hid (w4.ownsRow w1.heap.size 3 1 (.slice ra xs.length rcap) xs.length (intCells xs)) := ((ownsRow_in HO3.out).below hb4).1
  clear hb4 c1
  cases hf : follow p (beginTo p 4) [] 0 ms with
  | none =>
    rw [hf] at he4
    subst he4
    obtain ⟨rfl, rfl⟩ := HNO.out hf
    clear hf
    go_wp2
    go_ret2
    exact ⟨HBW4.out, ra, rcap, [], HANS.out, rfl, ((ownsRow_in HO4.out).mono hs1 (Nat.le_refl _)).1⟩
  | some x =>
    obtain ⟨S, es⟩ := x
    rw [hf] at he4
    obtain ⟨rb, tb, ea, ecap, rfl, hrr, hok, -, -, ho4⟩ := he4
    obtain ⟨hxs, rfl⟩ := HYES.out S es hf
    have HXS : Hid (xs = cycleOf es) := hxs
    have HQ4 : Hid (w4.ownsRow w3.heap.size 70 6 (.slice ea es.length ecap) es.length (evCells es)) := ho4
    have hel : es.length ≤ 4000 := by
      obtain ⟨a', cap', hbh, hc', hok'⟩ := H.out.px.ok HT.out hh
      exact follow_short hok' hf
    obtain ⟨n, htold⟩ := follow_tells H.out.py.rows hf
    have HTD : Hid (Told es n) := htold
    clear hf hrr hok ho4 htold hxs
    go_wp2_with fail
    refine (refAtomic_any es ea ecap w3.heap.size n _ HQ4.out hel HTD.out).mono ?_
    rintro e w5 ⟨rfl, hb5⟩
    have HB5 : Hid (Below w.heap.size w w5) := HBW4.out.trans (hb5.mono HBW4.out.size)
    have HO5 : Hid (w5.ownsRow w1.heap.size 3 1 (.slice ra xs.length rcap) xs.length (intCells xs)) := ((ownsRow_in HO4.out).below hb5).1
    have HQ5 : Hid (w5.ownsRow w3.heap.size 70 6 (.slice ea es.length ecap) es.length (evCells es)) := ((ownsRow_in HQ4.out).below hb5).1
    clear hb5
    by_cases hat : (takeGroups es).2 = []
    · rw [decide_eq_true hat]
      have hnil : xs = [] := by rw [HXS.out]; exact cycleOf_nil.2 hat
      subst hnil
      clear hat
      go_wp2
      go_ret2
      exact ⟨HB5.out, ra, rcap, [], HANS.out, rfl, ((ownsRow_in HO5.out).mono hs1 (Nat.le_refl _)).1⟩
    · rw [decide_eq_false hat]
      have HKN : Hid (KnotOk es xs) := by
        show KnotOk es xs
        rw [HXS.out]
        exact cycleOf_knot (fun e => hat (cycleOf_nil.1 e))
      have hxl : xs.length ≤ 4000 := by rw [HXS.out]; have := cycle_len es; omega
      clear hat
      go_wp2_with fail
      refine (refCyclic_true es ea ecap w3.heap.size n xs ra rcap _ HQ5.out hel HTD.out (ints_of_owns HO5.out) hxl HKN.out).mono ?_
      rintro e w6 ⟨rfl, hb6⟩
      go_wp2
      go_ret2
      exact ⟨HB5.out.trans (hb6.mono HB5.out.size), ra, rcap, xs, HANS.out, rfl, (((ownsRow_in HO5.out).below hb6).mono hs1 (Nat.le_refl _)).1⟩

set_option maxRecDepth 100000 in
set_option maxHeartbeats 2000000 in
theorem lawArrange_any {w : World} {lo hi b bx bY la lcap : Nat} {p : List (List Pl.POp)} (h : TwoAt w lo hi b bx bY la lcap p) (hs : Tiny p) (hh : hi ≤ w.heap.size) (ms : List Int) (sa : Option Addr) (scap : Nat) (hm : SeqIn w sa ms) (hlen : ms.length ≤ 17592186044416) :
    Calls Try.prog 32 #[.pointer (some ⟨b, 0, none⟩), .slice sa ms.length scap] w
      fun e w' => Below w.heap.size w w' ∧ ∃ (ra : Option Addr) (rcap : Nat) (xs : List Int), e = .returned (.tuple #[.slice ra xs.length rcap, .bool true]) ∧ w'.ownsRow w.heap.size 3 1 (.slice ra xs.length rcap) xs.length (intCells xs) := by
  have H : Hid (TwoAt w lo hi b bx bY la lcap p) := h
  have HM : Hid (SeqIn w sa ms) := hm
  have HT : Hid (Tiny p) := hs
  clear h hm hs
  go_enter Try.func32, Try.ntmps32
  go_wp2_with fail
  refine (handed_any ms sa scap _ HM.out hlen).mono ?_
  rintro e w1 ⟨g, rfl, hg0, hb1, hn1⟩
  have HB1 : Hid (Below w.heap.size w w1) := hb1
  have HN1 : Hid (HandAt w1 g ms) := hn1
  have H1 : Hid (TwoAt w1 lo hi b bx bY la lcap p) := H.out.below (hb1.mono hh)
  have hs1 := hb1.size
  have c0 := H1.out.c0
  clear hb1 hn1
  go_wp2_with fail
  refine (progArrange_any p lo hi bx ms (some ⟨g, 0, none⟩) _ _ H1.out.px HT.out (by omega) HN1.out.ints (by unfold maxLen; omega)).mono ?_
  rintro e w2 hr2
  have HB2 : Hid (Below w1.heap.size w1 w2) := hr2.1
  obtain ⟨ra, rcap, xs, k, rfl, ho2, hno, hyes⟩ := arrange_form hr2
  have HO2 : Hid (w2.ownsRow w1.heap.size 3 1 (.slice ra xs.length rcap) xs.length (intCells xs)) := ho2
  have HNO : Hid (follow p (beginTo p 4) [] 0 ms = none → xs = [] ∧ k = 4) := hno
  have HYES : Hid (∀ S es, follow p (beginTo p 4) [] 0 ms = some (S, es) → ((takeGroups es).2 ≠ [] ∧ xs = [] ∧ k = 5) ∨ ((takeGroups es).2 = [] ∧ xs = (takeGroups es).1 ∧ k = 0)) := hyes
  have hg1 : g < w1.heap.size := by
    rcases Nat.lt_or_ge g w1.heap.size with h' | h'
    · exact h'
    · have := HN1.out; rw [HandAt, Array.getElem?_eq_none h'] at this; cases this
  have HN2 : Hid (HandAt w2 g ms) := (HB2.out.block g hg1).trans HN1.out
  have HBW2 : Hid (Below w.heap.size w w2) := HB1.out.trans (HB2.out.mono hs1)
  clear hr2 ho2 hno hyes c0
  go_wp2_with fail
  refine (still_any ms g sa scap _ HN2.out (HM.out.below HBW2.out) hlen).mono ?_
  rintro e w3 ⟨rfl, hk3⟩
  have HBW3 : Hid (Below w.heap.size w w3) := HBW2.out.trans (hk3.below hg0 hg0 HBW2.out.size)
  have HO3 : Hid (w3.ownsRow w1.heap.size 3 1 (.slice ra xs.length rcap) xs.length (intCells xs)) := ownsRow_of_block HO2.out (fun q hq => hk3.block q (HO2.out.lt q hq).2 (by have := (HO2.out.lt q hq).1; omega) (by have := (HO2.out.lt q hq).1; omega))
  have H3 : Hid (TwoAt w3 lo hi b bx bY la lcap p) := H.out.below (HBW3.out.mono hh)
  have c1 := H3.out.c1
  clear hk3
  go_wp2_with fail
  refine (refPlay_any H3.out.py (Nat.le_trans hh HBW3.out.size) ms sa scap (HM.out.below HBW3.out) (by unfold maxLen; omega)).mono ?_
  rintro e w4 ⟨hb4, he4⟩
  have HB4 : Hid (Below w3.heap.size w3 w4) := hb4
  have HBW4 : Hid (Below w.heap.size w w4) := HBW3.out.trans (hb4.mono HBW3.out.size)
  have HO4 : Hid (w4.ownsRow w1.heap.size 3 1 (.slice ra xs.length rcap) xs.length (intCells xs)) := ((ownsRow_in HO3.out).below hb4).1
  clear hb4 c1
  cases hf : follow p (beginTo p 4) [] 0 ms with
  | none =>
    rw [hf] at he4
    subst he4
    obtain ⟨rfl, rfl⟩ := HNO.out hf
    clear hf
    go_wp2
    go_ret2
    exact ⟨HBW4.out, ra, rcap, [], rfl, ((ownsRow_in HO4.out).mono hs1 (Nat.le_refl _)).1⟩
  | some x =>
    obtain ⟨S, es⟩ := x
    rw [hf] at he4
    obtain ⟨rb, tb, ea, ecap, rfl, hrr, hok, -, -, ho4⟩ := he4
    have HY2 : Hid (((takeGroups es).2 ≠ [] ∧ xs = [] ∧ k = 5) ∨ ((takeGroups es).2 = [] ∧ xs = (takeGroups es).1 ∧ k = 0)) := HYES.out S es hf
    have HQ4 : Hid (w4.ownsRow w3.heap.size 70 6 (.slice ea es.length ecap) es.length (evCells es)) := ho4
    have hel : es.length ≤ 4000 := by
      obtain ⟨a', cap', hbh, hc', hok'⟩ := H.out.px.ok HT.out hh
      exact follow_short hok' hf
    obtain ⟨n, htold⟩ := follow_tells H.out.py.rows hf
    have HTD : Hid (Told es n) := htold
    clear hf hrr hok ho4 htold
    go_wp2_with fail
    refine (refAtomic_any es ea ecap w3.heap.size n _ HQ4.out hel HTD.out).mono ?_
    rintro e w5 ⟨rfl, hb5⟩
    have HB5 : Hid (Below w.heap.size w w5) := HBW4.out.trans (hb5.mono HBW4.out.size)
    have HO5 : Hid (w5.ownsRow w1.heap.size 3 1 (.slice ra xs.length rcap) xs.length (intCells xs)) := ((ownsRow_in HO4.out).below hb5).1
    have HQ5 : Hid (w5.ownsRow w3.heap.size 70 6 (.slice ea es.length ecap) es.length (evCells es)) := ((ownsRow_in HQ4.out).below hb5).1
    clear hb5
    rcases HY2.out with ⟨hat, rfl, rfl⟩ | ⟨hat, hxs, rfl⟩
    · rw [decide_eq_false hat]
      clear hat
      go_wp2
      go_ret2
      exact ⟨HB5.out, ra, rcap, [], rfl, ((ownsRow_in HO5.out).mono hs1 (Nat.le_refl _)).1⟩
    · rw [decide_eq_true hat]
      have HXS : Hid (xs = (takeGroups es).1) := hxs
      have HA : Hid ((takeGroups es).2 = []) := hat
      have hxl : xs.length ≤ 4000 := by
        rw [hxs]
        have := go_len (es.length + 1) es []
        unfold takeGroups
        simp at this
        omega
      clear hat hxs
      go_wp2_with fail
      refine (refArranged_any es ea ecap w3.heap.size n _ HQ5.out hel HTD.out HA.out).mono ?_
      rintro e w6 ⟨hb6, qa, qcap, rfl, ho6⟩
      rw [← HXS.out] at ho6 ⊢
      have HB6 : Hid (Below w.heap.size w w6) := HB5.out.trans (hb6.mono HB5.out.size)
      have HO6 : Hid (w6.ownsRow w1.heap.size 3 1 (.slice ra xs.length rcap) xs.length (intCells xs)) := ((ownsRow_in HO5.out).below hb6).1
      have HQ6 : Hid (w6.ownsRow w5.heap.size 3 1 (.slice qa xs.length qcap) xs.length (intCells xs)) := ho6
      clear hb6 ho6
      go_wp2_with fail
      refine (lawSame_any xs ra qa rcap qcap _ (ints_of_owns HO6.out).seq (ints_of_owns HQ6.out).seq (by omega)).mono ?_
      rintro e w7 ⟨rfl, hb7⟩
      go_wp2
      go_ret2
      exact ⟨HB6.out.trans (hb7.mono HB6.out.size), ra, rcap, xs, rfl, (((ownsRow_in HO6.out).below hb7).mono hs1 (Nat.le_refl _)).1⟩

end Go.Proofs.Ytfdafcnfefbcbaa

/-
  The walk of interleavelaw.Orders.
-/
namespace Go.Proofs.Ytfdafcnfefbcbaa
open Go.RowKit
set_option linter.unusedVariables false

set_option maxRecDepth 100000 in
set_option maxHeartbeats 2000000 in
theorem example_any (w : World) : Calls Try.prog 30 #[] w fun e w' => e = .returned (.bool true) ∧ Below w.heap.size w w' := by
  have HT : Hid (Tiny [exRow, exRow]) := new_tiny (fun c hc => bytesOf_lt exText c hc) ex_new
  go_enter Try.func30, Try.ntmps30
  go_wp2_with fail
  refine (made_any exText _ (by decide)).mono ?_
  rintro e w1 ⟨hb1, he⟩
  rw [ex_new] at he
  obtain ⟨b, rfl, hp, -⟩ := he
  obtain ⟨bx, bY, la, lcap, htwo⟩ := two_of ex_new hp
  have H1 : Hid (TwoAt w1 w.heap.size w1.heap.size b bx bY la lcap [exRow, exRow]) := htwo
  have HB1 : Hid (Below w.heap.size w w1) := hb1
  clear hp htwo hb1
  go_wp2_with fail
  refine (lawCycle_any (H1.out.below ((Below.refl _ _).alloc (Nat.le_refl _) _)) HT.out (by simp) [0, 1, 0, 1] _ _ (ints_lit [0, 1, 0, 1]).seq (by decide)).mono ?_
  rintro e w2 ⟨hb2, ra, rcap, xs, -, rfl, -⟩
  have HB2 : Hid (Below w1.heap.size w1 w2) := ((Below.refl _ _).alloc (Nat.le_refl _) _).trans (hb2.mono (by simp))
  clear hb2
  go_wp2_with fail
  refine (lawArrange_any (H1.out.below (HB2.out.alloc HB2.out.size _)) HT.out (by have := HB2.out.size; simp; omega) [1, 1, 0] _ _ (ints_lit [1, 1, 0]).seq (by decide)).mono ?_
  rintro e w3 ⟨hb3, qa, qcap, ys, rfl, -⟩
  have HB3 : Hid (Below w1.heap.size w1 w3) := (HB2.out.alloc HB2.out.size _).trans (hb3.mono (by have := HB2.out.size; simp; omega))
  clear hb3
  go_wp2
  go_ret
  exact ⟨rfl, HB1.out.trans (HB3.out.mono HB1.out.size)⟩

theorem cycAns_len {w : World} {lo hi b bx bY la lcap : Nat} {p : List (List Pl.POp)} (h : TwoAt w lo hi b bx bY la lcap p) (hs : Tiny p) (hh : hi ≤ w.heap.size) (ms : List Int) : (cycAns p ms).length ≤ 4000 := by
  unfold cycAns
  cases hf : follow p (beginTo p 4) [] 0 ms with
  | none => exact Nat.zero_le _
  | some x =>
    obtain ⟨S, es⟩ := x
    obtain ⟨a', cap', hbh, hc', hok'⟩ := h.px.ok hs hh
    have h1 := follow_short hok' hf
    have h2 := cycle_len es
    show (cycleOf es).length ≤ 4000
    omega

set_option maxRecDepth 100000 in
set_option maxHeartbeats 2000000 in
theorem orders_walk (s : ByteArray) (ms : List Int) (sa : Option Addr) (scap : Nat) (w : World) (hs : s.size ≤ maxLen) (hm : SeqIn w sa ms) (hlen : ms.length ≤ 17592186044416) :
    Calls Try.prog 9 #[.string s, .slice sa ms.length scap] w fun e w' => e = .returned (.bool true) ∧ Below w.heap.size w w' := by
  have HM : Hid (SeqIn w sa ms) := hm
  clear hm
  cases hn : Pl.new (bytesOf s) with
  | inl kn =>
    have HN : Hid _ := hn
    clear hn
    go_enter Try.func9, Try.ntmps9
    go_wp2_with fail
    refine (example_any _).mono ?_
    rintro e w1 ⟨rfl, hb1⟩
    go_wp2_with fail
    refine (made_any s _ hs).mono ?_
    rintro e w2 ⟨hb2, he⟩
    rw [HN.out] at he
    subst he
    go_wp2
    go_ret
    exact ⟨rfl, hb1.trans (hb2.mono hb1.size)⟩
  | inr p =>
    have HN : Hid (Pl.new (bytesOf s) = .inr p) := hn
    have HT : Hid (Tiny p) := new_tiny (fun c hc => bytesOf_lt s c hc) hn
    clear hn
    go_enter Try.func9, Try.ntmps9
    go_wp2_with fail
    refine (example_any _).mono ?_
    rintro e w1 ⟨rfl, hb1⟩
    go_wp2_with fail
    refine (made_any s _ hs).mono ?_
    rintro e w2 ⟨hb2, he⟩
    rw [HN.out] at he
    obtain ⟨b, rfl, hp, hlen2⟩ := he
    obtain ⟨bx, bY, la, lcap, htwo⟩ := two_of HN.out hp
    have H2 : Hid (TwoAt w2 w1.heap.size w2.heap.size b bx bY la lcap p) := htwo
    have HB2 : Hid (Below w.heap.size w w2) := hb1.trans (hb2.mono hb1.size)
    clear hp hlen2 htwo hb1 hb2
    go_wp2_with fail
    refine (lawCycle_any H2.out HT.out (Nat.le_refl _) ms sa scap (HM.out.below HB2.out) hlen).mono ?_
    rintro e w3 ⟨hb3, ra, rcap, xs, hxs, rfl, ho3⟩
    have HX : Hid (xs = cycAns p ms) := hxs
    have HB3 : Hid (Below w.heap.size w w3) := HB2.out.trans (hb3.mono HB2.out.size)
    have H3 : Hid (TwoAt w3 w1.heap.size w2.heap.size b bx bY la lcap p) := H2.out.below hb3
    have HO3 : Hid (w3.ownsRow w2.heap.size 3 1 (.slice ra xs.length rcap) xs.length (intCells xs)) := ho3
    have hz3 := hb3.size
    have hxl : xs.length ≤ 4000 := by rw [hxs]; exact cycAns_len H2.out HT.out (Nat.le_refl _) ms
    clear hb3 ho3 hxs
    go_wp2_with fail
    refine (lawCycle_any H3.out HT.out hz3 ms sa scap (HM.out.below HB3.out) hlen).mono ?_
    rintro e w4 ⟨hb4, qa, qcap, ys, hys, rfl, ho4⟩
    obtain rfl : ys = xs := by rw [hys, HX.out]
    have HB4 : Hid (Below w.heap.size w w4) := HB3.out.trans (hb4.mono HB3.out.size)
    have hz4 : w2.heap.size ≤ w4.heap.size := Nat.le_trans hz3 hb4.size
    have H4 : Hid (TwoAt w4 w1.heap.size w2.heap.size b bx bY la lcap p) := H3.out.below (hb4.mono hz3)
    have HO4 : Hid (w4.ownsRow w2.heap.size 3 1 (.slice ra ys.length rcap) ys.length (intCells ys)) := ((ownsRow_in HO3.out).below hb4).1
    have HQ4 : Hid (w4.ownsRow w3.heap.size 3 1 (.slice qa ys.length qcap) ys.length (intCells ys)) := ho4
    clear hb4 ho4 hys
    go_wp2_with fail
    refine (lawArrange_any H4.out HT.out hz4 ms sa scap (HM.out.below HB4.out) hlen).mono ?_
    rintro e w5 ⟨hb5, ea, ecap, zs, rfl, -⟩
    have HB5 : Hid (Below w.heap.size w w5) := HB4.out.trans (hb5.mono HB4.out.size)
    have HO5 : Hid (w5.ownsRow w2.heap.size 3 1 (.slice ra ys.length rcap) ys.length (intCells ys)) := ((ownsRow_in HO4.out).below hb5).1
    have HQ5 : Hid (w5.ownsRow w3.heap.size 3 1 (.slice qa ys.length qcap) ys.length (intCells ys)) := ((ownsRow_in HQ4.out).below hb5).1
    clear hb5
    go_wp2_with fail
    refine (lawSame_any ys ra qa rcap qcap _ (ints_of_owns HO5.out).seq (ints_of_owns HQ5.out).seq (by omega)).mono ?_
    rintro e w6 ⟨rfl, hb6⟩
    go_wp2
    go_ret
    exact ⟨rfl, HB5.out.trans (hb6.mono HB5.out.size)⟩

end Go.Proofs.Ytfdafcnfefbcbaa

