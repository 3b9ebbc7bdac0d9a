/-
 Several texts of ours in one: OrderPl, CyclePl, TracedPl, RunPl, SearchPl.
-/
import Derived.Test.YtfdafcnfefbcbabGreatOrd
import Derived.Test.YtfdafcnfefbcbabGreatLinePl
/-
 Package order in plain terms: taking away one group after the other.
-/
namespace Go.Proofs.YtfdafcnfefbcbabGreat
open Go.RowKit
set_option linter.unusedVariables false

/-- What is left when a group is taken away, and the threads of what is taken. -/
def leftOf (l : List Ev) (g : Int) : List Ev := l.filter fun e => !(e.group == g)
def takenOf (l : List Ev) (g : Int) : List Int := (l.filter fun e => e.group == g).map Ev.thread

/-- One group after the other is taken away, as long as one has none ahead. -/
def takeGo : Nat → List Ev → List Int → List Int × List Ev
 | 0, left, taken => (taken, left)
 | k + 1, left, taken => match nextFree left with
  | none => (taken, left)
  | some nx => takeGo k (leftOf left nx.group) (taken ++ takenOf left nx.group)

def takeGroups (es : List Ev) : List Int × List Ev := takeGo (es.length + 1) es []

theorem nfStep_mem {es : List Ev} {st : Option Ev} {e : Ev} {P : Ev → Prop} (hs : ∀ x, st = some x → P x) (he : P e) : ∀ x, nfStep es st e = some x → P x := by
 intro x hx
 unfold nfStep at hx
 split at hx
 ·rename_i nx
  split at hx
  ·split at hx
   ·simp at hx; subst hx; exact hs nx rfl
   ·simp at hx; subst hx; exact he
  ·simp at hx; subst hx; exact hs nx rfl
 ·split at hx
  ·cases hx
  ·simp at hx; subst hx; exact he

theorem fold_mem (es : List Ev) (P : Ev → Prop) : ∀ (l : List Ev) (st : Option Ev), (∀ x, st = some x → P x) → (∀ e ∈ l, P e) → ∀ x, l.foldl (nfStep es) st = some x → P x
 | [], st, h1, _, x, hx => h1 x hx
 | e :: r, st, h1, h2, x, hx => fold_mem es P r (nfStep es st e) (nfStep_mem h1 (h2 e (by simp))) (fun y hy => h2 y (by simp [hy])) x hx

theorem nextFree_mem {es : List Ev} {nx : Ev} (h : nextFree es = some nx) : nx ∈ es :=
 fold_mem es (· ∈ es) es none (fun x hx => by cases hx) (fun e he => he) nx h

/-- What nextFree finds has no group ahead. -/
theorem nfStep_free {es : List Ev} {st : Option Ev} {e : Ev} (hs : ∀ x, st = some x → aheadOf es x.group = none) : ∀ x, nfStep es st e = some x → aheadOf es x.group = none := by
 intro x hx
 unfold nfStep at hx
 split at hx
 ·rename_i nx
  split at hx
  ·split at hx
   ·simp at hx; subst hx; exact hs nx rfl
   ·rename_i hn
    simp at hx; subst hx; simpa using hn
  ·simp at hx; subst hx; exact hs nx rfl
 ·split at hx
  ·cases hx
  ·rename_i hn
   simp at hx; subst hx; simpa using hn

theorem fold_free (es : List Ev) : ∀ (l : List Ev) (st : Option Ev), (∀ x, st = some x → aheadOf es x.group = none) → ∀ x, l.foldl (nfStep es) st = some x → aheadOf es x.group = none
 | [], st, h1, x, hx => h1 x hx
 | e :: r, st, h1, x, hx => fold_free es r (nfStep es st e) (nfStep_free h1) x hx

theorem nextFree_free {es : List Ev} {nx : Ev} (h : nextFree es = some nx) : aheadOf es nx.group = none :=
 fold_free es es none (fun x hx => by cases hx) nx h

/-- Where nextFree finds none, each group has one ahead. -/
theorem fold_some (es : List Ev) : ∀ (l : List Ev) (x : Ev), ∃ y, l.foldl (nfStep es) (some x) = some y
 | [], x => ⟨x, rfl⟩
 | e :: r, x => by
  obtain ⟨y, hy⟩ : ∃ y, nfStep es (some x) e = some y := by
   unfold nfStep
   simp only
   split
   ·split
    ·exact ⟨_, rfl⟩
    ·exact ⟨_, rfl⟩
   ·exact ⟨_, rfl⟩
  rw [List.foldl_cons, hy]
  exact fold_some es r y

theorem fold_none (es : List Ev) : ∀ (l : List Ev), l.foldl (nfStep es) none = none → ∀ e ∈ l, (aheadOf es e.group).isSome = true
 | [], _, e, he => by cases he
 | e :: r, h, x, hx => by
  rw [List.foldl_cons] at h
  cases hn : nfStep es none e with
  | some y =>
   rw [hn] at h
   obtain ⟨z, hz⟩ := fold_some es r y
   rw [hz] at h
   cases h
  | none =>
   rw [hn] at h
   rcases List.mem_cons.1 hx with rfl | hx
   ·unfold nfStep at hn
    simp only at hn
    split at hn
    ·rename_i h1; exact h1
    ·cases hn
   ·exact fold_none es r h x hx

theorem nextFree_none {es : List Ev} (h : nextFree es = none) : ∀ e ∈ es, (aheadOf es e.group).isSome = true := fold_none es es h

theorem left_shorter {l : List Ev} {nx : Ev} (h : nx ∈ l) : (leftOf l nx.group).length < l.length := by
 unfold leftOf
 rcases Nat.lt_or_ge (l.filter fun e => !(e.group == nx.group)).length l.length with h1 | h1
 ·exact h1
 ·have h2 := List.filter_eq_self.1 (List.Sublist.eq_of_length (List.filter_sublist (l := l) (p := fun e => !(e.group == nx.group))) (Nat.le_antisymm (List.length_filter_le _ _) h1)) nx h
  simp at h2

/-- Behind it all no group is left that has none ahead. -/
theorem takeGo_left : ∀ (k : Nat) (l : List Ev) (t : List Int), l.length < k → nextFree (takeGo k l t).2 = none
 | 0, l, t, h => by omega
 | k + 1, l, t, h => by
  unfold takeGo
  cases hn : nextFree l with
  | none => exact hn
  | some nx =>
   have := left_shorter (nextFree_mem hn)
   exact takeGo_left k _ _ (by omega)

/-- A group is ahead of another. -/
def AheadEv (es : List Ev) (g h : Int) : Prop := ∃ a b : Ev, List.Sublist [a, b] es ∧ a.group = g ∧ b.group = h ∧ g ≠ h ∧ hangEv a b = true

theorem AheadEv.sub {l es : List Ev} {g h : Int} (hs : List.Sublist l es) : AheadEv l g h → AheadEv es g h := fun ⟨a, b, h1, h2⟩ => ⟨a, b, h1.trans hs, h2⟩

theorem pair_of {es : List Ev} {a b : Ev} {i : Nat} (h : es[i]? = some b) (ha : a ∈ es.take i) : List.Sublist [a, b] es := by
 have h2 : List.Sublist [a] (es.take i) := List.singleton_sublist.2 ha
 have h3 : List.Sublist [b] (es.drop i) := List.singleton_sublist.2 (by
   obtain ⟨hi, rfl⟩ := List.getElem?_eq_some_iff.1 h
   rw [List.drop_eq_getElem_cons hi]; exact List.mem_cons.2 (.inl rfl))
 have := h2.append h3
 rwa [List.take_append_drop] at this

theorem pair_at {a b : Ev} : ∀ {es : List Ev}, List.Sublist [a, b] es → ∃ i, es[i]? = some b ∧ a ∈ es.take i
 | [], h => by cases h
 | e :: r, h => by
  cases h with
  | cons _ h =>
   obtain ⟨i, h1, h2⟩ := pair_at h
   exact ⟨i + 1, by simpa using h1, by simp [h2]⟩
  | cons_cons _ h =>
   obtain ⟨i, hi⟩ := List.getElem?_of_mem (List.singleton_sublist.1 h)
   exact ⟨i + 1, by simpa using hi, by simp⟩

theorem aheadIn_some {grp : Int} {later : Ev} : ∀ {l : List Ev} {x : Int}, aheadIn grp later l = some x → ∃ a ∈ l, a.group = x ∧ x ≠ grp ∧ hangEv a later = true
 | [], x, h => by cases h
 | e :: r, x, h => by
  rw [aheadIn] at h
  split at h
  ·rename_i hc
   simp only [Option.some.injEq] at h
   subst h
   rw [Bool.and_eq_true] at hc
   exact ⟨e, by simp, rfl, by simpa using hc.1, hc.2⟩
  ·obtain ⟨a, h1, h2⟩ := aheadIn_some h
   exact ⟨a, by simp [h1], h2⟩

theorem aheadIn_none {grp : Int} {later : Ev} : ∀ {l : List Ev}, aheadIn grp later l = none → ∀ a ∈ l, a.group ≠ grp → hangEv a later = false
 | [], h, a, ha => by cases ha
 | e :: r, h, a, ha => by
  rw [aheadIn] at h
  split at h
  ·cases h
  ·rename_i hc
   rcases List.mem_cons.1 ha with rfl | ha
   ·intro hg
    cases hh : hangEv a later with
    | false => rfl
    | true => exact absurd (by rw [Bool.and_eq_true]; exact ⟨by simpa using hg, hh⟩) hc
   ·exact aheadIn_none h a ha

theorem aheadAt_some {es : List Ev} {grp : Int} {i : Nat} {x : Int} (h : aheadAt es grp i = some x) : AheadEv es x grp := by
 unfold aheadAt at h
 split at h
 ·cases h
 ·rename_i l hl
  split at h
  ·cases h
  ·rename_i hg
   obtain ⟨a, h1, h2, h3, h4⟩ := aheadIn_some h
   exact ⟨a, l, pair_of hl h1, h2, by simpa using hg, h3, h4⟩

theorem aheadAt_none {es : List Ev} {grp : Int} {i : Nat} (h : aheadAt es grp i = none) : ∀ b, es[i]? = some b → b.group = grp → ∀ a ∈ es.take i, a.group ≠ grp → hangEv a b = false := by
 intro b hb hg
 unfold aheadAt at h
 rw [hb] at h
 simp only at h
 rw [if_neg (by simpa using hg)] at h
 exact aheadIn_none h

theorem aheadFrom_some {es : List Ev} {grp : Int} : ∀ {k i : Nat} {x : Int}, aheadFrom es grp k i = some x → AheadEv es x grp
 | 0, i, x, h => by cases h
 | k + 1, i, x, h => by
  rw [aheadFrom] at h
  split at h
  ·rename_i y hy
   simp only [Option.some.injEq] at h
   subst h
   exact aheadAt_some hy
  ·exact aheadFrom_some h

theorem aheadFrom_none {es : List Ev} {grp : Int} : ∀ {k i : Nat}, aheadFrom es grp k i = none → ∀ j, i ≤ j → j < i + k → aheadAt es grp j = none
 | 0, i, h, j, h1, h2 => by omega
 | k + 1, i, h, j, h1, h2 => by
  rw [aheadFrom] at h
  split at h
  ·cases h
  ·rename_i hy
   by_cases hj : j = i
   ·subst hj; exact hy
   ·exact aheadFrom_none h j (by omega) (by omega)

theorem aheadOf_some {es : List Ev} {grp x : Int} (h : aheadOf es grp = some x) : AheadEv es x grp := aheadFrom_some h

theorem aheadOf_none {es : List Ev} {grp : Int} (h : aheadOf es grp = none) (x : Int) : ¬ AheadEv es x grp := by
 rintro ⟨a, b, hs, rfl, hb, hne, hh⟩
 obtain ⟨i, hi, ha⟩ := pair_at hs
 have hl := (List.getElem?_eq_some_iff.1 hi).1
 have := aheadAt_none (aheadFrom_none h i (Nat.zero_le _) (by omega)) b hi hb a ha hne
 rw [hh] at this
 cases this

theorem takeGo_sub : ∀ (k : Nat) (l : List Ev) (t : List Int), List.Sublist (takeGo k l t).2 l
 | 0, l, t => List.Sublist.refl _
 | k + 1, l, t => by
  unfold takeGo
  cases hn : nextFree l with
  | none => exact List.Sublist.refl _
  | some nx => exact (takeGo_sub k _ _).trans List.filter_sublist

theorem takeGroups_sub (es : List Ev) : List.Sublist (takeGroups es).2 es := takeGo_sub _ _ _
theorem takeGroups_left (es : List Ev) : nextFree (takeGroups es).2 = none := takeGo_left _ _ _ (by omega)

/-- The way from group to group ahead, till it comes back to one where it has been. -/
def cycGo (knot : List Ev) : Nat → List Int → Int → List Int × Int
 | 0, way, g => (way, g)
 | k + 1, way, g => if g ∈ way then (way, g) else cycGo knot k (way ++ [g]) ((aheadOf knot g).getD 0)

def cycOf (knot : List Ev) : List Int := match knot with
 | [] => []
 | e :: r => backTo (cycGo (e :: r) ((e :: r).length + 1) [] e.group).1 (cycGo (e :: r) ((e :: r).length + 1) [] e.group).2 (cycGo (e :: r) ((e :: r).length + 1) [] e.group).1.length []

/-- What Cycle answers. -/
def cycleOf (es : List Ev) : List Int := cycOf (takeGroups es).2

theorem nodup_le : ∀ (l m : List Int), l.Nodup → (∀ x ∈ l, x ∈ m) → l.length ≤ m.length
 | [], m, _, _ => Nat.zero_le _
 | x :: l, m, hn, hs => by
  have hx : x ∈ m := hs x (by simp)
  have h1 := nodup_le l (m.erase x) (List.nodup_cons.1 hn).2 (fun y hy => (List.mem_erase_of_ne (by rintro rfl; exact (List.nodup_cons.1 hn).1 hy)).2 (hs y (by simp [hy])))
  rw [List.length_erase_of_mem hx] at h1
  have h2 : 0 < m.length := List.length_pos_of_mem hx
  simp
  omega

structure WayOk (knot : List Ev) (way : List Int) (g : Int) : Prop where
 nd : way.Nodup
 mem : ∀ x ∈ way, x ∈ knot.map Ev.group
 here : g ∈ knot.map Ev.group
 chain : ∀ (i : Nat) (x y : Int), (way ++ [g])[i]? = some x → (way ++ [g])[i + 1]? = some y → AheadEv knot y x

theorem WayOk.len {knot : List Ev} {way : List Int} {g : Int} (h : WayOk knot way g) : way.length ≤ knot.length := by
 have := nodup_le way (knot.map Ev.group) h.nd h.mem
 simpa using this

theorem WayOk.next {knot : List Ev} {way : List Int} {g : Int} (hk : nextFree knot = none) (h : WayOk knot way g) (hg : ¬ g ∈ way) : WayOk knot (way ++ [g]) ((aheadOf knot g).getD 0) := by
 obtain ⟨e, he, rfl⟩ := List.mem_map.1 h.here
 obtain ⟨x, hx⟩ := Option.isSome_iff_exists.1 (nextFree_none hk e he)
 rw [hx, Option.getD_some]
 have ha := aheadOf_some hx
 refine ⟨?_, ?_, ?_, ?_⟩
 ·rw [List.nodup_append]
  exact ⟨h.nd, by simp, fun a ha b hb => by rw [List.mem_singleton] at hb; subst hb; rintro rfl; exact hg ha⟩
 ·intro y hy
  rcases List.mem_append.1 hy with hy | hy
  ·exact h.mem y hy
  ·rw [List.mem_singleton] at hy; subst hy; exact h.here
 ·obtain ⟨a, b, hs, h1, -⟩ := ha
  exact List.mem_map.2 ⟨a, hs.subset (by simp), h1⟩
 ·intro i y z hy hz
  have hl : i + 1 < (way ++ [e.group] ++ [x]).length := (List.getElem?_eq_some_iff.1 hz).1
  simp at hl
  by_cases hi : i + 1 < way.length + 1
  ·rw [List.getElem?_append_left (by simp; omega)] at hy hz
   exact h.chain i y z hy hz
  ·have hi' : i = way.length := by omega
   subst hi'
   rw [List.getElem?_append_left (by simp), List.getElem?_append_right (by simp)] at hy
   rw [List.getElem?_append_right (by simp)] at hz
   simp at hy hz
   subst hy
   subst hz
   exact ha

theorem cycGo_ok {knot : List Ev} (hk : nextFree knot = none) : ∀ (k : Nat) (way : List Int) (g : Int), WayOk knot way g → knot.length < k + way.length → WayOk knot (cycGo knot k way g).1 (cycGo knot k way g).2 ∧ (cycGo knot k way g).2 ∈ (cycGo knot k way g).1
 | 0, way, g, h, hl => by have := h.len; omega
 | k + 1, way, g, h, hl => by
  unfold cycGo
  split
  ·rename_i hg; exact ⟨h, hg⟩
  ·rename_i hg
   exact cycGo_ok hk k _ _ (h.next hk hg) (by simp; omega)

theorem nodup_idx {l : List Int} (hn : l.Nodup) {i j : Nat} (hi : i < l.length) (hj : j < l.length) (h : l[i] = l[j]) : i = j := by
 rw [List.Nodup, List.pairwise_iff_getElem] at hn
 rcases Nat.lt_trichotomy i j with h1 | h1 | h1
 ·exact absurd h (hn i j hi hj h1)
 ·exact h1
 ·exact absurd h.symm (hn j i hj hi h1)

theorem backTo_is {way : List Int} {g : Int} (hn : way.Nodup) {k : Nat} (hk : k < way.length) (hg : way[k] = g) : ∀ (n : Nat) (acc : List Int), k < n → n ≤ way.length → backTo way g n acc = acc ++ ((way.take n).drop k).reverse
 | 0, acc, h, _ => by omega
 | n + 1, acc, h, hl => by
  have hd : way.getD n 0 = way[n] := by simp [List.getD, List.getElem?_eq_getElem (show n < way.length by omega)]
  have ht : (way.take (n + 1)).drop k = (way.take n).drop k ++ [way[n]] := by
   rw [List.take_succ_eq_append_getElem (by omega), List.drop_append_of_le_length (by simp; omega)]
  unfold backTo
  rw [hd, ht]
  split
  ·rename_i hc
   have : n = k := nodup_idx hn (by omega) hk (by rw [hg]; simpa using hc)
   subst this
   simp
  ·rename_i hc
   have : n ≠ k := by rintro rfl; exact hc (by simpa using hg)
   rw [backTo_is hn hk hg n _ (by omega) (by omega)]
   simp

/-- A cycle of the groups of some events, none twice. -/
structure KnotOk (es : List Ev) (c : List Int) : Prop where
 nd : c.Nodup
 two : 1 < c.length
 ahead : ∀ (i : Nat) (x y : Int), c[i]? = some x → c[(i + 1) % c.length]? = some y → AheadEv es x y

theorem backTo_knot {knot : List Ev} {way : List Int} {g : Int} (h : WayOk knot way g) (hg : g ∈ way) : KnotOk knot (backTo way g way.length []) := by
 obtain ⟨k, hk, hgk⟩ := List.getElem_of_mem hg
 have e := backTo_is h.nd hk hgk way.length [] (by omega) (Nat.le_refl _)
 rw [List.take_length, List.nil_append] at e
 rw [e]
 have hlen : ((way.drop k).reverse).length = way.length - k := by simp
 have hat : ∀ i x, ((way.drop k).reverse)[i]? = some x → i < way.length - k ∧ way[way.length - 1 - i]? = some x := fun i x hx => by
  have hi := (List.getElem?_eq_some_iff.1 hx).1
  rw [hlen] at hi
  rw [List.getElem?_reverse (by simpa using hi), List.length_drop, List.getElem?_drop, show k + (way.length - k - 1 - i) = way.length - 1 - i by omega] at hx
  exact ⟨hi, hx⟩
 refine ⟨?_, ?_, ?_⟩
 ·rw [List.Nodup, List.pairwise_reverse]
  exact (List.Pairwise.sublist (List.drop_sublist _ _) h.nd).imp Ne.symm
 ·rw [hlen]
  rcases Nat.lt_or_ge 1 (way.length - k) with h1 | h1
  ·exact h1
  ·exfalso
   have hkl : k = way.length - 1 := by omega
   obtain ⟨a, b, -, h2, h3, h4, -⟩ := h.chain k g g (by rw [List.getElem?_append_left hk, List.getElem?_eq_getElem hk, hgk]) (by rw [List.getElem?_append_right (by omega), show k + 1 - way.length = 0 by omega]; rfl)
   exact h4 rfl
 ·intro i x y hx hy
  rw [hlen] at hy
  obtain ⟨hi, hx'⟩ := hat i x hx
  by_cases hi1 : i + 1 < way.length - k
  ·rw [Nat.mod_eq_of_lt hi1] at hy
   obtain ⟨-, hy'⟩ := hat _ y hy
   refine h.chain (way.length - 1 - (i + 1)) y x ?_ ?_
   ·rw [List.getElem?_append_left (by omega)]; exact hy'
   ·rw [List.getElem?_append_left (by omega), show way.length - 1 - (i + 1) + 1 = way.length - 1 - i by omega]; exact hx'
  ·have hi2 : i + 1 = way.length - k := by omega
   rw [hi2, Nat.mod_self] at hy
   obtain ⟨-, hy'⟩ := hat _ y hy
   have hxg : x = g := by
    rw [show way.length - 1 - i = k by omega, List.getElem?_eq_getElem hk, hgk] at hx'
    simpa using hx'.symm
   subst hxg
   refine h.chain (way.length - 1) y x ?_ ?_
   ·rw [List.getElem?_append_left (by omega)]; simpa using hy'
   ·rw [List.getElem?_append_right (by omega), show way.length - 1 + 1 - way.length = 0 by omega]; rfl

theorem cycOf_knot {knot : List Ev} (hk : nextFree knot = none) (hne : knot ≠ []) : KnotOk knot (cycOf knot) := by
 cases knot with
 | nil => exact absurd rfl hne
 | cons e r =>
  have h0 : WayOk (e :: r) [] e.group := ⟨List.nodup_nil, fun x hx => by simp at hx, by simp, fun i x y hx hy => by simp at hy⟩
  obtain ⟨h1, h2⟩ := cycGo_ok hk ((e :: r).length + 1) [] e.group h0 (by simp)
  exact backTo_knot h1 h2

/-- What Cycle answers is a cycle, or nothing. -/
theorem cycleOf_knot {es : List Ev} (h : cycleOf es ≠ []) : KnotOk es (cycleOf es) := by
 have hne : (takeGroups es).2 ≠ [] := fun e => h (by unfold cycleOf; rw [e]; rfl)
 obtain ⟨a, b, c⟩ := cycOf_knot (takeGroups_left es) hne
 exact ⟨a, b, fun i x y hx hy => (c i x y hx hy).sub (takeGroups_sub es)⟩

theorem cycleOf_nil {es : List Ev} : cycleOf es = [] ↔ (takeGroups es).2 = [] := by
 constructor
 ·intro h
  cases hk : (takeGroups es).2 with
  | nil => rfl
  | cons e r =>
   exfalso
   have := (cycOf_knot (takeGroups_left es) (by rw [hk]; simp)).two
   unfold cycleOf at h
   rw [h] at this
   simp at this
 ·intro h; unfold cycleOf; rw [h]; rfl

/-! Names: a shared operation has a name of its kind. -/
theorem shared_takes {k : Nat} (h : Pl.isShared k = true) : Pl.takesName k = true := by
 simp only [Pl.isShared, Bool.or_eq_true, beq_iff_eq] at h
 simp only [Pl.takesName, Bool.or_eq_true, beq_iff_eq]
 omega

/-! The states of a run. -/
/-! What one step tells. -/

def Ev.inGroup (e : Ev) (g : Int) : Ev := ⟨e.thread, e.kind, e.name, e.value, e.block, g⟩

/-- A run without groups. -/
def run0 (p : List (List Pl.POp)) : St → List Int → Option (St × List Ev)
 | S, [] => some (S, [])
 | S, m :: ms => match step S p m with
  | none => none
  | some (S', e) => match run0 p S' ms with
   | none => none
   | some (S'', l) => some (S'', e :: l)

/-- The events with their groups, behind others. -/
def grp : List Ev → Nat → List Ev → List Ev
 | _, _, [] => []
 | es, g, e :: r => e.inGroup (groupOf es e.thread e.block g) :: grp (es ++ [e.inGroup (groupOf es e.thread e.block g)]) (if groupOf es e.thread e.block g = (g : Int) then g + 1 else g) r

theorem follow_run0 (p : List (List Pl.POp)) : ∀ (ms : List Int) (S : St) (es : List Ev) (g : Nat), follow p S es g ms = (run0 p S ms).map fun x => (x.1, es ++ grp es g x.2)
 | [], S, es, g => by simp [follow, run0, grp]
 | m :: ms, S, es, g => by
  rw [follow, run0]
  cases hs : step S p m with
  | none => rfl
  | some x =>
   obtain ⟨S', e⟩ := x
   simp only
   rw [follow_run0 p ms]
   cases hr : run0 p S' ms with
   | none => rfl
   | some y =>
    obtain ⟨S'', l⟩ := y
    simp [grp, Ev.inGroup]

/-! Which steps are of one group. -/

def SameG (a b : Ev) : Prop := a.thread = b.thread ∧ a.block = b.block ∧ a.block ≠ -1

structure GrpOk (es : List Ev) (g : Nat) : Prop where
 lt : ∀ e ∈ es, e.group < (g : Int)
 same : ∀ a b : Ev, List.Sublist [a, b] es → (a.group = b.group ↔ SameG a b)

theorem SameG.symm {a b : Ev} (h : SameG a b) : SameG b a := ⟨h.1.symm, h.2.1.symm, by rw [← h.2.1]; exact h.2.2⟩

theorem two_mem {α : Type} {a b : α} : ∀ {l : List α}, a ∈ l → b ∈ l → a = b ∨ List.Sublist [a, b] l ∨ List.Sublist [b, a] l
 | [], h, _ => by cases h
 | e :: r, ha, hb => by
  rcases List.mem_cons.1 ha with rfl | ha'
  ·rcases List.mem_cons.1 hb with rfl | hb'
   ·exact .inl rfl
   ·exact .inr (.inl (List.Sublist.cons_cons _ (List.singleton_sublist.2 hb')))
  ·rcases List.mem_cons.1 hb with rfl | hb'
   ·exact .inr (.inr (List.Sublist.cons_cons _ (List.singleton_sublist.2 ha')))
   ·rcases two_mem ha' hb' with h | h | h
    ·exact .inl h
    ·exact .inr (.inl (h.cons _))
    ·exact .inr (.inr (h.cons _))

theorem groupOf_cases (t b nx : Int) (hb : b ≠ -1) : ∀ (l : List Ev), (groupOf l t b nx = nx ∧ ∀ e ∈ l, ¬ (e.thread = t ∧ e.block = b)) ∨ ∃ x ∈ l, x.thread = t ∧ x.block = b ∧ groupOf l t b nx = x.group
 | [] => .inl ⟨groupOf_nil _ _ _, fun e he => by cases he⟩
 | e :: r => by
  rw [groupOf_cons hb]
  split
  ·rename_i h; exact .inr ⟨e, by simp, h.1, h.2, rfl⟩
  ·rename_i h
   rcases groupOf_cases t b nx hb r with ⟨h1, h2⟩ | ⟨x, h1, h2⟩
   ·exact .inl ⟨h1, fun y hy => by
       rcases List.mem_cons.1 hy with rfl | hy
       · exact h
       · exact h2 y hy⟩
   ·exact .inr ⟨x, by simp [h1], h2⟩

theorem pair_snoc {a b x : Ev} {es : List Ev} (h : List.Sublist [a, b] (es ++ [x])) : List.Sublist [a, b] es ∨ (a ∈ es ∧ b = x) := by
 rw [List.sublist_append_iff] at h
 obtain ⟨l1, l2, e, h1, h2⟩ := h
 match l2, h2 with
 | [], _ => rw [List.append_nil] at e; subst e; exact .inl h1
 | [y], h2 =>
  have hy : y = x := by simpa using h2.subset (List.mem_singleton.2 rfl)
  subst hy
  have e2 : [a, b] = l1 ++ [y] := e
  match l1, h1 with
  | [], _ => simp at e2
  | [z], h1 =>
   simp at e2
   exact .inr ⟨by rw [e2.1]; exact h1.subset (by simp), e2.2⟩
  | z :: z' :: z'' , _ => simp at e2
 | y :: y' :: r, h2 => have := h2.length_le; simp at this

theorem GrpOk.snoc {es : List Ev} {g : Nat} (h : GrpOk es g) (e : Ev) : GrpOk (es ++ [e.inGroup (groupOf es e.thread e.block g)]) (if groupOf es e.thread e.block g = (g : Int) then g + 1 else g) := by
 have key : (groupOf es e.thread e.block g = (g : Int) ∧ ∀ a ∈ es, ¬ SameG a e) ∨ (groupOf es e.thread e.block g < (g : Int) ∧ ∀ a ∈ es, (a.group = groupOf es e.thread e.block g ↔ SameG a e)) := by
  by_cases hb : e.block = -1
  ·refine .inl ⟨by unfold groupOf; rw [if_pos hb], fun a ha hs => hs.2.2 (hs.2.1.trans hb)⟩
  ·rcases groupOf_cases e.thread e.block g hb es with ⟨h1, h2⟩ | ⟨x, h1, h2, h3, h4⟩
   ·exact .inl ⟨h1, fun a ha hs => h2 a ha ⟨hs.1, hs.2.1⟩⟩
   ·refine .inr ⟨by rw [h4]; exact h.lt x h1, fun a ha => ?_⟩
    rw [h4]
    have hxe : SameG x e := ⟨h2, h3, by rw [h3]; exact hb⟩
    have tr : SameG a x ↔ SameG a e := ⟨fun s => ⟨s.1.trans hxe.1, s.2.1.trans hxe.2.1, s.2.2⟩, fun s => ⟨s.1.trans hxe.1.symm, s.2.1.trans hxe.2.1.symm, s.2.2⟩⟩
    rcases two_mem ha h1 with rfl | hs | hs
    ·exact ⟨fun _ => hxe, fun _ => rfl⟩
    ·rw [h.same a x hs]; exact tr
    ·rw [← tr, eq_comm, h.same x a hs]; exact ⟨SameG.symm, SameG.symm⟩
 have same' : ∀ a, SameG a (e.inGroup (groupOf es e.thread e.block g)) ↔ SameG a e := fun a => Iff.rfl
 rcases key with ⟨h1, h2⟩ | ⟨h1, h2⟩
 ·rw [if_pos h1]
  refine ⟨fun x hx => ?_, fun a b hs => ?_⟩
  ·rcases List.mem_append.1 hx with hx | hx
   ·have := h.lt x hx; omega
   ·rw [List.mem_singleton] at hx; subst hx; simp only [Ev.inGroup]; omega
  ·rcases pair_snoc hs with hs | ⟨ha, rfl⟩
   ·exact h.same a b hs
   ·rw [same']
    constructor
    ·intro he
     have := h.lt a ha
     simp only [Ev.inGroup] at he
     omega
    ·intro he; exact absurd he (h2 a ha)
 ·rw [if_neg (by omega)]
  refine ⟨fun x hx => ?_, fun a b hs => ?_⟩
  ·rcases List.mem_append.1 hx with hx | hx
   ·exact h.lt x hx
   ·rw [List.mem_singleton] at hx; subst hx; exact h1
  ·rcases pair_snoc hs with hs | ⟨ha, rfl⟩
   ·exact h.same a b hs
   ·rw [same']; exact h2 a ha

theorem grpOk_nil : GrpOk [] 0 := ⟨fun e he => absurd he (by simp), fun a b h => absurd h (by simp)⟩

/-! Groups side by side have no cycle. -/

/-! Groups that have an order have no cycle. -/

/-- How a run stands, and the variables. -/
abbrev Res := Nat × Int × Int × Int × Int

def resOf (S : St) (p : List (List Pl.POp)) : Res := (endOf S p, S.v0, S.v1, S.v2, S.v3)

def before (x y : Res) : Bool :=
 if x.1 ≠ y.1 then decide (x.1 < y.1)
 else if x.2.1 ≠ y.2.1 then decide (x.2.1 < y.2.1)
 else if x.2.2.1 ≠ y.2.2.1 then decide (x.2.2.1 < y.2.2.1)
 else if x.2.2.2.1 ≠ y.2.2.2.1 then decide (x.2.2.2.1 < y.2.2.2.1)
 else if x.2.2.2.2 ≠ y.2.2.2.2 then decide (x.2.2.2.2 < y.2.2.2.2)
 else false

theorem before_trans {x y z : Res} (h1 : before x y = true) (h2 : before y z = true) : before x z = true := by
 obtain ⟨x0, x1, x2, x3, x4⟩ := x
 obtain ⟨y0, y1, y2, y3, y4⟩ := y
 obtain ⟨z0, z1, z2, z3, z4⟩ := z
 simp only [before] at *
 by_cases a0 : x0 = y0
 ·subst a0
  by_cases b0 : x0 = z0
  ·subst b0
   simp only [ne_eq, not_true, if_false] at *
   by_cases a1 : x1 = y1
   ·subst a1
    by_cases b1 : x1 = z1
    ·subst b1
     simp only [not_true, if_false] at *
     by_cases a2 : x2 = y2
     ·subst a2
      by_cases b2 : x2 = z2
      ·subst b2
       simp only [not_true, if_false] at *
       by_cases a3 : x3 = y3
       ·subst a3
        by_cases b3 : x3 = z3
        ·subst b3
         simp only [not_true, if_false] at *
         split at h1
         ·split at h2
          ·simp at h1 h2
           rw [if_pos (by omega)]; simp; omega
          ·cases h2
         ·cases h1
        ·simpa [b3] using h2
       ·by_cases b3 : y3 = z3
        ·subst b3; simpa [a3] using h1
        ·simp [a3, b3] at h1 h2
         rw [if_pos (by omega)]; simp; omega
      ·simpa [b2] using h2
     ·by_cases b2 : y2 = z2
      ·subst b2; simpa [a2] using h1
      ·simp [a2, b2] at h1 h2
       rw [if_pos (by omega)]; simp; omega
    ·simpa [b1] using h2
   ·by_cases b1 : y1 = z1
    ·subst b1; simpa [a1] using h1
    ·simp [a1, b1] at h1 h2
     rw [if_pos (by omega)]; simp; omega
  ·simpa [b0] using h2
 ·by_cases b0 : y0 = z0
  ·subst b0; simpa [a0] using h1
  ·simp [a0, b0] at h1 h2
   rw [if_pos (by omega)]; simp; omega

theorem before_total {x y : Res} (h1 : before x y = false) (h2 : x ≠ y) : before y x = true := by
 obtain ⟨x0, x1, x2, x3, x4⟩ := x
 obtain ⟨y0, y1, y2, y3, y4⟩ := y
 simp only [before] at *
 by_cases a0 : x0 = y0
 ·subst a0
  simp only [ne_eq, not_true, if_false] at *
  by_cases a1 : x1 = y1
  ·subst a1
   simp only [not_true, if_false] at *
   by_cases a2 : x2 = y2
   ·subst a2
    simp only [not_true, if_false] at *
    by_cases a3 : x3 = y3
    ·subst a3
     simp only [not_true, if_false] at *
     by_cases a4 : x4 = y4
     ·subst a4; exact absurd rfl h2
     ·rw [if_pos a4] at h1
      rw [if_pos (Ne.symm a4)]
      simp at h1 ⊢
      omega
    ·rw [if_pos a3] at h1
     rw [if_pos (Ne.symm a3)]
     simp at h1 ⊢
     omega
   ·rw [if_pos a2] at h1
    rw [if_pos (Ne.symm a2)]
    simp at h1 ⊢
    omega
  ·rw [if_pos a1] at h1
   rw [if_pos (Ne.symm a1)]
   simp at h1 ⊢
   omega
 ·rw [if_pos a0] at h1
  rw [if_pos (Ne.symm a0)]
  simp at h1 ⊢
  omega

theorem before_irr (x : Res) : before x x = false := by simp [before]

/-- Before how many a result comes not. -/
def placeOf (rs : List Res) (m : Res) : Nat := (rs.takeWhile fun x => before x m).length

def withRes (rs : List Res) (m : Res) : List Res := if rs[placeOf rs m]? = some m then rs else rs.take (placeOf rs m) ++ m :: rs.drop (placeOf rs m)

theorem place_le (rs : List Res) (m : Res) : placeOf rs m ≤ rs.length := (List.takeWhile_sublist _).length_le

theorem place_take (m : Res) : ∀ (rs : List Res), (∀ x ∈ rs.take (placeOf rs m), before x m = true) ∧ ∀ x, rs[placeOf rs m]? = some x → before x m = false
 | [] => ⟨fun x hx => by simp at hx, fun x hx => by simp at hx⟩
 | r :: rs => by
  have ih := place_take m rs
  unfold placeOf at *
  cases h : before r m with
  | true =>
   rw [List.takeWhile_cons_of_pos (p := fun x => before x m) h]
   simp only [List.length_cons, List.take_succ_cons, List.getElem?_cons_succ]
   refine ⟨fun x hx => ?_, ih.2⟩
   rcases List.mem_cons.1 hx with rfl | hx
   ·exact h
   ·exact ih.1 x hx
  | false =>
   rw [List.takeWhile_cons_of_neg (p := fun x => before x m) (by simp [h])]
   refine ⟨fun x hx => by simp at hx, fun x hx => ?_⟩
   simp at hx
   subst hx
   exact h

theorem with_mem (rs : List Res) (m x : Res) : x ∈ withRes rs m ↔ x ∈ rs ∨ x = m := by
 unfold withRes
 split
 ·rename_i h
  have := List.mem_of_getElem? h
  constructor
  ·exact .inl
  ·rintro (h | rfl)
   ·exact h
   ·exact this
 ·rw [List.mem_append, List.mem_cons]
  have h1 : x ∈ rs ↔ x ∈ rs.take (placeOf rs m) ∨ x ∈ rs.drop (placeOf rs m) := by
   rw [← List.mem_append, List.take_append_drop]
  rw [h1]
  constructor
  ·rintro (h | h | h)
   ·exact .inl (.inl h)
   ·exact .inr h
   ·exact .inl (.inr h)
  ·rintro ((h | h) | h)
   ·exact .inl h
   ·exact .inr (.inr h)
   ·exact .inr (.inl h)

def Rising (rs : List Res) : Prop := rs.Pairwise fun x y => before x y = true

theorem with_rising {rs : List Res} {m : Res} (h : Rising rs) : Rising (withRes rs m) := by
 unfold withRes
 split
 ·exact h
 ·rename_i hne
  obtain ⟨h1, h2⟩ := place_take m rs
  have h3 : Rising (rs.take (placeOf rs m) ++ rs.drop (placeOf rs m)) := by rw [List.take_append_drop]; exact h
  unfold Rising at *
  rw [List.pairwise_append] at h3
  have hd : ∀ y ∈ rs.drop (placeOf rs m), before m y = true := by
   intro y hy
   cases hdr : rs.drop (placeOf rs m) with
   | nil => rw [hdr] at hy; cases hy
   | cons d r =>
    have hd0 : rs[placeOf rs m]? = some d := by
     have := congrArg (fun l => l[0]?) hdr
     simpa using this
    have hmd : before m d = true := before_total (h2 d hd0) (fun e => hne (by rw [hd0, e]))
    rw [hdr] at hy
    rcases List.mem_cons.1 hy with rfl | hy
    ·exact hmd
    ·have h4 := h3.2.1
     rw [hdr, List.pairwise_cons] at h4
     exact before_trans hmd (h4.1 y hy)
  rw [List.pairwise_append, List.pairwise_cons]
  refine ⟨h3.1, ⟨hd, h3.2.1⟩, fun x hx y hy => ?_⟩
  rcases List.mem_cons.1 hy with rfl | hy
  ·exact h1 x hx
  ·exact h3.2.2 x hx y hy

/-! All runs. -/

def gatherGo (p : List (List Pl.POp)) : Nat → St → List Res → List Res
 | 0, _, f => f
 | k + 1, S, f => if readyTo S p 4 = [] then withRes f (resOf S p) else (readyTo S p 4).foldl (fun f n => match step S p n with
   | none => f
   | some (S', _) => gatherGo p k S' f) f

def outcomesOf (p : List (List Pl.POp)) : List Res := gatherGo p (remS p (beginTo p 4) + 1) (beginTo p 4) []

theorem fold_keep {α β : Type} (P : α → Prop) (f : α → β → α) (l : List β) (h : ∀ a b, P a → P (f a b)) : ∀ a, P a → P (l.foldl f a) := by
 induction l with
 | nil => exact fun a ha => ha
 | cons b r ih => exact fun a ha => ih _ (h a b ha)

theorem gather_keep (p : List (List Pl.POp)) (P : List Res → Prop) (hw : ∀ f S, readyTo S p 4 = [] → P f → P (withRes f (resOf S p))) : ∀ (k : Nat) (S : St) (f : List Res), P f → P (gatherGo p k S f)
 | 0, S, f, h => h
 | k + 1, S, f, h => by
  unfold gatherGo
  split
  ·rename_i hr; exact hw f S hr h
  ·refine fold_keep P _ _ (fun a b ha => ?_) f h
   cases hs : step S p b with
   | none => exact ha
   | some x => exact gather_keep p P hw k _ _ ha

theorem gather_rising (p : List (List Pl.POp)) (k : Nat) (S : St) (f : List Res) (h : Rising f) : Rising (gatherGo p k S f) :=
 gather_keep p Rising (fun f S _ hx => with_rising hx) k S f h

def knotOf (p : List (List Pl.POp)) (ms : List Int) : Option (List Int × List Int) := match follow p (beginTo p 4) [] 0 ms with
 | none => none
 | some (_, es) => if cycleOf es = [] then none else some (ms, cycleOf es)

def knotGo (p : List (List Pl.POp)) : Nat → St → List Int → Option (List Int × List Int)
 | 0, _, _ => none
 | k + 1, S, ms => if readyTo S p 4 = [] then knotOf p ms else (readyTo S p 4).findSome? fun n => match step S p n with
  | none => none
  | some (S', _) => knotGo p k S' (ms ++ [n])

def checkOf (p : List (List Pl.POp)) : Option (List Int × List Int) := knotGo p (remS p (beginTo p 4) + 1) (beginTo p 4) []

theorem knot_some (p : List (List Pl.POp)) : ∀ (k : Nat) (S : St) (pre : List Int) (sch c : List Int), knotGo p k S pre = some (sch, c) → ∃ ms S' l, sch = pre ++ ms ∧ run0 p S ms = some (S', l) ∧ readyTo S' p 4 = [] ∧ knotOf p sch = some (sch, c)
 | 0, S, pre, sch, c, h => by cases h
 | k + 1, S, pre, sch, c, h => by
  unfold knotGo at h
  split at h
  ·rename_i hr
   have hs : sch = pre := by
    unfold knotOf at h
    split at h
    ·cases h
    ·split at h
     ·cases h
     ·simp only [Option.some.injEq, Prod.mk.injEq] at h
      exact h.1.symm
   subst hs
   exact ⟨[], S, [], by simp, rfl, hr, h⟩
  ·obtain ⟨n, hn, hx⟩ := List.exists_of_findSome?_eq_some h
   cases hs : step S p n with
   | none => rw [hs] at hx; cases hx
   | some x =>
    obtain ⟨S1, e⟩ := x
    rw [hs] at hx
    obtain ⟨ms, S', l, h1, h2, h3, h4⟩ := knot_some p k S1 (pre ++ [n]) sch c hx
    refine ⟨n :: ms, S', e :: l, by rw [h1]; simp, ?_, h3, h4⟩
    rw [run0, hs]
    simp only
    rw [h2]

theorem check_some {p : List (List Pl.POp)} {sch c : List Int} (h : checkOf p = some (sch, c)) : ∃ S es, follow p (beginTo p 4) [] 0 sch = some (S, es) ∧ readyTo S p 4 = [] ∧ c = cycleOf es ∧ c ≠ [] := by
 obtain ⟨ms, S', l, h1, h2, h3, h4⟩ := knot_some p _ _ _ _ _ h
 rw [List.nil_append] at h1
 subst h1
 unfold knotOf at h4
 split at h4
 ·cases h4
 ·rename_i S2 es hf
  split at h4
  ·cases h4
  ·rename_i hc
   simp only [Option.some.injEq, Prod.mk.injEq, true_and] at h4
   refine ⟨S2, es, hf, ?_, h4.symm, by rw [← h4]; exact hc⟩
   have h5 := follow_run0 p sch (beginTo p 4) [] 0
   rw [hf, h2] at h5
   simp only [Option.map_some, Option.some.injEq, Prod.mk.injEq] at h5
   rw [h5.1]; exact h3

theorem outcomes_rising (p : List (List Pl.POp)) : Rising (outcomesOf p) := gather_rising p _ _ _ List.Pairwise.nil
end Go.Proofs.YtfdafcnfefbcbabGreat
