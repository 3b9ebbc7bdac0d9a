/-
 Several texts of ours in one: Plain, Leaf, Laws, Heap.
-/
import Derived.Test.YtfdafcnfefbcbabGreatRows
import Derived.WalkKit
import Derived.WalkLawsBesides
import Derived.Outline
import Derived.Deep.RegionHeld3
import Derived.Deep.AppendLies
/-
 Plain functions beside the program's reading of a text (package code) and beside the reference's; no Go text, no model: that the two agree.
-/
namespace Go.Proofs.YtfdafcnfefbcbabGreat.Pl
set_option linter.unusedVariables false

/-- An operation as the program keeps it. -/
structure POp where
 kind : Nat
 name : Nat
 block : Int

/-- What has been read of a text. -/
structure Draft where
 threads : List (List POp)
 ops : List POp
 blocks : Nat
 block : Int

def takesName (k : Nat) : Bool := k == 114 || k == 119 || k == 108 || k == 117 || k == 43 || k == 45 || k == 42 || k == 94 || k == 60 || k == 63

def isName (k n : Nat) : Bool :=
 if k == 114 || k == 119 then decide (97 ≤ n) && decide (n ≤ 100)
 else if k == 108 || k == 117 then n == 80 || n == 81
 else if k == 63 then decide (49 ≤ n) && decide (n ≤ 57)
 else decide (48 ≤ n) && decide (n ≤ 57)

def admits (d : Draft) (k : Nat) : Bool :=
 if k == 10 then d.block == -1 && decide (d.threads.length + 1 < 4)
 else if k == 91 then d.block == -1
 else if k == 93 then d.block != -1
 else if k == 33 then true
 else takesName k

def endThread (d : Draft) : Draft := { threads := d.threads ++ [d.ops], ops := [], blocks := 0, block := d.block }

def add (d : Draft) (k n : Nat) : Draft :=
 if k == 10 then endThread d
 else if k == 91 then { threads := d.threads, ops := d.ops ++ [⟨k, 0, d.blocks⟩], blocks := d.blocks + 1, block := d.blocks }
 else if k == 93 then { threads := d.threads, ops := d.ops ++ [⟨k, 0, d.block⟩], blocks := d.blocks, block := -1 }
 else { threads := d.threads, ops := d.ops ++ [⟨k, n, d.block⟩], blocks := d.blocks, block := d.block }

/-- What is read of the bytes that are left, from place 'i' on: the program, or none and the place. -/
def read : Draft → Nat → List Nat → Option (List (List POp)) × Nat
 | d, i, [] => if d.block == -1 then (some (d.threads ++ [d.ops]), 0) else (none, i)
 | d, i, [k] => if admits d k then (if takesName k then (none, i + 1) else read (add d k 0) (i + 1) []) else (none, i)
 | d, i, k :: n :: r =>
  if admits d k then
   (if takesName k then (if isName k n then read (add d k n) (i + 2) r else (none, i + 1)) else read (add d k 0) (i + 1) (n :: r))
  else (none, i)

def draft0 : Draft := ⟨[], [], 0, -1⟩

def isShared (k : Nat) : Bool := k == 114 || k == 119 || k == 108 || k == 117

def sharedOf (ops : List POp) : Nat := (ops.filter fun o => isShared o.kind).length

def countShared : List (List POp) → Nat
 | [] => 0
 | r :: rs => sharedOf r + countShared rs

/-- What New answers: the error and the place, or the program. -/
def new (s : List Nat) : Sum (Nat × Nat) (List (List POp)) :=
 if 100 < s.length then .inl (1, 0)
 else match (read draft0 0 s).1 with
  | none => .inl (2, (read draft0 0 s).2)
  | some p => if 10 < countShared p then .inl (3, 0) else .inr p

/-! The reference's. 'k': the operation whose second byte is awaited (0: none). -/

def place : Bool → Nat → Nat → Nat → List Nat → Int
 | inside, _, k, i, [] => if k != 0 || inside then i else -1
 | inside, lines, k, i, c :: r =>
  if k != 0 then (if isName k c then place inside lines 0 (i + 1) r else i)
  else if takesName c then place inside lines c (i + 1) r
  else if c == 33 then place inside lines 0 (i + 1) r
  else if c == 91 && !inside then place true lines 0 (i + 1) r
  else if c == 93 && inside then place false lines 0 (i + 1) r
  else if c == 10 && !inside && decide (lines < 4) then place inside (lines + 1) 0 (i + 1) r
  else i

def countBytes (f : Nat → Bool) (s : List Nat) : Nat := (s.filter f).length

def refNew (s : List Nat) : Sum (Nat × Int) Nat :=
 if 100 < s.length then .inl (1, 0)
 else if 0 ≤ place false 1 0 0 s then .inl (2, place false 1 0 0 s)
 else if 10 < countBytes isShared s then .inl (3, 0) else .inr (countBytes (fun c => c == 10) s + 1)

/-! ### The two agree -/

theorem nat_ne (n : Nat) : ((n : Int) != -1) = true := by rw [bne_iff_ne]; omega

theorem takes_ne {k : Nat} (h : takesName k = true) : (k == 10) = false ∧ (k == 91) = false ∧ (k == 93) = false ∧ (k == 33) = false ∧ (k != 0) = true := by
 simp only [takesName, Bool.or_eq_true, beq_iff_eq] at h
 refine ⟨?_, ?_, ?_, ?_, ?_⟩ <;> simp <;> omega

theorem admits_takes {d : Draft} {k : Nat} (h : takesName k = true) : admits d k = true := by
 obtain ⟨a, b, c, e, _⟩ := takes_ne h
 simp [admits, a, b, c, e, h]

theorem add_takes {d : Draft} {k : Nat} (n : Nat) (h : takesName k = true) : add d k n = { threads := d.threads, ops := d.ops ++ [⟨k, n, d.block⟩], blocks := d.blocks, block := d.block } := by
 obtain ⟨a, b, c, _⟩ := takes_ne h
 simp [add, a, b, c]

/-- A draft that can come up: the block that is open is the last that was begun. -/
def Fine (d : Draft) : Prop := d.block = -1 ∨ 0 ≤ d.block

theorem fine_add {d : Draft} (k n : Nat) (h : Fine d) : Fine (add d k n) := by
 unfold Fine at *
 unfold add endThread
 repeat' split
 all_goals first | exact h | (simp; done) | (right; simp)

/-- What a byte that is admitted and awaits no second does to the reference's state. -/
theorem place_step {d : Draft} {c : Nat} (i : Nat) (r : List Nat) (hf : Fine d) (ht : takesName c = false) :
  place (d.block != -1) (d.threads.length + 1) 0 i (c :: r) =
   if admits d c then place ((add d c 0).block != -1) ((add d c 0).threads.length + 1) 0 (i + 1) r else i := by
 rw [place]
 simp only [ht, bne_self_eq_false, Bool.false_eq_true, if_false]
 unfold admits add endThread
 by_cases h10 : c = 10
 ·subst h10
  by_cases hb : d.block = -1
  ·by_cases hl : d.threads.length + 1 < 4 <;> simp [hb, hl]
  ·simp [hb]
 ·by_cases h91 : c = 91
  ·subst h91
   by_cases hb : d.block = -1
   ·simp [hb, nat_ne]
   ·simp [hb]
  ·by_cases h93 : c = 93
   ·subst h93
    by_cases hb : d.block = -1 <;> simp [hb]
   ·by_cases h33 : c = 33
    ·subst h33; simp
    ·simp [h10, h91, h93, h33, ht]

theorem read_place : ∀ (s : List Nat) (d : Draft) (i : Nat), Fine d →
  ((read d i s).1 = none → place (d.block != -1) (d.threads.length + 1) 0 i s = (read d i s).2) ∧
  ((read d i s).1 ≠ none → place (d.block != -1) (d.threads.length + 1) 0 i s = -1)
 | [], d, i, hf => by
  by_cases hb : d.block = -1 <;> simp [read, place, hb]
 | [k], d, i, hf => by
  by_cases ht : takesName k = true
  ·rw [read]
   simp only [admits_takes ht, ht, if_true]
   rw [place]
   simp only [ht, bne_self_eq_false, Bool.false_eq_true, if_false, if_true]
   rw [place]
   simp [(takes_ne ht).2.2.2.2]
  ·have ht' : takesName k = false := by simpa using ht
   rw [read, place_step i [] hf ht']
   by_cases ha : admits d k = true
   ·simp only [ha, ht', if_true, Bool.false_eq_true, if_false]
    exact read_place [] (add d k 0) (i + 1) (fine_add _ _ hf)
   ·simp [ha]
 | k :: n :: r, d, i, hf => by
  by_cases ht : takesName k = true
  ·rw [read]
   simp only [admits_takes ht, ht, if_true]
   rw [place]
   simp only [ht, bne_self_eq_false, Bool.false_eq_true, if_false, if_true]
   rw [place]
   simp only [(takes_ne ht).2.2.2.2, if_true]
   by_cases hn : isName k n = true
   ·simp only [hn, if_true]
    have := read_place r (add d k n) (i + 2) (fine_add _ _ hf)
    rw [add_takes n ht] at this
    rw [add_takes n ht]
    exact this
   ·simp [hn]
  ·have ht' : takesName k = false := by simpa using ht
   rw [read, place_step i (n :: r) hf ht']
   by_cases ha : admits d k = true
   ·simp only [ha, ht', if_true, Bool.false_eq_true, if_false]
    exact read_place (n :: r) (add d k 0) (i + 1) (fine_add _ _ hf)
   ·simp [ha]

theorem sharedOf_append (a b : List POp) : sharedOf (a ++ b) = sharedOf a + sharedOf b := by simp [sharedOf]
theorem countShared_append (a b : List (List POp)) : countShared (a ++ b) = countShared a + countShared b := by
 induction a with
 | nil => simp [countShared]
 | cons x xs ih => simp [countShared, ih]; omega

/-- Shared operations of a draft. -/
def inDraft (d : Draft) : Nat := countShared d.threads + sharedOf d.ops

theorem name_not_shared {k n : Nat} (ht : takesName k = true) (h : isName k n = true) : isShared n = false ∧ (n == 10) = false := by
 simp only [isName, isShared] at *
 repeat' split at h
 all_goals simp at h ⊢
 all_goals omega

theorem add_counts (d : Draft) (k n : Nat) : inDraft (add d k n) = inDraft d + (if isShared k then 1 else 0) ∧ (add d k n).threads.length = d.threads.length + (if k == 10 then 1 else 0) := by
 unfold inDraft add endThread
 by_cases h10 : k = 10
 ·subst h10; simp [countShared_append, countShared, sharedOf, isShared]
 ·by_cases h91 : k = 91
  ·subst h91; simp [sharedOf, isShared]
  ·by_cases h93 : k = 93
   ·subst h93; simp [sharedOf, isShared]
   ·by_cases hs : isShared k = true
    ·simp [h10, h91, h93, hs, sharedOf]; omega
    ·simp [h10, h91, h93, hs, sharedOf]

theorem read_counts : ∀ (s : List Nat) (d : Draft) (i : Nat) (p : List (List POp)), (read d i s).1 = some p →
  countShared p = inDraft d + countBytes isShared s ∧ p.length = d.threads.length + 1 + countBytes (fun c => c == 10) s
 | [], d, i, p => by
  intro h
  rw [read] at h
  split at h
  ·simp at h; subst h
   simp [countShared_append, countShared, inDraft, countBytes]
  ·cases h
 | [k], d, i, p => by
  intro h
  rw [read] at h
  split at h
  ·split at h
   ·cases h
   ·have := read_counts [] _ _ _ h
    have a := add_counts d k 0
    rw [this.1, this.2, a.1, a.2]
    constructor
    ·by_cases e : isShared k = true <;> simp [countBytes, e]
    ·by_cases e : k = 10 <;> simp [countBytes, e]
  ·cases h
 | k :: n :: r, d, i, p => by
  intro h
  rw [read] at h
  split at h
  ·split at h
   ·split at h
    ·rename_i ht hn
     have := read_counts r _ _ _ h
     have a := add_counts d k n
     have b := name_not_shared ht hn
     rw [this.1, this.2, a.1, a.2]
     constructor
     ·by_cases e : isShared k = true <;> simp [countBytes, e, b.1] <;> omega
     ·have b2 : n ≠ 10 := by simpa using b.2
      by_cases e : k = 10 <;> simp [countBytes, e, b2] <;> omega
    ·cases h
   ·have := read_counts (n :: r) _ _ _ h
    have a := add_counts d k 0
    rw [this.1, this.2, a.1, a.2]
    constructor
    ·by_cases e : isShared k = true <;> simp [countBytes, e] <;> omega
    ·by_cases e : k = 10 <;> simp [countBytes, e] <;> omega
  ·cases h

/-- P3: both answers are one. -/
theorem new_ref (s : List Nat) :
  (∃ e n, new s = .inl (e, n) ∧ refNew s = .inl (e, (n : Int))) ∨ (∃ p, new s = .inr p ∧ refNew s = .inr p.length) := by
 have hf : Fine draft0 := Or.inl rfl
 have hp := read_place s draft0 0 hf
 have h0 : (draft0.block != -1) = false := rfl
 have h1 : draft0.threads.length + 1 = 1 := rfl
 rw [h0, h1] at hp
 unfold new refNew
 by_cases hl : 100 < s.length
 ·left; exact ⟨1, 0, by simp [hl], by simp [hl]⟩
 ·simp only [hl, if_false]
  cases hr : (read draft0 0 s).1 with
  | none =>
   have := hp.1 hr
   left
   refine ⟨2, _, rfl, ?_⟩
   rw [this, if_pos (by omega)]
  | some p =>
   have h2 := hp.2 (by rw [hr]; simp)
   have hc := read_counts s draft0 0 p hr
   rw [h2, if_neg (by omega)]
   have c1 : countShared p = countBytes isShared s := by rw [hc.1]; simp [inDraft, draft0, countShared, sharedOf]
   have c2 : p.length = countBytes (fun c => c == 10) s + 1 := by rw [hc.2]; simp [draft0]; omega
   rw [← c2]
   show (∃ e n, (if 10 < countShared p then Sum.inl (3, 0) else Sum.inr p) = Sum.inl (e, n) ∧ _) ∨ (∃ q, (if 10 < countShared p then Sum.inl (3, 0) else Sum.inr p) = Sum.inr q ∧ _)
   rw [c1]
   by_cases h10 : 10 < countBytes isShared s
   ·left; exact ⟨3, 0, by simp [h10], by simp [h10]⟩
   ·right; exact ⟨p, by simp [h10], by simp [h10]⟩

end Go.Proofs.YtfdafcnfefbcbabGreat.Pl

/-
 The contracts of the small functions that only reckon: package code's and package interleaveref's.
-/
namespace Go.Proofs.YtfdafcnfefbcbabGreat
open Go.RowKit
set_option linter.unusedVariables false

theorem ret_bool {a b : Bool} (h : a = b) : Ending.returned (.bool a) = .returned (.bool b) := by rw [h]
theorem ret_int {k : IntKind} {a b : Int} (h : a = b) : Ending.returned (.int k a) = .returned (.int k b) := by rw [h]
theorem ret_string {a b : ByteArray} (h : a = b) : Ending.returned (.string a) = .returned (.string b) := by rw [h]

theorem takesName_any (k : Nat) (w : World) : Calls Tryz.prog 70 #[.int .u8 (k : Int)] w fun e w' => e = .returned (.bool (Pl.takesName k)) ∧ w' = w := by
 go_enter Tryz.func70, Tryz.ntmps70
 go_wp2
 all_goals go_ret
 all_goals refine ⟨ret_bool ?_, rfl⟩
 all_goals (simp only [beq_iff_eq, beq_eq_false_iff_ne] at *; simp [Pl.takesName]; omega)

theorem isShared_any (k n : Nat) (b : Int) (w : World) : Calls Tryz.prog 74 #[.agg #[.int .u8 (k : Int), .int .u8 (n : Int), .int .i64 b]] w fun e w' => e = .returned (.bool (Pl.isShared k)) ∧ Below w.heap.size w w' := by
 go_enter Tryz.func74, Tryz.ntmps74
 go_wp2
 all_goals go_ret
 all_goals refine ⟨ret_bool ?_, (Below.refl _ _).alloc (Nat.le_refl _) _⟩
 all_goals (simp only [beq_iff_eq, beq_eq_false_iff_ne] at *; simp [Pl.isShared]; omega)

theorem nat_beq (k m : Nat) : ((k : Int) == (m : Int)) = (k == m) := by
 rw [Bool.eq_iff_iff]; simp; omega

theorem isName_any (k n : Nat) (w : World) : Calls Tryz.prog 71 #[.int .u8 (k : Int), .int .u8 (n : Int)] w fun e w' => e = .returned (.bool (Pl.isName k n)) ∧ w' = w := by
 go_enter Tryz.func71, Tryz.ntmps71
 go_wp2
 all_goals go_ret
 all_goals refine ⟨ret_bool ?_, rfl⟩
 all_goals (rw [Bool.eq_iff_iff])
 all_goals (simp [Pl.isName] at *)
 all_goals first | omega | (repeat' split) <;> first | omega | (simp; omega)

theorem num_any (x : Int) (w : World) (h0 : -9223372036854775808 ≤ x) (h1 : x ≤ 9223372036854775807) : Calls Tryz.prog 30 #[.int .i64 x] w fun e w' => e = .returned (.int .i64 x) ∧ w' = w := by
 go_enter Tryz.func30, Tryz.ntmps30
 go_wp2
 go_ret
 exact ⟨rfl, rfl⟩

/-- The second bytes that an operation can have. -/
def wantsB (k : Nat) : ByteArray :=
 if k == 114 || k == 119 then ⟨#[97, 98, 99, 100]⟩
 else if k == 108 || k == 117 then ⟨#[80, 81]⟩
 else if k == 43 || k == 45 || k == 42 || k == 94 || k == 60 then ⟨#[48, 49, 50, 51, 52, 53, 54, 55, 56, 57]⟩
 else if k == 63 then ⟨#[49, 50, 51, 52, 53, 54, 55, 56, 57]⟩
 else ⟨#[]⟩

theorem wants_any (k : Nat) (w : World) : Calls Tryz.prog 75 #[.int .u8 (k : Int)] w fun e w' => e = .returned (.string (wantsB k)) ∧ w' = w := by
 go_enter Tryz.func75, Tryz.ntmps75
 go_wp2
 all_goals go_ret
 all_goals refine ⟨ret_string ?_, rfl⟩
 all_goals (simp only [beq_iff_eq, beq_eq_false_iff_ne] at *)
 all_goals unfold wantsB
 all_goals repeat (first | rfl | rw [if_pos (by simp; omega)] | rw [if_neg (by simp; omega)])

def amongB (c : Nat) (s : ByteArray) : Bool := s.data.toList.any fun b => b.toNat == c

theorem amongTo_succ (c : Nat) (s : ByteArray) (k : Nat) (h : k < s.size) (h0 : (s.data.toList.take k).any (fun b => b.toNat == c) = false) :
  (s.data.toList.take (k + 1)).any (fun b => b.toNat == c) = (s[k].toNat == c) := by
 rw [List.take_succ_eq_append_getElem (by simpa using h), List.any_append, h0]
 simp; rfl

theorem among_any (c : Nat) (s : ByteArray) (w : World) (hs : s.size ≤ maxLen) : Calls Tryz.prog 53 #[.int .u8 (c : Int), .string s] w fun e w' => e = .returned (.bool (amongB c s)) ∧ w' = w := by
 unfold maxLen at hs
 go_enter Tryz.func53, Tryz.ntmps53
 go_wp2
 go_loop [5] (fun i => ∃ k : Nat, k ≤ s.size ∧ i = .int .i64 k ∧ Hid ((s.data.toList.take k).any (fun b => b.toNat == c) = false)) (fun i => s.size - (intOf i).toNat)
 case atStart => exact ⟨0, Nat.zero_le _, rfl, rfl⟩
 case round =>
  obtain ⟨k, hk, rfl, hh⟩ := hrel
  by_cases hlt : k < s.size
  ·have hsn : Hid _ := amongTo_succ c s k hlt hh.out
   go_wp2
   ·go_ret
    refine ⟨ret_bool ?_, rfl⟩
    have e : (s[k].toNat == c) = true := by rw [← nat_beq]; assumption
    have h2 := hsn.out
    rw [e] at h2
    unfold amongB
    rw [← List.take_append_drop (k + 1) s.data.toList, List.any_append, h2]; rfl
   ·go_round
    case rel => exact ⟨k + 1, by omega, by go_num, by
      have e : (s[k].toNat == c) = false := by rw [← nat_beq]; assumption
      exact hsn.out.trans e⟩
    case measure => simp [intOf]; omega
  ·go_wp2
   go_ret
   refine ⟨ret_bool ?_, rfl⟩
   have h2 := hh.out
   rw [List.take_of_length_le (by simp; omega)] at h2
   exact h2.symm

theorem wpAnyH_callw {P : Program} {md : Region.Mode} {ops : Array Oper} {Q : Exit → Act → World → Prop} {S : World → Prop} {fuel : Nat} {listed : Array Bool} {a : Act} {w : World} (i : Nat) (o : Oper) (hr : Region.ready md ops listed = [i]) (ho : ops[i]? = some o) (hw : Region.wanted o (yielded ops a.tmps) = true)
  (f : FuncId) (args : Array Value) (hrun : (execOp a.eval o).run P w = .ok (.enter f args) w) (T : Ending → World → Prop) (hc : Calls P f args w T)
  (h : ∀ e w', T e w' → ∃ v, e = .returned v ∧ S w' ∧ wpAnyH P md ops Q S fuel (listed.setIfInBounds i true) (a.put o.dst v) w') : wpAnyH P md ops Q S (fuel + 1) listed a w := by
 refine wpAnyH_ready hr (by simp) (AllReadyH.cons ho (fun K' hK => ?_) AllReadyH.nil)
 rw [if_pos hw]
 unfold Oper.wp
 rw [hrun, Oper.upon_enter]
 refine hc.mono fun e w'' hh => ?_
 obtain ⟨v, rfl, hS, hn⟩ := h e w'' hh
 exact hK.out _ _ hS (fun _ => hn)

theorem wpAnyH_skip {P : Program} {md : Region.Mode} {ops : Array Oper} {Q : Exit → Act → World → Prop} {S : World → Prop} {fuel : Nat} {listed : Array Bool} {a : Act} {w w1 : World} (i : Nat) (o : Oper) (hr : Region.ready md ops listed = [i]) (ho : ops[i]? = some o) (hw : Region.wanted o (yielded ops a.tmps) = true) (hd : o.dst = none)
  (hrun : (execOp a.eval o).run P w = .ok .skip w1) (hS : S w1) (h : wpAnyH P md ops Q S fuel (listed.setIfInBounds i true) a w1) : wpAnyH P md ops Q S (fuel + 1) listed a w := by
 refine wpAnyH_ready hr (by simp) (AllReadyH.cons ho (fun K' hK => ?_) AllReadyH.nil)
 rw [if_pos hw]
 unfold Oper.wp
 rw [hrun, Oper.upon_skip, hd]
 exact hK.out _ _ hS (fun _ => h)

theorem wpAnyH_yield {P : Program} {md : Region.Mode} {ops : Array Oper} {Q : Exit → Act → World → Prop} {S : World → Prop} {fuel : Nat} {listed : Array Bool} {a : Act} {w w1 : World} (i : Nat) (o : Oper) (hr : Region.ready md ops listed = [i]) (ho : ops[i]? = some o) (hw : Region.wanted o (yielded ops a.tmps) = true) (v : Value)
  (hrun : (execOp a.eval o).run P w = .ok (.value v) w1) (hS : S w1) (h : wpAnyH P md ops Q S fuel (listed.setIfInBounds i true) (a.put o.dst v) w1) : wpAnyH P md ops Q S (fuel + 1) listed a w := by
 refine wpAnyH_ready hr (by simp) (AllReadyH.cons ho (fun K' hK => ?_) AllReadyH.nil)
 rw [if_pos hw]
 unfold Oper.wp
 rw [hrun, Oper.upon_value]
 exact hK.out _ _ hS (fun _ => h)

/-- A call and the making of a variable, whichever comes first. -/
theorem wpAnyH_callYield {P : Program} {md : Region.Mode} {ops : Array Oper} {Q : Exit → Act → World → Prop} {S : World → Prop} {fuel : Nat} {listed : Array Bool} {a : Act} {w w1 : World} (i j : Nat) (oi oj : Oper) (hr : Region.ready md ops listed = [i, j]) (hoi : ops[i]? = some oi) (hoj : ops[j]? = some oj) (hwi : Region.wanted oi (yielded ops a.tmps) = true) (hwj : Region.wanted oj (yielded ops a.tmps) = true)
  (f : FuncId) (args : Array Value) (hruni : (execOp a.eval oi).run P w = .ok (.enter f args) w) (T : Ending → World → Prop) (hc : Calls P f args w T) (v : Value) (hrunj : (execOp a.eval oj).run P w = .ok (.value v) w1) (hSj : S w1)
  (hi : ∀ e w', T e w' → ∃ v, e = .returned v ∧ S w' ∧ wpAnyH P md ops Q S fuel (listed.setIfInBounds i true) (a.put oi.dst v) w') (hj : wpAnyH P md ops Q S fuel (listed.setIfInBounds j true) (a.put oj.dst v) w1) : wpAnyH P md ops Q S (fuel + 1) listed a w := by
 refine wpAnyH_ready hr (by simp) (AllReadyH.cons hoi (fun K' hK => ?_) (AllReadyH.cons hoj (fun K' hK => ?_) AllReadyH.nil))
 ·rw [if_pos hwi]
  unfold Oper.wp
  rw [hruni, Oper.upon_enter]
  refine hc.mono fun e w'' hh => ?_
  obtain ⟨v, rfl, hS, hn⟩ := hi e w'' hh
  exact hK.out _ _ hS (fun _ => hn)
 ·rw [if_pos hwj]
  unfold Oper.wp
  rw [hrunj, Oper.upon_value]
  exact hK.out _ _ hSj (fun _ => hj)

/-- An operation of a region that draws comes up first; what it yields is written out. -/
theorem takeAt {P : Program} {md : Region.Mode} {ops : Array Oper} {Q : Exit → Act → World → Prop} {S : World → Prop} {fuel : Nat} {listed : Array Bool} {ts ts' : List Value} {ds : List Deferred} {w : World} {d : Nat} {op : Op} {ty : TypeId} {ps : String} {af : Array Edge} {gd : Option (Nat × Bool)} (i : Nat) (v : Value) (hi : ops[i]? = some ⟨some d, op, ty, ps, af, gd⟩)
  (hy : YieldsIf P ops S ⟨some d, op, ty, ps, af, gd⟩ v ⟨ts.toArray, ds⟩) (hS : S w) (h : wpAnyH P md ops Q S fuel (listed.setIfInBounds i true) ⟨ts'.toArray, ds⟩ w)
  (hs : Region.noSelect ops = true := by kernel_rfl) (hf : Region.free md ops listed i = true := by kernel_rfl) (hr : (Region.ready md ops listed).contains i = true := by kernel_rfl) (ht : ts.set d v = ts' := by (simp only [List.set_cons_zero, List.set_cons_succ]; rfl))
  (hQ : ∀ c a w, Q (.panic c) (a.put (some d) v) w → Q (.panic c) a w := by exact fun _ _ _ h => h) : wpAnyH P md ops Q S (fuel + 1) listed ⟨ts.toArray, ds⟩ w := by
 subst ht
 exact wpAnyH_take hi hs hf hr hQ hy hS (by simpa [Act.put] using h)

theorem takeR {P : Program} {md : Region.Mode} {ops : Array Oper} {Q : Exit → Act → World → Prop} {S : World → Prop} {fuel : Nat} {listed : Array Bool} {ts ts' : List Value} {ds : List Deferred} {w : World} {d : Nat} {op : Op} {ty : TypeId} {ps : String} {af : Array Edge} {gd : Option (Nat × Bool)} (i : Nat) (v : Value) (hi : ops[i]? = some ⟨some d, op, ty, ps, af, gd⟩)
  (hS : S w) (h : wpAnyH P md ops Q S fuel (listed.setIfInBounds i true) ⟨ts'.toArray, ds⟩ w) (hy : YieldsIf P ops S ⟨some d, op, ty, ps, af, gd⟩ v ⟨ts.toArray, ds⟩ := by exact .inl ⟨by rfl, fun _ _ => rfl⟩)
  (hs : Region.noSelect ops = true := by kernel_rfl) (hf : Region.free md ops listed i = true := by kernel_rfl) (hr : (Region.ready md ops listed).contains i = true := by kernel_rfl) (ht : ts.set d v = ts' := by (simp only [List.set_cons_zero, List.set_cons_succ]; rfl))
  (hQ : ∀ c a w, Q (.panic c) (a.put (some d) v) w → Q (.panic c) a w := by exact fun _ _ _ h => h) : wpAnyH P md ops Q S (fuel + 1) listed ⟨ts.toArray, ds⟩ w := takeAt i v hi hy hS h hs hf hr ht hQ

theorem takeS {P : Program} {md : Region.Mode} {ops : Array Oper} {Q : Exit → Act → World → Prop} {S : World → Prop} {fuel : Nat} {listed : Array Bool} {ts ts' : List Value} {ds : List Deferred} {w : World} {d : Nat} {op : Op} {ty : TypeId} {ps : String} {af : Array Edge} {gd : Option (Nat × Bool)} (i : Nat) (v : Value) (hi : ops[i]? = some ⟨some d, op, ty, ps, af, gd⟩)
  (hS : S w) (h : wpAnyH P md ops Q S fuel (listed.setIfInBounds i true) ⟨ts'.toArray, ds⟩ w) (hy : YieldsIf P ops S ⟨some d, op, ty, ps, af, gd⟩ v ⟨ts.toArray, ds⟩ := by exact .inl ⟨by rfl, fun w hw => by go_simp⟩)
  (hs : Region.noSelect ops = true := by kernel_rfl) (hf : Region.free md ops listed i = true := by kernel_rfl) (hr : (Region.ready md ops listed).contains i = true := by kernel_rfl) (ht : ts.set d v = ts' := by (simp only [List.set_cons_zero, List.set_cons_succ]; rfl))
  (hQ : ∀ c a w, Q (.panic c) (a.put (some d) v) w → Q (.panic c) a w := by exact fun _ _ _ h => h) : wpAnyH P md ops Q S (fuel + 1) listed ⟨ts.toArray, ds⟩ w := takeAt i v hi hy hS h hs hf hr ht hQ

def opCells (o : Pl.POp) : List Value := [.int .u8 (o.kind : Int), .int .u8 (o.name : Int), .int .i64 o.block]
def rowCells : List Pl.POp → List Value
 | [] => []
 | o :: r => opCells o ++ rowCells r

theorem rowCells_append (a b : List Pl.POp) : rowCells (a ++ b) = rowCells a ++ rowCells b := by
 induction a with
 | nil => rfl
 | cons x xs ih => simp [rowCells, ih]
theorem rowCells_at : ∀ (a : List Pl.POp) (i : Nat) (o : Pl.POp), a[i]? = some o → (rowCells a)[i * 3]? = some (.int .u8 (o.kind : Int)) ∧ (rowCells a)[i * 3 + 1]? = some (.int .u8 (o.name : Int)) ∧ (rowCells a)[i * 3 + 2]? = some (.int .i64 o.block)
 | [], i, o, h => by simp at h
 | x :: xs, 0, o, h => by simp at h; subst h; simp [rowCells, opCells]
 | x :: xs, i + 1, o, h => by
  have := rowCells_at xs i o (by simpa using h)
  rw [show (i + 1) * 3 = i * 3 + 3 by omega, show i * 3 + 3 + 1 = i * 3 + 1 + 3 by omega, show i * 3 + 3 + 2 = i * 3 + 2 + 3 by omega]
  simpa [rowCells, opCells] using this

/-- A row of the call's own whose block lies below 'hi'. -/
def OwnsIn (w : World) (lo hi : Nat) (e : TypeId) (size : Nat) (v : Value) (n : Nat) (xs : List Value) : Prop :=
 w.ownsRow lo e size v n xs ∧ ∀ g, v.ownBlock = some g → g < hi

theorem ownsRow_of_block {w w' : World} {lo : Nat} {e : TypeId} {size : Nat} {v : Value} {n : Nat} {xs : List Value} (h : w.ownsRow lo e size v n xs)
  (hb : ∀ g, v.ownBlock = some g → w'.heap[g]? = w.heap[g]?) : w'.ownsRow lo e size v n xs := by
 refine ⟨h.1, ?_⟩
 rcases h.2 with h2 | ⟨g, cap, cur, hv, hg, hh, r⟩
 ·exact .inl h2
 ·exact .inr ⟨g, cap, cur, hv, hg, by rw [hb g (by rw [hv]; rfl)]; exact hh, r⟩

theorem OwnsIn.of_block {w w' : World} {lo hi : Nat} {e : TypeId} {size : Nat} {v : Value} {n : Nat} {xs : List Value} (h : OwnsIn w lo hi e size v n xs)
  (hb : ∀ g, v.ownBlock = some g → w'.heap[g]? = w.heap[g]?) : OwnsIn w' lo hi e size v n xs := ⟨ownsRow_of_block h.1 hb, h.2⟩

theorem OwnsIn.below {w w' : World} {lo hi : Nat} {e : TypeId} {size : Nat} {v : Value} {n : Nat} {xs : List Value} (h : OwnsIn w lo hi e size v n xs)
  (hb : Below hi w w') : OwnsIn w' lo hi e size v n xs := h.of_block fun g hg => hb.block g (h.2 g hg)

theorem OwnsIn.mono {w : World} {lo lo' hi hi' : Nat} {e : TypeId} {size : Nat} {v : Value} {n : Nat} {xs : List Value} (h : OwnsIn w lo hi e size v n xs)
  (h1 : lo' ≤ lo) (h2 : hi ≤ hi') : OwnsIn w lo' hi' e size v n xs := by
 refine ⟨⟨h.1.1, ?_⟩, fun g hg => Nat.lt_of_lt_of_le (h.2 g hg) h2⟩
 rcases h.1.2 with h2 | ⟨g, cap, cur, hv, hg, hh, r⟩
 ·exact .inl h2
 ·exact .inr ⟨g, cap, cur, hv, by omega, hh, r⟩

theorem ownsRow_in {w : World} {lo : Nat} {e : TypeId} {size : Nat} {v : Value} {n : Nat} {xs : List Value} (h : w.ownsRow lo e size v n xs) : OwnsIn w lo w.heap.size e size v n xs :=
 ⟨h, fun g hg => (h.lt g hg).2⟩

/-- Rows of two types lie in two blocks. -/
theorem owns_apart {w : World} {lo lo' : Nat} {e e' : TypeId} {size size' : Nat} {v v' : Value} {n n' : Nat} {xs xs' : List Value} (h : w.ownsRow lo e size v n xs) (h' : w.ownsRow lo' e' size' v' n' xs') (hne : e ≠ e')
  {g : Nat} (hg : v.ownBlock = some g) : v'.ownBlock ≠ some g := by
 intro hg'
 rcases h.2 with ⟨rfl, _⟩ | ⟨g1, _, _, rfl, _, hh, _⟩
 ·simp [Value.ownBlock] at hg
 ·rcases h'.2 with ⟨rfl, _⟩ | ⟨g2, _, _, rfl, _, hh', _⟩
  ·simp [Value.ownBlock] at hg'
  ·simp [Value.ownBlock] at hg hg'
   subst hg; subst hg'
   rw [hh] at hh'
   simp at hh'
   exact hne hh'.2

theorem owns_form {w : World} {lo : Nat} {e : TypeId} {size : Nat} {v : Value} {n : Nat} {xs : List Value} (h : w.ownsRow lo e size v n xs) : ∃ a cap, v = .slice a n cap := by
 rcases h.2 with ⟨rfl, rfl⟩ | ⟨g, cap, _, rfl, _⟩
 ·exact ⟨none, 0, rfl⟩
 ·exact ⟨_, cap, rfl⟩

/-- The rows of operations 'p', behind the value v, all in blocks from lo up to hi. -/
def RowsIn (w : World) (lo hi : Nat) (v : Value) (p : List (List Pl.POp)) : Prop :=
 ∃ vs : List Value, OwnsIn w lo hi 158 1 v p.length vs ∧ ∀ (i : Nat) r, p[i]? = some r → ∃ u, vs[i]? = some u ∧ OwnsIn w lo hi 165 3 u r.length (rowCells r)

theorem RowsIn.below {w w' : World} {lo hi : Nat} {v : Value} {p : List (List Pl.POp)} (h : RowsIn w lo hi v p) (hb : Below hi w w') : RowsIn w' lo hi v p := by
 obtain ⟨vs, h1, h2⟩ := h
 exact ⟨vs, h1.below hb, fun i r hr => by obtain ⟨u, hu, ho⟩ := h2 i r hr; exact ⟨u, hu, ho.below hb⟩⟩

theorem RowsIn.mono {w : World} {lo lo' hi hi' : Nat} {v : Value} {p : List (List Pl.POp)} (h : RowsIn w lo hi v p) (h1 : lo' ≤ lo) (h2 : hi ≤ hi') : RowsIn w lo' hi' v p := by
 obtain ⟨vs, g1, g2⟩ := h
 exact ⟨vs, g1.mono h1 h2, fun i r hr => by obtain ⟨u, hu, ho⟩ := g2 i r hr; exact ⟨u, hu, ho.mono h1 h2⟩⟩

theorem RowsIn.setCell {w : World} {lo hi : Nat} {v : Value} {p : List (List Pl.POp)} (h : RowsIn w lo hi v p) {a : Addr} (ha : a.block < lo) (x : Value) : RowsIn (w.setCell a x) lo hi v p := by
 obtain ⟨vs, g1, g2⟩ := h
 exact ⟨vs, ⟨ownsRow_setCell_below g1.1 ha x, g1.2⟩, fun i r hr => by obtain ⟨u, hu, ho⟩ := g2 i r hr; exact ⟨u, hu, ownsRow_setCell_below ho.1 ha x, ho.2⟩⟩

/-- How the reader's draft lies in memory: its four cells in block sb; the finished rows in blocks from lo up to hi; the row that is being read from hi on. -/
structure DraftAt (w : World) (sb lo hi : Nat) (D : Pl.Draft) : Prop where
 order : sb < lo ∧ lo ≤ hi ∧ hi ≤ w.heap.size
 at0 : ∃ v, w.cell? ⟨sb, 0, none⟩ = some v ∧ RowsIn w lo hi v D.threads
 at1 : ∃ u, w.cell? ⟨sb, 1, none⟩ = some u ∧ w.ownsRow hi 165 3 u D.ops.length (rowCells D.ops)
 at2 : w.cell? ⟨sb, 2, none⟩ = some (.int .i64 (D.blocks : Int))
 at3 : w.cell? ⟨sb, 3, none⟩ = some (.int .i64 D.block)
 free : ∀ o, w.frozen? ⟨sb, o, none⟩ = false

theorem Tryz.info165 : (Tryz.prog.info? 165).map (fun i => (i.zero, i.size, i.bytes)) = some (some (.agg #[.int .u8 0, .int .u8 0, .int .i64 0]), 3, 16) := by kernel_rfl
theorem Tryz.info158 : (Tryz.prog.info? 158).map (fun i => (i.zero, i.size, i.bytes)) = some (some (.slice none 0 0), 1, 24) := by kernel_rfl

/-- What endThread's append does to the rows: the finished ones stay, the one that was being read joins them. -/
theorem rows_append {w w1 : World} {lo hi g cap : Nat} {v u : Value} {p : List (List Pl.POp)} {r : List Pl.POp} {vs : List Value}
  (h1 : OwnsIn w lo hi 158 1 v p.length vs) (h2 : ∀ (i : Nat) r, p[i]? = some r → ∃ u, vs[i]? = some u ∧ OwnsIn w lo hi 165 3 u r.length (rowCells r))
  (hu : w.ownsRow hi 165 3 u r.length (rowCells r)) (hlh : lo ≤ hi) (hh : hi ≤ w.heap.size) (hw : w.heap.size ≤ w1.heap.size)
  (hown : w1.ownsRow lo 158 1 (.slice (some ⟨g, 0, none⟩) (p.length + 1) cap) (p.length + 1) (vs ++ [u]))
  (hgrow : ∀ k, k < w.heap.size → v.ownBlock ≠ some k → w1.heap[k]? = w.heap[k]?) :
  RowsIn w1 lo w1.heap.size (.slice (some ⟨g, 0, none⟩) (p.length + 1) cap) (p ++ [r]) := by
 have hl : vs.length = p.length := by have := h1.1.1; omega
 refine ⟨vs ++ [u], by simpa using ownsRow_in hown, fun i q hq => ?_⟩
 have keep : ∀ {u q}, w.ownsRow lo 165 3 u q.length (rowCells q) → OwnsIn w1 lo w1.heap.size 165 3 u q.length (rowCells q) := fun {u q} ho => by
  refine ownsRow_in (ownsRow_of_block ho fun k hk => hgrow k (ho.lt k hk).2 ?_)
  exact owns_apart ho h1.1 (by decide) hk
 by_cases hi' : i < p.length
 ·rw [List.getElem?_append_left hi'] at hq
  obtain ⟨u', hu', ho⟩ := h2 i q hq
  exact ⟨u', by rw [List.getElem?_append_left (by omega)]; exact hu', keep ho.1⟩
 ·have e : i = p.length := by
   have := (List.getElem?_eq_some_iff.1 hq).1
   simp at this; omega
  subst e
  simp at hq
  subst hq
  refine ⟨u, by rw [← hl]; simp, keep ?_⟩
  exact (OwnsIn.mono (ownsRow_in hu) hlh (Nat.le_refl _)).1

/-- The two worlds part in block sb alone. -/
structure Off (sb : Nat) (w w' : World) : Prop where
 os : w'.os = w.os
 tape : w'.tape = w.tape
 output : w'.output = w.output
 size : w'.heap.size = w.heap.size
 block : ∀ k, k ≠ sb → w'.heap[k]? = w.heap[k]?
 frozen : ∀ o, w'.frozen? ⟨sb, o, none⟩ = w.frozen? ⟨sb, o, none⟩

theorem Off.refl (sb : Nat) (w : World) : Off sb w w := ⟨rfl, rfl, rfl, rfl, fun _ _ => rfl, fun _ => rfl⟩
theorem Off.setCell {sb : Nat} {w w' : World} (h : Off sb w w') (o : Nat) (x : Value) : Off sb w (w'.setCell ⟨sb, o, none⟩ x) :=
 ⟨h.os, h.tape, h.output, by rw [World.size_setCell]; exact h.size, fun k hk => by rw [Below.heap_setCell _ _ _ _ (by simpa using hk)]; exact h.block k hk, fun o => by rw [World.frozen?_setCell]; exact h.frozen o⟩
theorem Off.below {sb B : Nat} {w0 w w' : World} (h : Off sb w w') (hb : Below B w0 w) (hB : B ≤ sb) : Below B w0 w' :=
 hb.trans ⟨h.os, h.tape, h.output, by rw [h.size]; exact Nat.le_refl _, fun k hk => h.block k (by omega)⟩

/-- The draft behind an append to the row that is being read, and stores into its own cells. -/
theorem draft_row {w w1 W : World} {sb lo hi : Nat} {D : Pl.Draft} {v u : Value} (h1 : sb < lo) (h2 : lo ≤ hi) (h3 : hi ≤ w.heap.size) (hr : RowsIn w lo hi v D.threads) (hb : Below hi w w1) (off : Off sb w1 W)
  (c0 : W.cell? ⟨sb, 0, none⟩ = some v) (c1 : W.cell? ⟨sb, 1, none⟩ = some u) (hu : w1.ownsRow hi 165 3 u D.ops.length (rowCells D.ops))
  (c2 : W.cell? ⟨sb, 2, none⟩ = some (.int .i64 (D.blocks : Int))) (c3 : W.cell? ⟨sb, 3, none⟩ = some (.int .i64 D.block)) (free : ∀ o, w.frozen? ⟨sb, o, none⟩ = false) : DraftAt W sb lo hi D := by
 refine ⟨⟨h1, h2, by rw [off.size]; have := hb.size; omega⟩, ⟨v, c0, ?_⟩, ⟨u, c1, ?_⟩, c2, c3, fun o => ?_⟩
 ·obtain ⟨vs, g1, g2⟩ := hr.below hb
  refine ⟨vs, g1.of_block fun g hg => off.block g ?_, fun i r hi => ?_⟩
  ·have := (g1.1.lt g hg).1; omega
  ·obtain ⟨x, hx, ho⟩ := g2 i r hi
   exact ⟨x, hx, ho.of_block fun g hg => off.block g (by have := (ho.1.lt g hg).1; omega)⟩
 ·exact ownsRow_of_block hu fun g hg => off.block g (by have := (hu.lt g hg).1; omega)
 ·rw [off.frozen o, hb.frozen (p := ⟨sb, o, none⟩) (show sb < hi by omega)]; exact free o

/-- The draft behind a thread's end. -/
theorem draft_end {w w1 W : World} {sb lo hi : Nat} {D : Pl.Draft} {v : Value} (h1 : sb < lo) (h2 : lo ≤ hi) (h3 : hi ≤ w1.heap.size) (hr : RowsIn w1 lo w1.heap.size v (D.threads ++ [D.ops])) (hb : Below lo w w1) (off : Off sb w1 W)
  (c0 : W.cell? ⟨sb, 0, none⟩ = some v) (c1 : W.cell? ⟨sb, 1, none⟩ = some (.slice none 0 0))
  (c2 : W.cell? ⟨sb, 2, none⟩ = some (.int .i64 0)) (c3 : W.cell? ⟨sb, 3, none⟩ = some (.int .i64 D.block)) (free : ∀ o, w.frozen? ⟨sb, o, none⟩ = false) : DraftAt W sb lo W.heap.size (Pl.endThread D) := by
 refine ⟨⟨h1, by rw [off.size]; omega, Nat.le_refl _⟩, ⟨v, c0, ?_⟩, ⟨_, c1, World.ownsRow_nil _ _ _ _⟩, c2, c3, fun o => ?_⟩
 ·obtain ⟨vs, g1, g2⟩ := hr
  rw [off.size]
  refine ⟨vs, g1.of_block fun g hg => off.block g ?_, fun i r hi => ?_⟩
  ·have := (g1.1.lt g hg).1; omega
  ·obtain ⟨x, hx, ho⟩ := g2 i r hi
   exact ⟨x, hx, ho.of_block fun g hg => off.block g (by have := (ho.1.lt g hg).1; omega)⟩
 ·rw [off.frozen o, hb.frozen (p := ⟨sb, o, none⟩) h1]; exact free o

/-- A cell that was there, behind a new block, a draw and an append to another row. -/
theorem grow_cell {w w1 : World} {o : Obj} {row : Option Nat} {a : Addr} {v : Value} (hg : (w.alloc o).drew.grownBy w1 row) (h : w.cell? a = some v) (hne : row ≠ some a.block) : w1.cell? a = some v := by
 have hb := World.block_lt_of_cell? w a h
 rw [World.cell?_of_block (w := w) ((hg.block a.block (by simp; omega) (Ne.symm hne)).trans (Below.heap_alloc w o a.block hb))]
 exact h
theorem grow_frozen {w w1 : World} {o : Obj} {row : Option Nat} {a : Addr} {f : Bool} (hg : (w.alloc o).drew.grownBy w1 row) (hb : a.block < w.heap.size) (h : w.frozen? a = f) (hne : row ≠ some a.block) : w1.frozen? a = f := by
 rw [World.frozen?_of_block (w := w) ((hg.block a.block (by simp; omega) (Ne.symm hne)).trans (Below.heap_alloc w o a.block hb))]
 exact h
theorem alloc_cell {w : World} {a : Addr} {v : Value} (h : w.cell? a = some v) (o : Obj) : (w.alloc o).cell? a = some v := by
 rw [World.cell?_of_block (w := w) (Below.heap_alloc w o a.block (World.block_lt_of_cell? w a h))]; exact h
theorem grow_below {w w1 : World} {o : Obj} {row : Option Nat} {B : Nat} (hg : (w.alloc o).drew.grownBy w1 row) (hB : B ≤ w.heap.size) (hr : ∀ k, row = some k → B ≤ k) : Below B w w1 :=
 (((Below.refl _ _).alloc hB o).drew).grown hg (by simp; omega) hr

end Go.Proofs.YtfdafcnfefbcbabGreat
