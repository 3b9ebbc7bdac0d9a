/-
  Plain functions beside the program's reading of a text (package code) and beside the reference's; no Go text, no model: that the two agree.
-/
namespace Go.Proofs.Ytfdafcnfefbcbaa.Pl
set_option linter.unusedVariables false

/-- An operation as the program keeps it. -/
structure POp where
  kind : Nat
  name : Nat
  block : Int

/-- What has been read of a text. -/
structure Draft where
  threads : List (List POp)
  ops : List POp
  blocks : Nat
  block : Int

def takesName (k : Nat) : Bool := k == 114 || k == 119 || k == 108 || k == 117 || k == 43 || k == 45 || k == 42 || k == 94 || k == 60 || k == 63

def isName (k n : Nat) : Bool :=
  if k == 114 || k == 119 then decide (97 ≤ n) && decide (n ≤ 100)
  else if k == 108 || k == 117 then n == 80 || n == 81
  else if k == 63 then decide (49 ≤ n) && decide (n ≤ 57)
  else decide (48 ≤ n) && decide (n ≤ 57)

def admits (d : Draft) (k : Nat) : Bool :=
  if k == 10 then d.block == -1 && decide (d.threads.length + 1 < 4)
  else if k == 91 then d.block == -1
  else if k == 93 then d.block != -1
  else if k == 33 then true
  else takesName k

def endThread (d : Draft) : Draft := { threads := d.threads ++ [d.ops], ops := [], blocks := 0, block := d.block }

def add (d : Draft) (k n : Nat) : Draft :=
  if k == 10 then endThread d
  else if k == 91 then { threads := d.threads, ops := d.ops ++ [⟨k, 0, d.blocks⟩], blocks := d.blocks + 1, block := d.blocks }
  else if k == 93 then { threads := d.threads, ops := d.ops ++ [⟨k, 0, d.block⟩], blocks := d.blocks, block := -1 }
  else { threads := d.threads, ops := d.ops ++ [⟨k, n, d.block⟩], blocks := d.blocks, block := d.block }

/-- What is read of the bytes that are left, from place 'i' on: the program, or none and the place. -/
def read : Draft → Nat → List Nat → Option (List (List POp)) × Nat
  | d, i, [] => if d.block == -1 then (some (d.threads ++ [d.ops]), 0) else (none, i)
  | d, i, [k] => if admits d k then (if takesName k then (none, i + 1) else read (add d k 0) (i + 1) []) else (none, i)
  | d, i, k :: n :: r =>
    if admits d k then
      (if takesName k then (if isName k n then read (add d k n) (i + 2) r else (none, i + 1)) else read (add d k 0) (i + 1) (n :: r))
    else (none, i)

def draft0 : Draft := ⟨[], [], 0, -1⟩

def isShared (k : Nat) : Bool := k == 114 || k == 119 || k == 108 || k == 117

def sharedOf (ops : List POp) : Nat := (ops.filter fun o => isShared o.kind).length

def countShared : List (List POp) → Nat
  | [] => 0
  | r :: rs => sharedOf r + countShared rs

/-- What New answers: the error and the place, or the program. -/
def new (s : List Nat) : Sum (Nat × Nat) (List (List POp)) :=
  if 100 < s.length then .inl (1, 0)
  else match (read draft0 0 s).1 with
    | none => .inl (2, (read draft0 0 s).2)
    | some p => if 10 < countShared p then .inl (3, 0) else .inr p

/-! The reference's. 'k': the operation whose second byte is awaited (0: none). -/

def place : Bool → Nat → Nat → Nat → List Nat → Int
  | inside, _, k, i, [] => if k != 0 || inside then i else -1
  | inside, lines, k, i, c :: r =>
    if k != 0 then (if isName k c then place inside lines 0 (i + 1) r else i)
    else if takesName c then place inside lines c (i + 1) r
    else if c == 33 then place inside lines 0 (i + 1) r
    else if c == 91 && !inside then place true lines 0 (i + 1) r
    else if c == 93 && inside then place false lines 0 (i + 1) r
    else if c == 10 && !inside && decide (lines < 4) then place inside (lines + 1) 0 (i + 1) r
    else i

def countBytes (f : Nat → Bool) (s : List Nat) : Nat := (s.filter f).length

def refNew (s : List Nat) : Sum (Nat × Int) Nat :=
  if 100 < s.length then .inl (1, 0)
  else if 0 ≤ place false 1 0 0 s then .inl (2, place false 1 0 0 s)
  else if 10 < countBytes isShared s then .inl (3, 0) else .inr (countBytes (fun c => c == 10) s + 1)

/-! ### The two agree -/

theorem nat_ne (n : Nat) : ((n : Int) != -1) = true := by rw [bne_iff_ne]; omega

theorem takes_ne {k : Nat} (h : takesName k = true) : (k == 10) = false ∧ (k == 91) = false ∧ (k == 93) = false ∧ (k == 33) = false ∧ (k != 0) = true := by
  simp only [takesName, Bool.or_eq_true, beq_iff_eq] at h
  refine ⟨?_, ?_, ?_, ?_, ?_⟩ <;> simp <;> omega

theorem admits_takes {d : Draft} {k : Nat} (h : takesName k = true) : admits d k = true := by
  obtain ⟨a, b, c, e, _⟩ := takes_ne h
  simp [admits, a, b, c, e, h]

theorem add_takes {d : Draft} {k : Nat} (n : Nat) (h : takesName k = true) : add d k n = { threads := d.threads, ops := d.ops ++ [⟨k, n, d.block⟩], blocks := d.blocks, block := d.block } := by
  obtain ⟨a, b, c, _⟩ := takes_ne h
  simp [add, a, b, c]

/-- A draft that can come up: the block that is open is the last that was begun. -/
def Fine (d : Draft) : Prop := d.block = -1 ∨ 0 ≤ d.block

theorem fine_add {d : Draft} (k n : Nat) (h : Fine d) : Fine (add d k n) := by
  unfold Fine at *
  unfold add endThread
  repeat' split
  all_goals first | exact h | (simp; done) | (right; simp)

/-- What a byte that is admitted and awaits no second does to the reference's state. -/
theorem place_step {d : Draft} {c : Nat} (i : Nat) (r : List Nat) (hf : Fine d) (ht : takesName c = false) :
    place (d.block != -1) (d.threads.length + 1) 0 i (c :: r) =
      if admits d c then place ((add d c 0).block != -1) ((add d c 0).threads.length + 1) 0 (i + 1) r else i := by
  rw [place]
  simp only [ht, bne_self_eq_false, Bool.false_eq_true, if_false]
  unfold admits add endThread
  by_cases h10 : c = 10
  · subst h10
    by_cases hb : d.block = -1
    · by_cases hl : d.threads.length + 1 < 4 <;> simp [hb, hl]
    · simp [hb]
  · by_cases h91 : c = 91
    · subst h91
      by_cases hb : d.block = -1
      · simp [hb, nat_ne]
      · simp [hb]
    · by_cases h93 : c = 93
      · subst h93
        by_cases hb : d.block = -1 <;> simp [hb]
      · by_cases h33 : c = 33
        · subst h33; simp
        · simp [h10, h91, h93, h33, ht]

theorem read_place : ∀ (s : List Nat) (d : Draft) (i : Nat), Fine d →
    ((read d i s).1 = none → place (d.block != -1) (d.threads.length + 1) 0 i s = (read d i s).2) ∧
    ((read d i s).1 ≠ none → place (d.block != -1) (d.threads.length + 1) 0 i s = -1)
  | [], d, i, hf => by
    by_cases hb : d.block = -1 <;> simp [read, place, hb]
  | [k], d, i, hf => by
    by_cases ht : takesName k = true
    · rw [read]
      simp only [admits_takes ht, ht, if_true]
      rw [place]
      simp only [ht, bne_self_eq_false, Bool.false_eq_true, if_false, if_true]
      rw [place]
      simp [(takes_ne ht).2.2.2.2]
    · have ht' : takesName k = false := by simpa using ht
      rw [read, place_step i [] hf ht']
      by_cases ha : admits d k = true
      · simp only [ha, ht', if_true, Bool.false_eq_true, if_false]
        exact read_place [] (add d k 0) (i + 1) (fine_add _ _ hf)
      · simp [ha]
  | k :: n :: r, d, i, hf => by
    by_cases ht : takesName k = true
    · rw [read]
      simp only [admits_takes ht, ht, if_true]
      rw [place]
      simp only [ht, bne_self_eq_false, Bool.false_eq_true, if_false, if_true]
      rw [place]
      simp only [(takes_ne ht).2.2.2.2, if_true]
      by_cases hn : isName k n = true
      · simp only [hn, if_true]
        have := read_place r (add d k n) (i + 2) (fine_add _ _ hf)
        rw [add_takes n ht] at this
        rw [add_takes n ht]
        exact this
      · simp [hn]
    · have ht' : takesName k = false := by simpa using ht
      rw [read, place_step i (n :: r) hf ht']
      by_cases ha : admits d k = true
      · simp only [ha, ht', if_true, Bool.false_eq_true, if_false]
        exact read_place (n :: r) (add d k 0) (i + 1) (fine_add _ _ hf)
      · simp [ha]

theorem sharedOf_append (a b : List POp) : sharedOf (a ++ b) = sharedOf a + sharedOf b := by simp [sharedOf]
theorem countShared_append (a b : List (List POp)) : countShared (a ++ b) = countShared a + countShared b := by
  induction a with
  | nil => simp [countShared]
  | cons x xs ih => simp [countShared, ih]; omega

/-- Shared operations of a draft. -/
def inDraft (d : Draft) : Nat := countShared d.threads + sharedOf d.ops

theorem name_not_shared {k n : Nat} (ht : takesName k = true) (h : isName k n = true) : isShared n = false ∧ (n == 10) = false := by
  simp only [isName, isShared] at *
  repeat' split at h
  all_goals simp at h ⊢
  all_goals omega

theorem add_counts (d : Draft) (k n : Nat) : inDraft (add d k n) = inDraft d + (if isShared k then 1 else 0) ∧ (add d k n).threads.length = d.threads.length + (if k == 10 then 1 else 0) := by
  unfold inDraft add endThread
  by_cases h10 : k = 10
  · subst h10; simp [countShared_append, countShared, sharedOf, isShared]
  · by_cases h91 : k = 91
    · subst h91; simp [sharedOf, isShared]
    · by_cases h93 : k = 93
      · subst h93; simp [sharedOf, isShared]
      · by_cases hs : isShared k = true
        · simp [h10, h91, h93, hs, sharedOf]; omega
        · simp [h10, h91, h93, hs, sharedOf]

theorem read_counts : ∀ (s : List Nat) (d : Draft) (i : Nat) (p : List (List POp)), (read d i s).1 = some p →
    countShared p = inDraft d + countBytes isShared s ∧ p.length = d.threads.length + 1 + countBytes (fun c => c == 10) s
  | [], d, i, p => by
    intro h
    rw [read] at h
    split at h
    · simp at h; subst h
      simp [countShared_append, countShared, inDraft, countBytes]
    · cases h
  | [k], d, i, p => by
    intro h
    rw [read] at h
    split at h
    · split at h
      · cases h
      · have := read_counts [] _ _ _ h
        have a := add_counts d k 0
        rw [this.1, this.2, a.1, a.2]
        constructor
        · by_cases e : isShared k = true <;> simp [countBytes, e]
        · by_cases e : k = 10 <;> simp [countBytes, e]
    · cases h
  | k :: n :: r, d, i, p => by
    intro h
    rw [read] at h
    split at h
    · split at h
      · split at h
        · rename_i ht hn
          have := read_counts r _ _ _ h
          have a := add_counts d k n
          have b := name_not_shared ht hn
          rw [this.1, this.2, a.1, a.2]
          constructor
          · by_cases e : isShared k = true <;> simp [countBytes, e, b.1] <;> omega
          · have b2 : n ≠ 10 := by simpa using b.2
            by_cases e : k = 10 <;> simp [countBytes, e, b2] <;> omega
        · cases h
      · have := read_counts (n :: r) _ _ _ h
        have a := add_counts d k 0
        rw [this.1, this.2, a.1, a.2]
        constructor
        · by_cases e : isShared k = true <;> simp [countBytes, e] <;> omega
        · by_cases e : k = 10 <;> simp [countBytes, e] <;> omega
    · cases h

/-- P3: both answers are one. -/
theorem new_ref (s : List Nat) :
    (∃ e n, new s = .inl (e, n) ∧ refNew s = .inl (e, (n : Int))) ∨ (∃ p, new s = .inr p ∧ refNew s = .inr p.length) := by
  have hf : Fine draft0 := Or.inl rfl
  have hp := read_place s draft0 0 hf
  have h0 : (draft0.block != -1) = false := rfl
  have h1 : draft0.threads.length + 1 = 1 := rfl
  rw [h0, h1] at hp
  unfold new refNew
  by_cases hl : 100 < s.length
  · left; exact ⟨1, 0, by simp [hl], by simp [hl]⟩
  · simp only [hl, if_false]
    cases hr : (read draft0 0 s).1 with
    | none =>
      have := hp.1 hr
      left
      refine ⟨2, _, rfl, ?_⟩
      rw [this, if_pos (by omega)]
    | some p =>
      have h2 := hp.2 (by rw [hr]; simp)
      have hc := read_counts s draft0 0 p hr
      rw [h2, if_neg (by omega)]
      have c1 : countShared p = countBytes isShared s := by rw [hc.1]; simp [inDraft, draft0, countShared, sharedOf]
      have c2 : p.length = countBytes (fun c => c == 10) s + 1 := by rw [hc.2]; simp [draft0]; omega
      rw [← c2]
      show (∃ e n, (if 10 < countShared p then Sum.inl (3, 0) else Sum.inr p) = Sum.inl (e, n) ∧ _) ∨ (∃ q, (if 10 < countShared p then Sum.inl (3, 0) else Sum.inr p) = Sum.inr q ∧ _)
      rw [c1]
      by_cases h10 : 10 < countBytes isShared s
      · left; exact ⟨3, 0, by simp [h10], by simp [h10]⟩
      · right; exact ⟨p, by simp [h10], by simp [h10]⟩

end Go.Proofs.Ytfdafcnfefbcbaa.Pl
