/-
  The statements' own text in plain terms: it is a program text.
-/
import Derived.Test.YtfdafcnfefbcbabSharedS
namespace Go.Proofs.Ytfdafcnfefbcbab
open Go.RowKit
set_option linter.unusedVariables false

/-- How far text has come: the four rows, which of them stand in a block, the shared operations, the length. -/
structure Tx where
  row : Nat → List Nat
  opn : Nat → Bool
  steps : Nat
  size : Nat

def tx0 : Tx := ⟨fun _ => [], fun _ => false, 0, 7⟩

abbrev txBad (T : Tx) (t : Nat) (s : List Nat) : Prop := (s = [91] ∧ T.opn t = true) ∨ (s = [93] ∧ T.opn t = false) ∨ (Pl.isShared (s.headD 0) = true ∧ T.steps = 10) ∨ 100 < T.size + s.length

def txPut (T : Tx) (t : Nat) (s : List Nat) : Tx :=
  ⟨fun i => if i = t then T.row i ++ s else T.row i, fun i => if i = t ∧ (s = [91] ∨ s = [93]) then !T.opn i else T.opn i, if Pl.isShared (s.headD 0) = true then T.steps + 1 else T.steps, T.size + s.length⟩

def txStep (T : Tx) (x : Raw) : Tx :=
  if txBad T (pickOf x.thread 4).toNat (spellOf x.kind x.arg) then T else txPut T (pickOf x.thread 4).toNat (spellOf x.kind x.arg)

def txAll (os : List Raw) : Tx := os.foldl txStep tx0

theorem txAll_succ {os : List Raw} {i : Nat} {x : Raw} (h : os[i]? = some x) : txAll (os.take (i + 1)) = txStep (txAll (os.take i)) x := by
  unfold txAll
  rw [List.take_add_one, h]
  simp [List.foldl_append]

/-- A row goes from outside a block to where b tells, whatever comes behind. -/
def Runs (r : List Nat) (b : Bool) : Prop := ∀ (l i : Nat) (rest : List Nat), Pl.place false l 0 i (r ++ rest) = Pl.place b l 0 (i + r.length) rest

def sumLen (T : Tx) : Nat := (T.row 0).length + (T.row 1).length + (T.row 2).length + (T.row 3).length
def sumShared (T : Tx) : Nat := Pl.countBytes Pl.isShared (T.row 0) + Pl.countBytes Pl.isShared (T.row 1) + Pl.countBytes Pl.isShared (T.row 2) + Pl.countBytes Pl.isShared (T.row 3)

structure TxOk (T : Tx) : Prop where
  runs : ∀ i, Runs (T.row i) (T.opn i)
  len : sumLen T + 7 = T.size
  le : T.size ≤ 100
  cnt : sumShared T = T.steps
  few : T.steps ≤ 10

theorem runs_nil : Runs [] false := fun l i rest => by simp

theorem runs_app {r s : List Nat} {b b' : Bool} (h : Runs r b) (hs : ∀ (l i : Nat) (rest : List Nat), Pl.place b l 0 i (s ++ rest) = Pl.place b' l 0 (i + s.length) rest) : Runs (r ++ s) b' := fun l i rest => by
  rw [List.append_assoc, h l i, hs l (i + r.length), List.length_append, Nat.add_assoc]

theorem count_append (f : Nat → Bool) (a b : List Nat) : Pl.countBytes f (a ++ b) = Pl.countBytes f a + Pl.countBytes f b := by simp [Pl.countBytes]

theorem run_bang (b : Bool) (l i : Nat) (rest : List Nat) : Pl.place b l 0 i ([33] ++ rest) = Pl.place b l 0 (i + 1) rest := by
  rw [List.singleton_append, Pl.place_cons]
  rfl
theorem run_open (l i : Nat) (rest : List Nat) : Pl.place false l 0 i ([91] ++ rest) = Pl.place true l 0 (i + 1) rest := by
  rw [List.singleton_append, Pl.place_cons]
  rfl
theorem run_close (l i : Nat) (rest : List Nat) : Pl.place true l 0 i ([93] ++ rest) = Pl.place false l 0 (i + 1) rest := by
  rw [List.singleton_append, Pl.place_cons]
  rfl
theorem run_two {c n : Nat} (hc : Pl.takesName c = true) (hn : Pl.isName c n = true) (b : Bool) (l i : Nat) (rest : List Nat) : Pl.place b l 0 i ([c, n] ++ rest) = Pl.place b l 0 (i + 2) rest := by
  have h0 : (c != 0) = true := (Pl.takes_ne hc).2.2.2.2
  show Pl.place b l 0 i (c :: n :: rest) = _
  rw [Pl.place_cons]
  have e1 : Pl.stp b l 0 c = some (b, l, c) := by unfold Pl.stp; simp [hc]
  rw [e1]
  simp only
  rw [Pl.place_cons]
  have e2 : Pl.stp b l c n = some (b, l, 0) := by unfold Pl.stp; simp only [h0, if_true, hn]
  rw [e2]
theorem run_line (l i : Nat) (hl : l < 4) (rest : List Nat) : Pl.place false l 0 i ([10] ++ rest) = Pl.place false (l + 1) 0 (i + 1) rest := by
  rw [List.singleton_append, Pl.place_cons]
  have e : Pl.stp false l 0 10 = some (false, l + 1, 0) := by unfold Pl.stp; simp [Pl.takesName, hl]
  rw [e]

theorem name_unshared {c n : Nat} (hc : Pl.takesName c = true) (hn : Pl.isName c n = true) : Pl.isShared n = false := by
  unfold Pl.isName at hn
  simp only [Pl.isShared]
  repeat' split at hn
  all_goals (simp at hn ⊢; omega)

theorem tx_step_ok {T : Tx} (h : TxOk T) (x : Raw) : TxOk (txStep T x) := by
  unfold txStep
  split
  · exact h
  · rename_i hb
    have hp := pickOf_lt x.thread 4 (by omega)
    have ht : (pickOf x.thread 4).toNat < 4 := by omega
    generalize (pickOf x.thread 4).toNat = t at *
    obtain ⟨c, hsp⟩ := spellOf_cases x.kind x.arg
    have hlen := h.len
    have hcnt := h.cnt
    have hfew := h.few
    have ht4 : t = 0 ∨ t = 1 ∨ t = 2 ∨ t = 3 := by omega
    generalize spellOf x.kind x.arg = s at *
    have hfit : T.size + s.length ≤ 100 := by
      unfold txBad at hb
      simp only [not_or] at hb
      omega
    have hsum : sumLen (txPut T t s) = sumLen T + s.length := by
      unfold sumLen txPut
      rcases ht4 with rfl | rfl | rfl | rfl <;> simp <;> omega
    have hcs : sumShared (txPut T t s) = sumShared T + Pl.countBytes Pl.isShared s := by
      unfold sumShared txPut
      rcases ht4 with rfl | rfl | rfl | rfl <;> simp [count_append] <;> omega
    have hbr : ∀ b', (∀ (l i : Nat) (rest : List Nat), Pl.place (T.opn t) l 0 i (s ++ rest) = Pl.place b' l 0 (i + s.length) rest) → (b' = if s = [91] ∨ s = [93] then !T.opn t else T.opn t) → ∀ i, Runs ((txPut T t s).row i) ((txPut T t s).opn i) := fun b' h1 h2 i => by
      by_cases hi : i = t
      · subst hi
        have := runs_app (h.runs i) h1
        simp only [txPut, if_true, true_and]
        rw [← h2]; exact this
      · simp only [txPut, hi, if_false, false_and]
        exact h.runs i
    have hc1 : Pl.countBytes Pl.isShared s = (if Pl.isShared (s.headD 0) = true then 1 else 0) := by
      rcases hsp with ⟨rfl, rfl⟩ | ⟨rfl, rfl⟩ | ⟨rfl, rfl⟩ | ⟨n, hc, hn, -, rfl⟩
      · rfl
      · rfl
      · rfl
      · have hu := name_unshared hc hn
        cases hs : Pl.isShared c <;> simp [Pl.countBytes, hs, hu]
    have hst : (txPut T t s).steps = T.steps + (if Pl.isShared (s.headD 0) = true then 1 else 0) := by
      unfold txPut
      simp only
      split <;> rfl
    have hfew2 : T.steps + (if Pl.isShared (s.headD 0) = true then 1 else 0) ≤ 10 := by
      unfold txBad at hb
      simp only [not_or, not_and] at hb
      split
      · rename_i hsh
        have := hb.2.2.1 hsh
        omega
      · omega
    refine ⟨?_, ?_, ?_, ?_, ?_⟩
    · rcases hsp with ⟨rfl, rfl⟩ | ⟨rfl, rfl⟩ | ⟨rfl, rfl⟩ | ⟨n, hc, hn, -, rfl⟩
      · exact hbr (T.opn t) (fun l i rest => run_bang _ l i rest) (by simp)
      · have ho : T.opn t = false := by
          unfold txBad at hb
          simp only [not_or, not_and] at hb
          have := hb.1 trivial
          cases h' : T.opn t
          · rfl
          · exact absurd h' this
        exact hbr true (fun l i rest => by rw [ho]; exact run_open l i rest) (by simp [ho])
      · have ho : T.opn t = true := by
          unfold txBad at hb
          simp only [not_or, not_and] at hb
          have := hb.2.1 trivial
          cases h' : T.opn t
          · exact absurd h' this
          · rfl
        exact hbr false (fun l i rest => by rw [ho]; exact run_close l i rest) (by simp [ho])
      · exact hbr (T.opn t) (fun l i rest => run_two hc hn _ l i rest) (by simp)
    · rw [hsum]; show _ = T.size + s.length; omega
    · exact hfit
    · rw [hcs, hc1, hst]; omega
    · rw [hst]; exact hfew2

theorem tx0_ok : TxOk tx0 := ⟨fun i => runs_nil, rfl, by decide, rfl, by decide⟩

theorem txAll_ok (os : List Raw) : TxOk (txAll os) := by
  unfold txAll
  suffices ∀ (l : List Raw) (T : Tx), TxOk T → TxOk (l.foldl txStep T) from this os tx0 tx0_ok
  intro l
  induction l with
  | nil => intro T h; exact h
  | cons x r ih => intro T h; exact ih _ (tx_step_ok h x)

/-! The rows, put together. -/

/-- The last row that is not empty (0 if there is none). -/
def lastTo (T : Tx) : Nat → Nat
  | 0 => 0
  | k + 1 => if T.row k ≠ [] then k else lastTo T k

def closed (T : Tx) (t : Nat) : List Nat := if T.opn t then T.row t ++ [93] else T.row t

/-- The text of the first k rows. -/
def joinTo (T : Tx) : Nat → List Nat
  | 0 => []
  | k + 1 => joinTo T k ++ (if 0 < k then [10] else []) ++ closed T k

theorem closed_runs {T : Tx} (h : TxOk T) (t : Nat) : Runs (closed T t) false := by
  have := h.runs t
  unfold closed
  cases ho : T.opn t with
  | false => rw [ho] at this; simpa using this
  | true => rw [ho] at this; simp only [if_true]; exact runs_app this (fun l i rest => run_close l i rest)

theorem join_runs {T : Tx} (h : TxOk T) : ∀ k, k < 4 → ∀ rest, Pl.place false 1 0 0 (joinTo T (k + 1) ++ rest) = Pl.place false (k + 1) 0 (joinTo T (k + 1)).length rest
  | 0, _, rest => by
    have := closed_runs h 0 1 0 rest
    simpa [joinTo] using this
  | k + 1, hk, rest => by
    have ih := join_runs h k (by omega)
    have e : joinTo T (k + 1 + 1) = joinTo T (k + 1) ++ ([10] ++ closed T (k + 1)) := by
      rw [joinTo, if_pos (by omega), List.append_assoc]
    rw [e, List.append_assoc, ih, List.append_assoc, run_line _ _ (by omega), closed_runs h (k + 1)]
    simp [Nat.add_assoc, Nat.add_comm 1]

theorem closed_len (T : Tx) (t : Nat) : (closed T t).length ≤ (T.row t).length + 1 := by
  unfold closed; split <;> simp

theorem closed_count (T : Tx) (t : Nat) : Pl.countBytes Pl.isShared (closed T t) = Pl.countBytes Pl.isShared (T.row t) := by
  unfold closed; split
  · rw [count_append]; rfl
  · rfl

theorem join_bounds {T : Tx} (h : TxOk T) (k : Nat) (hk : k < 4) : (joinTo T (k + 1)).length ≤ 100 ∧ Pl.countBytes Pl.isShared (joinTo T (k + 1)) ≤ 10 := by
  have hl := h.len
  have hle := h.le
  have hc := h.cnt
  have hf := h.few
  have l0 := closed_len T 0
  have l1 := closed_len T 1
  have l2 := closed_len T 2
  have l3 := closed_len T 3
  have c0 := closed_count T 0
  have c1 := closed_count T 1
  have c2 := closed_count T 2
  have c3 := closed_count T 3
  have en : Pl.countBytes Pl.isShared [] = 0 := rfl
  have e10 : ∀ l, Pl.countBytes Pl.isShared (10 :: l) = Pl.countBytes Pl.isShared l := fun l => rfl
  unfold sumLen at hl
  unfold sumShared at hc
  have : k = 0 ∨ k = 1 ∨ k = 2 ∨ k = 3 := by omega
  rcases this with rfl | rfl | rfl | rfl
  all_goals
    constructor
    · simp [joinTo]; omega
    · simp [joinTo, count_append, c0, c1, c2, c3, e10]; omega

/-- What text puts together is a program text. -/
theorem join_new {T : Tx} (h : TxOk T) (k : Nat) (hk : k < 4) : ∃ p, Pl.new (joinTo T (k + 1)) = .inr p := by
  obtain ⟨hl, hc⟩ := join_bounds h k hk
  have hp : Pl.place false 1 0 0 (joinTo T (k + 1)) = -1 := by
    have := join_runs h k hk []
    rw [List.append_nil] at this
    rw [this]; rfl
  rcases Pl.new_ref (joinTo T (k + 1)) with ⟨e, n, h1, h2⟩ | ⟨p, h1, -⟩
  · unfold Pl.refNew at h2
    rw [if_neg (by omega), if_neg (by rw [hp]; omega), if_neg (by omega)] at h2
    cases h2
  · exact ⟨p, h1⟩

end Go.Proofs.Ytfdafcnfefbcbab
