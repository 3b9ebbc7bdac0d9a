/-
  Plain, for Counted: one thread that reckons, passes over and writes.
-/
import Derived.Test.YtfdafcnfefbcbaaLinePl
import Derived.Test.YtfdafcnfefbcbaaSharedS
namespace Go.Proofs.Ytfdafcnfefbcbaa
open Go.RowKit
set_option linter.unusedVariables false

def kinds7 : List Nat := [43, 45, 42, 94, 60, 33, 63]

/-- The operation of a raw step: its byte and its digit. -/
def cOp (x : Raw) : Nat × Nat := (kinds7.getD (pickOf x.kind 7).toNat 0, if kinds7.getD (pickOf x.kind 7).toNat 0 = 63 ∧ (pickOf x.arg 10).toNat = 0 then 1 else (pickOf x.arg 10).toNat)

def COk (o : Nat × Nat) : Prop := (o.1 = 43 ∨ o.1 = 45 ∨ o.1 = 42 ∨ o.1 = 94 ∨ o.1 = 60 ∨ o.1 = 33 ∨ o.1 = 63) ∧ o.2 ≤ 9 ∧ (o.1 = 63 → 1 ≤ o.2)

theorem kinds7_mem (j : Nat) (hj : j < 7) : kinds7.getD j 0 = 43 ∨ kinds7.getD j 0 = 45 ∨ kinds7.getD j 0 = 42 ∨ kinds7.getD j 0 = 94 ∨ kinds7.getD j 0 = 60 ∨ kinds7.getD j 0 = 33 ∨ kinds7.getD j 0 = 63 := by
  have : j = 0 ∨ j = 1 ∨ j = 2 ∨ j = 3 ∨ j = 4 ∨ j = 5 ∨ j = 6 := by omega
  rcases this with rfl | rfl | rfl | rfl | rfl | rfl | rfl <;> decide

theorem cOp_ok (x : Raw) : COk (cOp x) := by
  have h7 := pickOf_lt x.kind 7 (by omega)
  have h10 := pickOf_lt x.arg 10 (by omega)
  refine ⟨kinds7_mem _ (by omega), ?_, ?_⟩
  · unfold cOp; simp only; split <;> omega
  · unfold cOp; simp only; intro h; split <;> omega

def cBytes (o : Nat × Nat) : List Nat := if o.1 = 33 then [33] else [o.1, 48 + o.2]

structure CSt where
  v : Int
  dead : Bool
  over : Nat

def cStep (c : CSt) (o : Nat × Nat) : CSt :=
  if 0 < c.over then ⟨c.v, c.dead, c.over - 1⟩
  else if o.1 = 33 then ⟨c.v, c.dead || c.v == 0, 0⟩
  else if o.1 = 63 then (if c.v = 0 then ⟨c.v, c.dead, o.2⟩ else ⟨c.v, c.dead, 0⟩)
  else ⟨reck o.1 c.v o.2, c.dead, 0⟩

def cRowOp (o : Nat × Nat) : Pl.POp := if o.1 = 33 then ⟨33, 0, -1⟩ else ⟨o.1, 48 + o.2, -1⟩
def cRow (ps : List (Nat × Nat)) : List Pl.POp := ps.map cRowOp ++ [⟨119, 100, -1⟩]

theorem dead_stays : ∀ (ps : List (Nat × Nat)) (c : CSt), c.dead = true → (ps.foldl cStep c).dead = true
  | [], c, h => h
  | o :: r, c, h => by
    refine dead_stays r _ ?_
    unfold cStep
    repeat' split
    all_goals simp [h]

theorem read_bang (d : Pl.Draft) (i : Nat) (r : List Nat) : Pl.read d i (33 :: r) = Pl.read (Pl.add d 33 0) (i + 1) r := by
  cases r with
  | nil => simp [Pl.read, Pl.admits, Pl.takesName]
  | cons n r => rw [Pl.read]; simp [Pl.admits, Pl.takesName]

theorem read_c : ∀ (ps : List (Nat × Nat)) (ops : List Pl.POp) (i : Nat), (∀ o ∈ ps, COk o) → (Pl.read ⟨[], ops, 0, -1⟩ i (ps.flatMap cBytes ++ [119, 100])).1 = some [ops ++ cRow ps]
  | [], ops, i, _ => by
    show (Pl.read ⟨[], ops, 0, -1⟩ i [119, 100]).1 = _
    rw [Pl.read]
    simp [Pl.admits, Pl.takesName, Pl.isName, Pl.add, Pl.read, cRow]
  | o :: r, ops, i, h => by
    have ho := h o (by simp)
    have ih := fun ops' i' => read_c r ops' i' (fun x hx => h x (by simp [hx]))
    obtain ⟨k, d⟩ := o
    obtain ⟨hk, hd, h3⟩ := ho
    simp only at hk hd h3
    rw [List.flatMap_cons, List.append_assoc]
    by_cases h33 : k = 33
    · subst h33
      have e1 : cBytes (33, d) = [33] := rfl
      rw [e1, List.singleton_append, read_bang]
      have e2 : Pl.add ⟨[], ops, 0, -1⟩ 33 0 = ⟨[], ops ++ [⟨33, 0, -1⟩], 0, -1⟩ := by simp [Pl.add]
      rw [e2, ih]
      simp [cRow, cRowOp]
    · have e1 : cBytes (k, d) = [k, 48 + d] := by unfold cBytes; rw [if_neg h33]
      have ht : Pl.takesName k = true := by rcases hk with rfl | rfl | rfl | rfl | rfl | rfl | rfl <;> first | rfl | exact absurd rfl h33
      have hn : Pl.isName k (48 + d) = true := by
        rcases hk with rfl | rfl | rfl | rfl | rfl | rfl | rfl
        · simp [Pl.isName]; omega
        · simp [Pl.isName]; omega
        · simp [Pl.isName]; omega
        · simp [Pl.isName]; omega
        · simp [Pl.isName]; omega
        · exact absurd rfl h33
        · have := h3 rfl; simp [Pl.isName]; omega
      rw [e1]
      show (Pl.read ⟨[], ops, 0, -1⟩ i (k :: (48 + d) :: (r.flatMap cBytes ++ [119, 100]))).1 = _
      rw [Pl.read]
      rw [if_pos (Pl.admits_takes ht), if_pos ht, if_pos hn, Pl.add_takes _ ht, ih]
      simp [cRow, cRowOp, h33]

theorem c_shared : ∀ (ps : List (Nat × Nat)), (∀ o ∈ ps, COk o) → Pl.sharedOf (cRow ps) = 1
  | [], _ => rfl
  | o :: r, h => by
    have ih := c_shared r (fun x hx => h x (by simp [hx]))
    have ho := (h o (by simp)).1
    have e : Pl.isShared (cRowOp o).kind = false := by
      unfold cRowOp
      split
      · rfl
      · obtain ⟨k, d⟩ := o
        simp only at ho ⊢
        rcases ho with rfl | rfl | rfl | rfl | rfl | rfl | rfl <;> rfl
    have e2 : cRow (o :: r) = cRowOp o :: cRow r := rfl
    rw [e2]
    unfold Pl.sharedOf at ih ⊢
    rw [List.filter_cons_of_neg (by simpa using e)]
    exact ih

theorem c_new (ps : List (Nat × Nat)) (h : ∀ o ∈ ps, COk o) (hl : (ps.flatMap cBytes).length ≤ 97) : Pl.new (ps.flatMap cBytes ++ [119, 100]) = .inr [cRow ps] := by
  have hr := read_c ps [] 0 h
  unfold Pl.new
  rw [if_neg (by rw [List.length_append]; simp only [List.length_cons, List.length_nil]; omega)]
  show (match (Pl.read Pl.draft0 0 (ps.flatMap cBytes ++ [119, 100])).1 with
    | none => Sum.inl (2, (Pl.read Pl.draft0 0 (ps.flatMap cBytes ++ [119, 100])).2)
    | some p => if 10 < Pl.countShared p then Sum.inl (3, 0) else Sum.inr p) = _
  have e : Pl.draft0 = ⟨[], [], 0, -1⟩ := rfl
  rw [e, hr]
  simp only [List.nil_append]
  rw [if_neg (by simp [Pl.countShared, c_shared ps h])]

theorem cRow_length (ps : List (Nat × Nat)) : (cRow ps).length = ps.length + 1 := by simp [cRow]

theorem passed_all : ∀ (l : List Pl.POp) (d : Nat), (∀ o ∈ l, isBound o.kind = false) → passed l d = min d l.length
  | [], d, _ => by rw [passed_end]; simp
  | o :: r, 0, _ => by rw [passed_zero]; simp
  | o :: r, d + 1, h => by
    have ih := passed_all r d (fun x hx => h x (by simp [hx]))
    have ho := h o (by simp)
    simp only [passed, ho, List.length_cons]
    rw [if_neg (by simp), ih]
    omega

theorem cRow_nobound (ps : List (Nat × Nat)) (h : ∀ o ∈ ps, COk o) : ∀ o ∈ cRow ps, isBound o.kind = false := by
  intro o ho
  unfold cRow at ho
  rcases List.mem_append.1 ho with ho | ho
  · obtain ⟨x, hx, rfl⟩ := List.mem_map.1 ho
    have hk := (h x hx).1
    obtain ⟨k, d⟩ := x
    simp only at hk
    unfold cRowOp
    rcases hk with rfl | rfl | rfl | rfl | rfl | rfl | rfl <;> rfl
  · simp at ho; subst ho; rfl

theorem digit_add (d : Nat) (hd : d ≤ 9) : digitOf (48 + d) = d := by unfold digitOf; rw [if_neg (by omega)]; omega

/-- The run of the one thread, held against the reckoning. -/
theorem c_run (ps : List (Nat × Nat)) (hps : ∀ o ∈ ps, COk o) : ∀ (suf pre : List (Nat × Nat)) (v : Int) (over k : Nat), ps = pre ++ suf → ps.length + 2 - min (pre.length + over) (ps.length + 1) ≤ k →
    ((suf.foldl cStep ⟨v, false, over⟩).dead = false → settle (cRow ps) k ⟨min (pre.length + over) (ps.length + 1), false, v, 0, 0⟩ = ⟨min (ps.length + (suf.foldl cStep ⟨v, false, over⟩).over) (ps.length + 1), false, (suf.foldl cStep ⟨v, false, over⟩).v, 0, 0⟩) ∧
    ((suf.foldl cStep ⟨v, false, over⟩).dead = true → (settle (cRow ps) k ⟨min (pre.length + over) (ps.length + 1), false, v, 0, 0⟩).failed = true)
  | [], pre, v, over, k, hp, hk => by
    have hl : ps.length = pre.length := by rw [hp]; simp
    refine ⟨fun _ => ?_, fun h => by cases h⟩
    simp only [List.foldl_nil]
    rw [← hl]
    by_cases ho : over = 0
    · subst ho
      have e : min (ps.length + 0) (ps.length + 1) = ps.length := by omega
      rw [e]
      refine settle_shared (o := ⟨119, 100, -1⟩) ?_ rfl k
      unfold opAt cRow
      simp
    · have e : min (ps.length + over) (ps.length + 1) = ps.length + 1 := by omega
      rw [e]
      refine settle_none ?_ k
      unfold opAt
      simp only [Bool.false_eq_true, if_false]
      exact List.getElem?_eq_none (by rw [cRow_length]; exact Nat.le_refl _)
  | o :: suf, pre, v, over + 1, k, hp, hk => by
    have ih := c_run ps hps suf (pre ++ [o]) v over k (by rw [hp]; simp) (by simp; omega)
    have e1 : (pre ++ [o]).length + over = pre.length + (over + 1) := by simp; omega
    have e2 : cStep ⟨v, false, over + 1⟩ o = ⟨v, false, over⟩ := by unfold cStep; rw [if_pos (by simp)]; rfl
    rw [List.foldl_cons, e2, ← e1]
    exact ih
  | o :: suf, pre, v, 0, k, hp, hk => by
    have hl : pre.length < ps.length := by rw [hp]; simp
    have hmin : min (pre.length + 0) (ps.length + 1) = pre.length := by omega
    have hmin1 : min ((pre ++ [o]).length + 0) (ps.length + 1) = pre.length + 1 := by simp; omega
    obtain ⟨k', rfl⟩ : ∃ k', k = k' + 1 := ⟨k - 1, by omega⟩
    have ho := hps o (by rw [hp]; simp)
    have hat : opAt ⟨pre.length, false, v, 0, 0⟩ (cRow ps) = some (cRowOp o) := by
      unfold opAt cRow
      simp only [Bool.false_eq_true, if_false]
      rw [List.getElem?_append_left (by simpa using hl), hp]
      simp
    have hsh : Pl.isShared (cRowOp o).kind = false := by
      obtain ⟨kk, d⟩ := o
      have := ho.1
      simp only at this
      unfold cRowOp
      rcases this with rfl | rfl | rfl | rfl | rfl | rfl | rfl <;> rfl
    rw [hmin, settle_own hat hsh, List.foldl_cons]
    obtain ⟨kk, d⟩ := o
    obtain ⟨hkk, hd, -⟩ := ho
    simp only at hkk hd
    have ih0 := fun v' => c_run ps hps suf (pre ++ [(kk, d)]) v' 0 k' (by rw [hp]; simp) (by rw [hmin1]; omega)
    rw [hmin1] at ih0
    by_cases h33 : kk = 33
    · subst h33
      have e1 : cRowOp (33, d) = ⟨33, 0, -1⟩ := rfl
      have e3 : cStep ⟨v, false, 0⟩ (33, d) = ⟨v, v == 0, 0⟩ := by simp [cStep]
      rw [e1, e3]
      have e2 : ownStep ⟨pre.length, false, v, 0, 0⟩ (cRow ps) ⟨33, 0, -1⟩ = ⟨pre.length + 1, v == 0, v, 0, 0⟩ := by simp [ownStep]
      rw [e2]
      cases hv : (v == 0)
      · exact ih0 v
      · have hdead : (suf.foldl cStep ⟨v, true, 0⟩).dead = true := dead_stays _ _ rfl
        refine ⟨fun h => (by rw [hdead] at h; cases h), fun _ => ?_⟩
        rw [settle_none (by unfold opAt; simp)]
    · by_cases h63 : kk = 63
      · subst h63
        have e1 : cRowOp (63, d) = ⟨63, 48 + d, -1⟩ := rfl
        rw [e1]
        have hpa : passed ((cRow ps).drop (pre.length + 1)) d = min d (ps.length - pre.length) := by
          rw [passed_all _ _ (fun x hx => cRow_nobound ps hps x (List.mem_of_mem_drop hx)), List.length_drop, cRow_length]
          congr 1; omega
        by_cases hv : v = 0
        · subst hv
          have e3 : cStep ⟨0, false, 0⟩ (63, d) = ⟨0, false, d⟩ := by simp [cStep]
          have e2 : ownStep ⟨pre.length, false, 0, 0, 0⟩ (cRow ps) ⟨63, 48 + d, -1⟩ = ⟨min ((pre ++ [(63, d)]).length + d) (ps.length + 1), false, 0, 0, 0⟩ := by
            simp only [ownStep, digit_add d hd, hpa]
            simp
            omega
          rw [e2, e3]
          exact c_run ps hps suf (pre ++ [(63, d)]) 0 d k' (by rw [hp]; simp) (by simp; omega)
        · have e3 : cStep ⟨v, false, 0⟩ (63, d) = ⟨v, false, 0⟩ := by simp [cStep, hv]
          have e2 : ownStep ⟨pre.length, false, v, 0, 0⟩ (cRow ps) ⟨63, 48 + d, -1⟩ = ⟨pre.length + 1, false, v, 0, 0⟩ := by simp [ownStep, hv]
          rw [e2, e3]
          exact ih0 v
      · have e1 : cRowOp (kk, d) = ⟨kk, 48 + d, -1⟩ := by unfold cRowOp; rw [if_neg h33]
        have e3 : cStep ⟨v, false, 0⟩ (kk, d) = ⟨reck kk v d, false, 0⟩ := by simp [cStep, h33, h63]
        have e2 : ownStep ⟨pre.length, false, v, 0, 0⟩ (cRow ps) ⟨kk, 48 + d, -1⟩ = ⟨pre.length + 1, false, reck kk v d, 0, 0⟩ := by simp [ownStep, h33, h63, digit_add d hd]
        rw [e1, e2, e3]
        exact ih0 _

/-- The beginning of a program of one row. -/
theorem begin_one (r : List Pl.POp) : beginTo [r] 4 = ⟨0, 0, 0, 0, settle r (r.length + 1) th0, th0, th0, th0⟩ := rfl

def oneSt (t : Th) (a b c d : Int) : St := ⟨a, b, c, d, t, th0, th0, th0⟩

theorem stOp_one (t : Th) (a b c d : Int) (r : List Pl.POp) : stOp (oneSt t a b c d) [r] 0 = opAt t r ∧ stOp (oneSt t a b c d) [r] 1 = none ∧ stOp (oneSt t a b c d) [r] 2 = none ∧ stOp (oneSt t a b c d) [r] 3 = none := ⟨rfl, rfl, rfl, rfl⟩

theorem end_one (t : Th) (a b c d : Int) (r : List Pl.POp) (h : opAt t r = none) : endOf (oneSt t a b c d) [r] = if t.failed then 2 else 1 := by
  obtain ⟨h0, h1, h2, h3⟩ := stOp_one t a b c d r
  rw [h] at h0
  have c0 : canStep (oneSt t a b c d) [r] 0 = false := by unfold canStep; rw [h0]
  have c1 : canStep (oneSt t a b c d) [r] 1 = false := by unfold canStep; rw [h1]
  have c2 : canStep (oneSt t a b c d) [r] 2 = false := by unfold canStep; rw [h2]
  have c3 : canStep (oneSt t a b c d) [r] 3 = false := by unfold canStep; rw [h3]
  have w0 : waits (oneSt t a b c d) [r] 0 = false := by unfold waits; rw [h0]
  have w1 : waits (oneSt t a b c d) [r] 1 = false := by unfold waits; rw [h1]
  have w2 : waits (oneSt t a b c d) [r] 2 = false := by unfold waits; rw [h2]
  have w3 : waits (oneSt t a b c d) [r] 3 = false := by unfold waits; rw [h3]
  have f1 : ((oneSt t a b c d).th 1).failed = false := rfl
  have f2 : ((oneSt t a b c d).th 2).failed = false := rfl
  have f3 : ((oneSt t a b c d).th 3).failed = false := rfl
  have f0 : ((oneSt t a b c d).th 0).failed = t.failed := rfl
  unfold endOf
  cases ht : t.failed <;> simp [endFrom, endOne, c0, c1, c2, c3, w0, w1, w2, w3, f0, f1, f2, f3, ht]

end Go.Proofs.Ytfdafcnfefbcbaa
