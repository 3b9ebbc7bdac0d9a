/-
  Plain, for Traced: what the steps of a run tell, and how variables and locks stand behind each.
-/
import Derived.Test.YtfdafcnfefbcbaaLinePl
namespace Go.Proofs.Ytfdafcnfefbcbaa
open Go.RowKit
set_option linter.unusedVariables false

/-! Names: a shared operation has a name of its kind. -/
def Nm (o : Pl.POp) : Prop := Pl.isShared o.kind = true → Pl.isName o.kind o.name = true
def Names (p : List (List Pl.POp)) : Prop := ∀ r ∈ p, ∀ o ∈ r, Nm o

theorem shared_takes {k : Nat} (h : Pl.isShared k = true) : Pl.takesName k = true := by
  simp only [Pl.isShared, Bool.or_eq_true, beq_iff_eq] at h
  simp only [Pl.takesName, Bool.or_eq_true, beq_iff_eq]
  omega

theorem names_add {d : Pl.Draft} {k x : Nat} (h1 : ∀ r ∈ d.threads, ∀ o ∈ r, Nm o) (h2 : ∀ o ∈ d.ops, Nm o) (hx : Pl.takesName k = true → Pl.isName k x = true) :
    (∀ r ∈ (Pl.add d k x).threads, ∀ o ∈ r, Nm o) ∧ ∀ o ∈ (Pl.add d k x).ops, Nm o := by
  have push : ∀ o : Pl.POp, Nm o → ∀ q ∈ d.ops ++ [o], Nm q := fun o ho q hq => by
    rcases List.mem_append.1 hq with hq | hq
    · exact h2 q hq
    · simp at hq; subst hq; exact ho
  unfold Pl.add
  split
  · unfold Pl.endThread
    refine ⟨fun r hr => ?_, fun o ho => by simp at ho⟩
    rcases List.mem_append.1 hr with hr | hr
    · exact h1 r hr
    · simp at hr; subst hr; exact h2
  split
  · rename_i h91
    refine ⟨h1, push _ (fun h => ?_)⟩
    simp at h91; subst h91; simp [Pl.isShared] at h
  split
  · rename_i h93
    refine ⟨h1, push _ (fun h => ?_)⟩
    simp at h93; subst h93; simp [Pl.isShared] at h
  · exact ⟨h1, push _ (fun h => hx (shared_takes h))⟩

theorem read_names : ∀ (s : List Nat) (d : Pl.Draft) (i : Nat) (p : List (List Pl.POp)), (∀ r ∈ d.threads, ∀ o ∈ r, Nm o) → (∀ o ∈ d.ops, Nm o) → (Pl.read d i s).1 = some p → Names p
  | [], d, i, p, h1, h2, h => by
    rw [Pl.read] at h
    split at h
    · simp at h
      subst h
      intro r hr
      rcases List.mem_append.1 hr with hr | hr
      · exact h1 r hr
      · simp at hr; subst hr; exact h2
    · cases h
  | [k], d, i, p, h1, h2, h => by
    rw [Pl.read] at h
    split at h
    · split at h
      · cases h
      · rename_i ht
        obtain ⟨a, b⟩ := names_add (k := k) (x := 0) h1 h2 (fun hk => absurd hk ht)
        exact read_names [] _ _ p a b h
    · cases h
  | k :: x :: r, d, i, p, h1, h2, h => by
    rw [Pl.read] at h
    split at h
    · split at h
      · split at h
        · rename_i hn
          obtain ⟨a, b⟩ := names_add (k := k) (x := x) h1 h2 (fun _ => hn)
          exact read_names r _ _ p a b h
        · cases h
      · rename_i ht
        obtain ⟨a, b⟩ := names_add (k := k) (x := 0) h1 h2 (fun hk => absurd hk ht)
        exact read_names (x :: r) _ _ p a b h
    · cases h

theorem new_names {s : List Nat} {p : List (List Pl.POp)} (h : Pl.new s = .inr p) : Names p := by
  unfold Pl.new at h
  split at h
  · cases h
  · split at h
    · cases h
    · rename_i q hq
      split at h
      · cases h
      · simp at h
        subst h
        exact read_names s _ _ _ (by simp [Pl.draft0]) (by simp [Pl.draft0]) hq

/-! The states of a run. -/
def runSt (p : List (List Pl.POp)) : St → List Int → Option St
  | S, [] => some S
  | S, m :: ms => match step S p m with
    | none => none
    | some x => runSt p x.1 ms

/-- What the events of a run are: each tells its step. -/
theorem follow_events (p : List (List Pl.POp)) : ∀ (ms : List Int) (S : St) (es : List Ev) (g : Nat) (S1 : St) (es1 : List Ev), follow p S es g ms = some (S1, es1) →
    runSt p S ms = some S1 ∧ ∃ tl : List Ev, es1 = es ++ tl ∧ tl.length = ms.length ∧ ∀ (i : Nat) (e : Ev), tl[i]? = some e → ∃ (m : Int) (Si Si' : St) (ev : Ev), ms[i]? = some m ∧ runSt p S (ms.take i) = some Si ∧ step Si p m = some (Si', ev) ∧ runSt p S (ms.take (i + 1)) = some Si' ∧ e = ⟨ev.thread, ev.kind, ev.name, ev.value, ev.block, e.group⟩
  | [], S, es, g, S1, es1, h => by
    simp only [follow, Option.some.injEq, Prod.mk.injEq] at h
    obtain ⟨rfl, rfl⟩ := h
    exact ⟨rfl, [], by simp, rfl, fun i e h => by simp at h⟩
  | m :: ms, S, es, g, S1, es1, h => by
    rw [follow] at h
    cases hs : step S p m with
    | none => rw [hs] at h; cases h
    | some x =>
      obtain ⟨S', ev⟩ := x
      rw [hs] at h
      obtain ⟨h1, tl, h2, h3, h4⟩ := follow_events p ms _ _ _ _ _ h
      refine ⟨by rw [runSt, hs]; exact h1, ⟨ev.thread, ev.kind, ev.name, ev.value, ev.block, groupOf es ev.thread ev.block g⟩ :: tl, by rw [h2]; simp, by simp [h3], fun i e he => ?_⟩
      cases i with
      | zero =>
        simp at he
        subst he
        exact ⟨m, S, S', ev, rfl, rfl, hs, by simp [runSt, hs], rfl⟩
      | succ i =>
        obtain ⟨m', Si, Si', ev', a, b, c, d, f⟩ := h4 i e (by simpa using he)
        exact ⟨m', Si, Si', ev', by simpa using a, by rw [List.take_succ_cons, runSt, hs]; exact b, c, by rw [List.take_succ_cons, runSt, hs]; exact d, f⟩

theorem run_ok (p : List (List Pl.POp)) : ∀ (ms : List Int) (S S1 : St), StOk S p → runSt p S ms = some S1 → StOk S1 p
  | [], S, S1, h, hr => by simp [runSt] at hr; subst hr; exact h
  | m :: ms, S, S1, h, hr => by
    rw [runSt] at hr
    cases hs : step S p m with
    | none => rw [hs] at hr; cases hr
    | some x =>
      obtain ⟨S', ev⟩ := x
      rw [hs] at hr
      exact run_ok p ms _ _ (step_ok h hs) hr

/-! What one step tells. -/
theorem settle_held (r : List Pl.POp) : ∀ (k : Nat) (t : Th), (settle r k t).h0 = t.h0 ∧ (settle r k t).h1 = t.h1
  | 0, t => ⟨rfl, rfl⟩
  | k + 1, t => by
    cases h : opAt t r with
    | none => rw [settle_none h]; exact ⟨rfl, rfl⟩
    | some o =>
      cases hs : Pl.isShared o.kind with
      | true => rw [settle_shared h hs]; exact ⟨rfl, rfl⟩
      | false =>
        rw [settle_own h hs]
        have := settle_held r k (ownStep t r o)
        have h2 := ownStep_holds t r o
        exact ⟨this.1.trans h2.1, this.2.trans h2.2⟩

theorem settle_failed (r : List Pl.POp) (k : Nat) (t : Th) (h : t.failed = true) : (settle r k t).failed = true := by
  rw [settle_none (by unfold opAt; simp [h])]; exact h

theorem gone_held (p : List (List Pl.POp)) (n : Nat) (hn : n < 4) (S1 : St) (m : Nat) (hm : m < 4) (l : Nat) : ((goneTo p n S1).th m).held l = (S1.th m).held l := by
  unfold goneTo
  rw [th_setTh _ _ _ hn m hm]
  by_cases h : m = n
  · subst h
    rw [if_pos rfl]
    have := settle_held (rowOf p m) ((rowOf p m).length + 1) ⟨(S1.th m).pos + 1, (S1.th m).failed, (S1.th m).reg, (S1.th m).h0, (S1.th m).h1⟩
    unfold Th.held
    split
    · exact this.1
    · exact this.2
  · rw [if_neg h]

theorem var_setTh (S : St) (n : Nat) (t : Th) (i : Nat) : (S.setTh n t).var i = S.var i := by
  unfold St.setTh
  repeat' split
  all_goals (unfold St.var; repeat' split; all_goals rfl)

theorem gone_var (p : List (List Pl.POp)) (n : Nat) (S1 : St) (i : Nat) : (goneTo p n S1).var i = S1.var i := by
  unfold goneTo; exact var_setTh _ _ _ _

/-- What a step tells, kind by kind. -/
theorem step_tells {S S' : St} {p : List (List Pl.POp)} {m : Int} {ev : Ev} (hS : StOk S p) (hN : Names p) (h : step S p m = some (S', ev)) :
    ∃ (n : Nat) (o : Pl.POp), m = (n : Int) ∧ n < 4 ∧ ev.thread = (n : Int) ∧ ev.kind = o.kind ∧ ev.name = o.name ∧ ev.value = (shared S n o).2 ∧ S' = goneTo p n (shared S n o).1 ∧ Pl.isShared o.kind = true ∧ Pl.isName o.kind o.name = true ∧ (S.th n).failed = false ∧ (o.kind = 108 → heldTo S (lockOf o.name) n 4 = false) := by
  unfold step at h
  split at h
  · cases h
  · rename_i o ho
    split at h
    · rename_i hc
      obtain ⟨n, rfl, hn, hop⟩ := stOp_some ho
      simp only [Option.some.injEq, Prod.mk.injEq, Int.toNat_natCast] at h
      obtain ⟨rfl, rfl⟩ := h
      have hsh := (hS n hn).stands o hop
      have hmem := (opAt_lt hop).2
      have hrow := rowOf_mem p (n : Int)
      refine ⟨n, o, rfl, hn, rfl, rfl, rfl, rfl, rfl, hsh, ?_, ?_, fun hk => ?_⟩
      · rcases hrow with h0 | h0
        · rw [h0] at hmem; cases hmem
        · exact hN _ h0 o hmem hsh
      · unfold opAt at hop
        split at hop
        · cases hop
        · rename_i hf
          simpa using hf
      · unfold canStep at hc
        rw [ho] at hc
        simp [hk] at hc
        exact hc
    · cases h

theorem heldTo_false {S : St} {l : Nat} {m : Int} : ∀ (k : Nat), heldTo S l m k = false → ∀ u, u < k → (u : Int) ≠ m → (S.th u).held l = 0
  | 0, _, u, hu, _ => by omega
  | k + 1, h, u, hu, hne => by
    rw [heldTo_succ] at h
    simp only [Bool.or_eq_false_iff] at h
    by_cases hk : u = k
    · subst hk
      have := h.2
      simp [hne] at this
      omega
    · exact heldTo_false k h.1 u (by omega) hne

theorem heldTo_true {S : St} {l : Nat} {m : Int} : ∀ (k : Nat), heldTo S l m k = true → ∃ u, u < k ∧ 0 < (S.th u).held l
  | 0, h => by cases h
  | k + 1, h => by
    rw [heldTo_succ] at h
    simp only [Bool.or_eq_true] at h
    rcases h with h | h
    · obtain ⟨u, a, b⟩ := heldTo_true k h
      exact ⟨u, by omega, b⟩
    · simp at h
      exact ⟨k, by omega, h.2⟩

/-- A run is Stuck only where some lock is held. -/
theorem end_stuck (S : St) (p : List (List Pl.POp)) : ∀ (k n e : Nat), endFrom S p k n e = 3 → e = 3 ∨ ∃ j, waits S p (j : Int) = true
  | 0, n, e, h => .inl h
  | k + 1, n, e, h => by
    unfold endFrom at h
    split at h
    · cases h
    · rcases end_stuck S p k (n + 1) _ h with h1 | h1
      · unfold endOne at h1
        cases hw : waits S p (n : Int) with
        | true => exact .inr ⟨n, hw⟩
        | false =>
          rw [hw] at h1
          left
          simp at h1
          split at h1 <;> first | omega | exact h1
      · exact .inr h1

theorem stuck_held (S : St) (p : List (List Pl.POp)) (h : endOf S p = 3) : ∃ u l, u < 4 ∧ (l = 0 ∨ l = 1) ∧ 0 < (S.th u).held l := by
  rcases end_stuck S p 4 0 1 h with h | ⟨j, h⟩
  · cases h
  · unfold waits at h
    split at h
    · cases h
    · rename_i o ho
      simp only [Bool.and_eq_true] at h
      obtain ⟨u, a, b⟩ := heldTo_true 4 h.2
      exact ⟨u, lockOf o.name, a, lockOf_two _, b⟩

end Go.Proofs.Ytfdafcnfefbcbaa
