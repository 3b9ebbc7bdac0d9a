/-
  What the three calls rest on: a program in memory, what Follow answers.
-/
import Derived.Test.YtfdafcnfefbcbaaFollow
import Derived.Test.YtfdafcnfefbcbaaReady
import Derived.Test.YtfdafcnfefbcbaaEnd
import Derived.Test.YtfdafcnfefbcbaaNew
namespace Go.Proofs.Ytfdafcnfefbcbaa
open Go.RowKit
set_option linter.unusedVariables false

/-- A program of few and short rows, of bytes. -/
structure Tiny (p : List (List Pl.POp)) : Prop where
  few : p.length ≤ 1000
  short : ∀ r ∈ p, r.length ≤ 1000
  bytes : ∀ r ∈ p, Bytes r

theorem ProgIn.ok {w : World} {lo hi b : Nat} {p : List (List Pl.POp)} (h : ProgIn w lo hi b p) (hs : Tiny p) (hh : hi ≤ w.heap.size) : ∃ a cap, b < hi ∧ w.cell? ⟨b, 0, none⟩ = some (.slice a p.length cap) ∧ ProgOk w lo hi a cap p := by
  obtain ⟨h1, h2, a, cap, h3, h4⟩ := h
  exact ⟨a, cap, h2, h3, ⟨h4, hh, hs.few, hs.short, hs.bytes⟩⟩

/-! What New gives is small. -/
structure DraftSmall (d : Pl.Draft) (n : Nat) : Prop where
  few : d.threads.length ≤ 4
  len : d.ops.length ≤ n
  short : ∀ r ∈ d.threads, r.length ≤ n
  bytes : ∀ r ∈ d.threads, Bytes r
  own : Bytes d.ops

theorem DraftSmall.mono {d : Pl.Draft} {n m : Nat} (h : DraftSmall d n) (hm : n ≤ m) : DraftSmall d m :=
  ⟨h.few, Nat.le_trans h.len hm, fun r hr => Nat.le_trans (h.short r hr) hm, h.bytes, h.own⟩

theorem DraftSmall.add {d : Pl.Draft} {n k x : Nat} (h : DraftSmall d n) (ha : Pl.admits d k = true) (hk : k < 256) (hx : x < 256) : DraftSmall (Pl.add d k x) (n + 1) := by
  have push : ∀ o : Pl.POp, o.kind < 256 ∧ o.name < 256 → Bytes (d.ops ++ [o]) := fun o ho => by
    intro q hq
    rcases List.mem_append.1 hq with hq | hq
    · exact h.own q hq
    · simp at hq; subst hq; exact ho
  have hl := h.len
  unfold Pl.add
  split
  · rename_i h10
    unfold Pl.endThread
    have h4 : d.threads.length + 1 < 4 := by
      unfold Pl.admits at ha
      rw [if_pos h10] at ha
      simp at ha; omega
    refine ⟨by simp; omega, by simp, fun r hr => ?_, fun r hr => ?_, fun q hq => by simp at hq⟩
    · rcases List.mem_append.1 hr with hr | hr
      · exact Nat.le_succ_of_le (h.short r hr)
      · simp at hr; subst hr; omega
    · rcases List.mem_append.1 hr with hr | hr
      · exact h.bytes r hr
      · simp at hr; subst hr; exact h.own
  split
  · exact ⟨h.few, by simp; omega, fun r hr => Nat.le_succ_of_le (h.short r hr), h.bytes, push _ ⟨hk, by simp⟩⟩
  split
  · exact ⟨h.few, by simp; omega, fun r hr => Nat.le_succ_of_le (h.short r hr), h.bytes, push _ ⟨hk, by simp⟩⟩
  · exact ⟨h.few, by simp; omega, fun r hr => Nat.le_succ_of_le (h.short r hr), h.bytes, push _ ⟨hk, hx⟩⟩

theorem read_tiny : ∀ (s : List Nat) (d : Pl.Draft) (i n : Nat) (p : List (List Pl.POp)), DraftSmall d n → (∀ c ∈ s, c < 256) → (Pl.read d i s).1 = some p → p.length ≤ 5 ∧ ∀ r ∈ p, r.length ≤ n + s.length ∧ Bytes r
  | [], d, i, n, p, hd, _, h => by
    rw [Pl.read] at h
    split at h
    · simp at h
      subst h
      have := hd.few
      refine ⟨by simp; omega, fun r hr => ?_⟩
      rcases List.mem_append.1 hr with hr | hr
      · exact ⟨Nat.le_trans (hd.short r hr) (by simp), hd.bytes r hr⟩
      · simp at hr; subst hr; exact ⟨Nat.le_trans hd.len (by simp), hd.own⟩
    · cases h
  | [k], d, i, n, p, hd, hc, h => by
    rw [Pl.read] at h
    split at h
    · split at h
      · cases h
      · rename_i ha _
        have := read_tiny [] _ _ (n + 1) p (hd.add ha (hc k (by simp)) (by simp)) (by simp) h
        exact ⟨this.1, fun r hr => by have := this.2 r hr; simpa using this⟩
    · cases h
  | k :: x :: r, d, i, n, p, hd, hc, h => by
    rw [Pl.read] at h
    split at h
    · rename_i ha
      split at h
      · split at h
        · have := read_tiny r _ _ (n + 1) p (hd.add ha (hc k (by simp)) (hc x (by simp))) (fun c hc' => hc c (by simp [hc'])) h
          exact ⟨this.1, fun q hq => by have := this.2 q hq; simp at this ⊢; exact ⟨by omega, this.2⟩⟩
        · cases h
      · have := read_tiny (x :: r) _ _ (n + 1) p (hd.add ha (hc k (by simp)) (by simp)) (fun c hc' => hc c (by simp at hc' ⊢; right; exact hc')) h
        exact ⟨this.1, fun q hq => by have := this.2 q hq; simp at this ⊢; exact ⟨by omega, this.2⟩⟩
    · cases h

theorem new_tiny {s : List Nat} {p : List (List Pl.POp)} (hs : ∀ c ∈ s, c < 256) (h : Pl.new s = .inr p) : Tiny p := by
  unfold Pl.new at h
  split at h
  · cases h
  · rename_i hl
    split at h
    · cases h
    · rename_i q hq
      split at h
      · cases h
      · simp at h
        subst h
        have := read_tiny s _ _ 0 _ ⟨by simp [Pl.draft0], by simp [Pl.draft0], by simp [Pl.draft0], by simp [Pl.draft0], fun q hq => by simp [Pl.draft0] at hq⟩ hs hq
        exact ⟨by omega, fun r hr => by have := (this.2 r hr).1; omega, fun r hr => (this.2 r hr).2⟩

theorem bytesOf_lt (s : ByteArray) : ∀ c ∈ bytesOf s, c < 256 := by
  intro c hc
  unfold bytesOf at hc
  simp at hc
  obtain ⟨x, -, rfl⟩ := hc
  exact x.toNat_lt

theorem followSays_form {p : List (List Pl.POp)} {ms : List Int} {w w' : World} {e : Ending} (h : FollowSays p ms w e w') : ∃ S' ea n ecap c, e = .returned (.tuple #[.agg (stL S').toArray, .slice ea n ecap, .bool c]) ∧
    (c = false → follow p (beginTo p 4) [] 0 ms = none) ∧ (c = true → ∃ es, follow p (beginTo p 4) [] 0 ms = some (S', es) ∧ n = es.length ∧ w'.ownsRow w.heap.size 70 6 (.slice ea es.length ecap) es.length (evCells es)) := by
  have h2 := h.2
  cases hf : follow p (beginTo p 4) [] 0 ms with
  | none => rw [hf] at h2; exact ⟨st0, none, 0, 0, false, h2, fun _ => rfl, (fun h => by cases h)⟩
  | some x =>
    obtain ⟨S', es⟩ := x
    rw [hf] at h2
    obtain ⟨ea, ecap, he, ho⟩ := h2
    exact ⟨S', ea, es.length, ecap, true, he, (fun h => by cases h), fun _ => ⟨es, rfl, rfl, ho⟩⟩

end Go.Proofs.Ytfdafcnfefbcbaa
