/-
  The contract of the statements' own shared; how a list of raw steps lies in memory.
-/
import Derived.Test.YtfdafcnfefbcbabSpell
namespace Go.Proofs.Ytfdafcnfefbcbab
open Go.RowKit
set_option linter.unusedVariables false

theorem head_of_bytes {s : ByteArray} {c : Nat} {r : List Nat} (h : bytesOf s = c :: r) : 0 < s.size ∧ ∀ h0 : 0 < s.size, s[0].toNat = c := by
  have hl := bytesOf_length s
  rw [h] at hl
  simp at hl
  refine ⟨by omega, fun h0 => ?_⟩
  have := bytesOf_drop s 0 h0
  rw [List.drop_zero, h] at this
  simp at this
  exact this.symm

set_option maxRecDepth 100000 in
set_option maxHeartbeats 1000000 in
theorem sharedS_any (s : ByteArray) (c : Nat) (r : List Nat) (w : World) (h : bytesOf s = c :: r) (hlen : s.size ≤ 1000) : Calls Try.prog 28 #[.string s] w fun e w' => e = .returned (.bool (Pl.isShared c)) ∧ w' = w := by
  obtain ⟨h0, h1⟩ := head_of_bytes h
  have h2 := h1 h0
  have h0' : (0 : Int) < (s.size : Int) := by omega
  clear h h1
  by_cases e0 : c = 114
  · subst e0
    go_enter Try.func28, Try.ntmps28
    go_wp2
    go_ret
    exact ⟨rfl, rfl⟩
  by_cases e1 : c = 119
  · subst e1
    clear e0
    go_enter Try.func28, Try.ntmps28
    go_wp2
    go_ret
    exact ⟨rfl, rfl⟩
  by_cases e2 : c = 108
  · subst e2
    clear e0 e1
    go_enter Try.func28, Try.ntmps28
    go_wp2
    go_ret
    exact ⟨rfl, rfl⟩
  by_cases e3 : c = 117
  · subst e3
    clear e0 e1 e2
    go_enter Try.func28, Try.ntmps28
    go_wp2
    go_ret
    exact ⟨rfl, rfl⟩
  · have f0 : ((c : Int) == 114) = false := by simp; omega
    have f1 : ((c : Int) == 119) = false := by simp; omega
    have f2 : ((c : Int) == 108) = false := by simp; omega
    have f3 : ((c : Int) == 117) = false := by simp; omega
    have HF : Hid (Pl.isShared c = false) := by show _ = _; simp [Pl.isShared]; omega
    clear e0 e1 e2 e3
    go_enter Try.func28, Try.ntmps28
    go_wp2
    go_ret
    exact ⟨ret_bool HF.out.symm, rfl⟩

/-- A raw step. -/
structure Raw where
  thread : Int
  kind : Int
  arg : Int

def InI64 (x : Int) : Prop := -9223372036854775808 ≤ x ∧ x ≤ 9223372036854775807

/-- A list of raw steps behind a slice. -/
def RawsIn (w : World) (a : Option Addr) (os : List Raw) : Prop :=
  0 < os.length → ∃ g o, a = some ⟨g, o, none⟩ ∧ g < w.heap.size ∧ ∀ i x, os[i]? = some x → w.cell? ⟨g, o + i * 3, none⟩ = some (.int .i64 x.thread) ∧ w.cell? ⟨g, o + i * 3 + 1, none⟩ = some (.int .i64 x.kind) ∧ w.cell? ⟨g, o + i * 3 + 2, none⟩ = some (.int .i64 x.arg) ∧ InI64 x.thread ∧ InI64 x.kind ∧ InI64 x.arg

end Go.Proofs.Ytfdafcnfefbcbab
