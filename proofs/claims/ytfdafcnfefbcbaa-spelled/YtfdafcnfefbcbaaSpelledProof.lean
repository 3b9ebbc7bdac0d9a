/-
  PROVED HERE: whatever the two strings and the number, the Go function interleavekeep.Spelled, called in whatever memory and on every schedule, returns true and leaves its arguments as they were: where a text cannot go on as a program text nothing behind that place matters, and each beginning of a program text is one or ends too early.
  No condition beside the form's own reach.
-/
import Derived.Test.YtfdafcnfefbcbaaSpelled2
import Derived.Test.YtfdafcnfefbcbaaSpelled3
import Derived.WalkKit
import Derived.ProofKit
import Derived.OpenShut
import Derived.ShutString
import Derived.ChangeOld
import Derived.SizedLaws
import Derived.Below
namespace Go.Proofs.Ytfdafcnfefbcbaa.spelled
open Go.ChangeShapes Go.WideShapes Go.ChangeAt Go.RowKit
open Go.ChangeMaps (open_string shut_string)
set_option linter.unusedVariables false

theorem walk (s o : ByteArray) (cut : Int) (w : World) (hs : s.size ≤ 140737488351232) (ho : o.size ≤ 140737488351232) (hc : -9223372036854775808 ≤ cut ∧ cut ≤ 9223372036854775807) :
    Calls Try.prog 4 #[.string s, .string o, .int .i64 cut] w fun e w' => e = .returned (.bool true) ∧ Below w.heap.size w w' := by
  by_cases hl : 100 < s.size
  · exact spelled_long s o cut w hs hl
  · have hl : s.size ≤ 100 := by omega
    have hbl := bytesOf_length s
    have hex : ∀ n, n ≤ s.size → (s.extract 0 n).size ≤ 100 := fun n hn => by simp; omega
    have hlen : ∀ n, ((bytesOf s).take n).length ≤ 100 := fun n => by simp; omega
    rcases new_cases (bytesOf s) (by omega) with ⟨n, hp, hn⟩ | ⟨hp, hn⟩
    · have hb := Pl.place_bound (bytesOf s) false 1 0 0
      rw [hp] at hb
      by_cases he : n = s.size
      · subst he; exact spelled_end s o cut w hl hn
      · have hlt : n < s.size := by omega
        have hcut := Pl.place_cut (bytesOf s) false 1 0 0 n (by rw [hp]; omega) (by omega)
        by_cases hf : 100 < n + 1 + o.size
        · exact spelled_far s o cut n w hl ho hn hlt hf
        · have hnear : n + 1 + o.size ≤ 100 := by omega
          have e1 : bytesOf (s.extract 0 (n + 1) ++ o) = (bytesOf s).take (n + 1) ++ bytesOf o := by rw [bytesOf_append, bytesOf_take]
          have h1 : Pl.new (bytesOf (s.extract 0 (n + 1) ++ o)) = .inl (2, n) := by
            rw [e1]
            refine new_of_place (by rw [List.length_append, bytesOf_length, List.length_take]; omega) ?_
            have := hcut.1 (bytesOf o)
            rw [Nat.zero_add] at this; exact this
          have h2 : Pl.new (bytesOf (s.extract 0 n)) = .inl (2, n) ∨ Pl.new (bytesOf (s.extract 0 n)) = .inl (3, 0) ∨ ∃ p, Pl.new (bytesOf (s.extract 0 n)) = .inr p := by
            rw [bytesOf_take]
            refine new_early (hlen n) ?_
            have := hcut.2
            rw [Nat.zero_add] at this; exact this
          rcases h2 with h2 | h2 | ⟨p, h2⟩
          · exact spelled_near2 s o cut n w hl ho hn hlt hnear h1 h2
          · exact spelled_near3 s o cut n w hl ho hn hlt hnear h1 h2
          · exact spelled_near0 s o cut n w hl ho hn hlt p hnear h1 h2
    · have hpk := pickOf_lt cut ((s.size : Int) + 1) (by omega)
      have hk : pickOf cut ((s.size : Int) + 1) = ((pickOf cut ((s.size : Int) + 1)).toNat : Int) := by omega
      have hle : (pickOf cut ((s.size : Int) + 1)).toNat ≤ (bytesOf s).length := by omega
      generalize (pickOf cut ((s.size : Int) + 1)).toNat = n at hk hle
      have h2 : Pl.new (bytesOf (s.extract 0 n)) = .inl (2, n) ∨ Pl.new (bytesOf (s.extract 0 n)) = .inl (3, 0) ∨ ∃ p, Pl.new (bytesOf (s.extract 0 n)) = .inr p := by
        rw [bytesOf_take]
        refine new_early (hlen n) ?_
        have := Pl.place_begin (bytesOf s) false 1 0 0 n hp hle
        rw [Nat.zero_add] at this; exact this
      rcases hn with hn | ⟨q, hn⟩ <;> rcases h2 with h2 | h2 | ⟨p, h2⟩
      · exact spelled_cut32 s o cut n w hl hc hk hn h2
      · exact spelled_cut33 s o cut n w hl hc hk hn h2
      · exact spelled_cut30 s o cut n w hl hc hk hn p h2
      · exact spelled_cut02 s o cut n w hl hc hk q hn h2
      · exact spelled_cut03 s o cut n w hl hc hk q hn h2
      · exact spelled_cut00 s o cut n w hl hc hk q hn p h2

theorem own : ownKnob Try.prog.godebug = none := by kernel_rfl

theorem wf_range {a : Int} (h : (Lit.int .i64 a).wf = true) : -9223372036854775808 ≤ a ∧ a ≤ 9223372036854775807 := by
  have h1 : IntKind.i64.min = -9223372036854775808 := by decide
  have h2 : IntKind.i64.max = 9223372036854775807 := by decide
  simp [Lit.wf, h1, h2] at h
  omega

set_option maxRecDepth 100000 in
theorem lifted (os : Os) (started : os.Started) (H : Type) (enc : TypeId × Value → H) :
    ReturnsInHanded {} Try.checked os 4 .any (Rows.spelledSpec.pre6 enc Try.prog Try.f4 Rows.spelledRow.domain false) (Rows.spelledSpec.post enc Try.prog Try.f4 false true false false) := by
  refine returnsInHanded_of_change_sized (C := Try.checked) own started (by kernel_rfl) Try.func4
    (ChangeSpec.witness6 (enc := enc) (C := Try.checked) false ⟨#[], #[.string ByteArray.empty, .string ByteArray.empty, .int .i64 0], []⟩ 8 (by kernel_rfl) (by kernel_rfl) (by kernel_rfl) (by kernel_rfl)) ?_
  intro W base args ds gs before hval0 hW hcnd hsz0 _
  have hval : ∀ (j : Nat) t v, Try.f4.params[j]? = some t → args[j]? = some v → Value.okWide Try.prog W .any base t v := hval0
  have hsz : (DataW.weightsEach Try.prog (Try.f4.params.toList ++ _) (ds ++ gs)).all (· ≤ reachBytes) = true := hsz0
  have hW' := hW
  obtain ⟨p, q, hA0, hV, rfl, hfz, hnd⟩ := hW
  have hA : DataW.TrodAll enc Try.prog W 0 (fun _ => true) true Try.f4.params.toList args.toList ds p := hA0
  rw [Try.params4] at hA hval hsz
  obtain ⟨v0, vs0, d0, ds0, p0, q0, hargs, rfl, rfl, h0, r0⟩ := trodAll_cons hA
  obtain ⟨v1, vs1, d1, ds1, p1, q1, rfl, rfl, rfl, h1, r1⟩ := trodAll_cons r0
  obtain ⟨v2, vs2, d2, ds2, p2, q2, rfl, rfl, rfl, h2, r2⟩ := trodAll_cons r1
  obtain ⟨rfl, rfl, rfl⟩ := trodAll_nil r2
  obtain rfl : args = #[v0, v1, v2] := by cases args; simp_all
  obtain ⟨rfl, rfl⟩ := trodVars_none hV
  obtain ⟨a0, rfl, rfl, rfl, w0⟩ := open_string Try.underlying9 (hval 0 9 v0 rfl rfl) h0
  obtain ⟨a1, rfl, rfl, rfl, w1⟩ := open_string Try.underlying9 (hval 1 9 v1 rfl rfl) h1
  obtain ⟨a2, rfl, rfl, rfl, w2⟩ := open_int Try.underlying3 (hval 2 3 v2 rfl rfl) h2
  have z0 : a0.size ≤ 140737488351232 := by have := sized_string hsz (j := 0) rfl rfl; simpa [reachBytes] using this
  have z1 : a1.size ≤ 140737488351232 := by have := sized_string hsz (j := 1) rfl rfl; simpa [reachBytes] using this
  clear hA0 hval0
  refine (walk a0 a1 a2 W z0 z1 (wf_range w2)).mono fun e W' ⟨he, bel⟩ => ?_
  subst he
  exact ⟨_, rfl, _, _, _, [], _, [], hW', trodAll_mk1 (shut_bool Try.underlying4 _), (trodAll_cons_mk (shut_string Try.underlying9 w0) (trodAll_cons_mk (shut_string Try.underlying9 w1) (trodAll_cons_mk (shut_int Try.underlying3 w2) trodAll_mk0))), rfl, bel.frame _, fun h => by cases h⟩

theorem over : Rows.spelledRow.holds Try.pinned (OpenSpec.ofChange Rows.spelledSpec) :=
  OpenClaim.holds_of_wide 4 Try.f4 rfl rfl rfl rfl rfl rfl rfl ⟨rfl, rfl, rfl, rfl, rfl⟩ rfl rfl rfl rfl rfl (by kernel_rfl) Try.func4 (by kernel_rfl)
    (of_decide_eq_true (by kernel_rfl)) (by unfold Func.isWrapper; first | (rw [if_pos (by decide +kernel)]; kernel_rfl) | (rw [if_neg (by decide +kernel)]; exact ⟨rfl, rfl⟩))
    (fun os started H enc _ => lifted os started H enc)
end Go.Proofs.Ytfdafcnfefbcbaa.spelled
namespace Go.Proofs.Ytfdafcnfefbcbaa

theorem spelled_holds : Rows.SpelledSaid := spelled.over
#print axioms spelled_holds
end Go.Proofs.Ytfdafcnfefbcbaa
