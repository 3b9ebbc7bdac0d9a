/-
  PROVED HERE: whatever the text and the schedule, the Go function interleavelaw.Orders, called in whatever memory and on every schedule of its own steps, returns true and leaves its arguments as they were: Cycle and Arrange answer as the document asks, twice the same, and leave what they were handed.
  No condition beside the form's own reach.
-/
import Derived.Test.YtfdafcnfefbcbaaLwo
import Derived.Test.YtfdafcnfefbcbaaLwb
namespace Go.Proofs.Ytfdafcnfefbcbaa.orders
open Go.ChangeShapes Go.WideShapes Go.ChangeAt Go.RowKit
open Go.ChangeMaps (open_string shut_string)
set_option linter.unusedVariables false

theorem own : ownKnob Try.prog.godebug = none := by kernel_rfl
theorem laidOut : laidOutB Try.prog = true := by kernel_rfl

set_option maxRecDepth 100000 in
theorem lifted (os : Os) (started : os.Started) (H : Type) (enc : TypeId × Value → H) :
    ReturnsInHanded {} Try.checked os 9 .any (Rows.ordersSpec.pre6 enc Try.prog Try.f9 Rows.ordersRow.domain false) (Rows.ordersSpec.post enc Try.prog Try.f9 false true false false) := by
  refine returnsInHanded_of_change_sized (C := Try.checked) own started (by kernel_rfl) Try.func9
    (ChangeSpec.witness6 (enc := enc) (C := Try.checked) false ⟨#[], #[.string ByteArray.empty, .slice none 0 0], []⟩ 8 (by kernel_rfl) (by kernel_rfl) (by kernel_rfl) (by kernel_rfl)) ?_
  intro W base args ds gs before hval0 hW hcnd hsz0 _
  have hval : ∀ (j : Nat) t v, Try.f9.params[j]? = some t → args[j]? = some v → Value.okWide Try.prog W .any base t v := hval0
  have hsz : (DataW.weightsEach Try.prog (Try.f9.params.toList ++ _) (ds ++ gs)).all (· ≤ reachBytes) = true := hsz0
  have hW' := hW
  obtain ⟨p, q, hA0, hV, rfl, hfz, hnd⟩ := hW
  have hA : DataW.TrodAll enc Try.prog W 0 (fun _ => true) true Try.f9.params.toList args.toList ds p := hA0
  rw [Try.params9] at hA hval hsz
  obtain ⟨v0, vs0, d0, ds0, p0, q0, hargs, rfl, rfl, h0, r0⟩ := trodAll_cons hA
  obtain ⟨v1, vs1, d1, ds1, p1, q1, rfl, rfl, rfl, h1, r1⟩ := trodAll_cons r0
  obtain ⟨rfl, rfl, rfl⟩ := trodAll_nil r1
  obtain rfl : args = #[v0, v1] := by cases args; simp_all
  obtain ⟨rfl, rfl⟩ := trodVars_none hV
  obtain ⟨a0, rfl, rfl, rfl, w0⟩ := open_string Try.underlying9 (hval 0 9 v0 rfl rfl) h0
  have z0 : a0.size ≤ 140737488351232 := by have := sized_string hsz (j := 0) rfl rfl; simpa [reachBytes] using this
  obtain ⟨a1, len1, cap1, rfl⟩ := okWide_slice Try.underlying40 (hval 1 40 v1 rfl rfl)
  have k1 := h1
  have lt1 : ∀ x ∈ p1, x.block < W.heap.size := by obtain ⟨m, hm⟩ := k1; exact DataW.trod_lt m _ _ _ hm
  obtain ⟨l1, hl1, w1, z1⟩ : ∃ l, l.length = len1 ∧ SeqIn W a1 l ∧ len1 ≤ 17592186044416 := by
    obtain ⟨fuel, hf⟩ := h1
    have hcells : (Value.slice a1 len1 cap1).cells.toList = [.slice a1 len1 cap1] := rfl
    obtain ⟨l, e1, e2⟩ := seq_of hf
    refine ⟨l, e1, e2, ?_⟩
    rcases Go.Deep.open_slice Try.underlying40 hf with ⟨hcs, -⟩ | ⟨a', l', c', m, n, D, Pl, hcs, -, hlc, -, hmm, hx, -⟩
    · simp [Value.cells] at hcs; omega
    · simp [Value.cells] at hcs
      obtain ⟨rfl, rfl, rfl⟩ := hcs
      have hd := congrArg Prod.fst hx
      simp only at hd
      rw [hd] at hsz
      have hw := sized_slice hsz (j := 1) rfl rfl Try.underlying40
      have hb : Try.prog.bytesOf 3 = 8 := by kernel_rfl
      rw [hb] at hw
      simp [reachBytes] at hw
      omega
  clear hA0 hval0
  subst hl1
  refine (orders_walk a0 l1 a1 cap1 W (by unfold maxLen; omega) w1 z1).mono fun e W' ⟨he, bel⟩ => ?_
  subst he
  exact ⟨_, rfl, _, _, _, [], _, [], hW', trodAll_mk1 (shut_bool Try.underlying4 _), (trodAll_cons_mk (shut_string Try.underlying9 w0) (trodAll_cons_mk (Below.trod laidOut (by kernel_rfl) (of_decide_eq_true (by kernel_rfl)) k1 bel lt1) trodAll_mk0)), rfl, bel.frame _, fun h => by cases h⟩

theorem over : Rows.ordersRow.holds Try.pinned (OpenSpec.ofChange Rows.ordersSpec) :=
  OpenClaim.holds_of_wide 9 Try.f9 rfl rfl rfl rfl rfl rfl rfl ⟨rfl, rfl, rfl, rfl, rfl⟩ rfl rfl rfl rfl rfl (by kernel_rfl) Try.func9 (by kernel_rfl)
    (of_decide_eq_true (by kernel_rfl)) (by unfold Func.isWrapper; first | (rw [if_pos (by decide +kernel)]; kernel_rfl) | (rw [if_neg (by decide +kernel)]; exact ⟨rfl, rfl⟩))
    (fun os started H enc _ => lifted os started H enc)
end Go.Proofs.Ytfdafcnfefbcbaa.orders
namespace Go.Proofs.Ytfdafcnfefbcbaa

theorem orders_holds : Rows.OrdersSaid := orders.over
#print axioms orders_holds
end Go.Proofs.Ytfdafcnfefbcbaa
