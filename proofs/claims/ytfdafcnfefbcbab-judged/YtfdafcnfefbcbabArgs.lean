/-
  How the arguments of the statements without the document's answer lie in memory: raw steps and raw numbers, out of the reading of a slice.
-/
import Derived.Test.YtfdafcnfefbcbabRawArgs
import Derived.Deep.Slices
import Derived.WalkKit
import Derived.ProofKit
import Derived.OpenShut
import Derived.ChangeOld
import Derived.SizedLaws
import Derived.Below
namespace Go.Proofs.Ytfdafcnfefbcbab
open Go.ChangeShapes Go.WideShapes Go.ChangeAt Go.RowKit
set_option linter.unusedVariables false

theorem wf_range64 {a : Int} (h : (Lit.int .i64 a).wf = true) : InI64 a := by
  have h1 : IntKind.i64.min = -9223372036854775808 := by decide
  have h2 : IntKind.i64.max = 9223372036854775807 := by decide
  simp [Lit.wf, h1, h2] at h
  exact ⟨h.1, h.2⟩

theorem add_at (b off : Nat) (i : Nat) : (⟨b, off, none⟩ : Addr).add i = ⟨b, off + i, none⟩ := by
  unfold Addr.add
  split <;> simp_all

set_option maxRecDepth 100000 in
theorem raws_of {H : Type} {enc : TypeId × Value → H} {W : World} {base : Nat} {spare : Nat → Bool} {held : Bool} {fuel : Nat} {a : Option Addr} {len cap : Nat} {x : DataW H × List MemPlace}
    (h : DataW.trod enc Try.prog W base spare held fuel 22 [.slice a len cap] = some x) : ∃ os : List Raw, os.length = len ∧ RawsIn W a os := by
  rcases Go.Deep.open_slice Try.underlying22 h with ⟨hcs, -⟩ | ⟨a', l, c, m, n, D, Pl, hcs, hb, hl, hm, hmm, -, hx⟩
  · simp at hcs
    obtain ⟨-, rfl, -⟩ := hcs
    exact ⟨[], rfl, fun h0 => by simp at h0⟩
  · simp at hcs
    obtain ⟨rfl, rfl, rfl⟩ := hcs
    have hlm : len ≤ m := by rw [hmm]; split <;> omega
    have ce : Try.prog.cellsOf 81 = 3 := by kernel_rfl
    have c3 : Try.prog.cellsOf 3 = 1 := by kernel_rfl
    have each : ∀ i, i < len → ∃ r : Raw, W.cell? (a'.add (i * 3)) = some (.int .i64 r.thread) ∧ W.cell? (a'.add (i * 3 + 1)) = some (.int .i64 r.kind) ∧ W.cell? (a'.add (i * 3 + 2)) = some (.int .i64 r.arg) ∧ InI64 r.thread ∧ InI64 r.kind ∧ InI64 r.arg := by
      intro i hi
      obtain ⟨cs', h1, h2⟩ := hx i (by omega)
      rw [ce] at h1
      obtain ⟨-, hlen, hcell⟩ := World.cells?_some h1
      obtain ⟨xs, k, hk, -, -, hxl, hf⟩ := DataW.trod_struct Try.underlying81 h2
      match xs, hxl, cs', hlen with
      | [y0, y1, y2], _, [v0, v1, v2], _ =>
        have g0 := hf 0 _ rfl
        have g1 := hf 1 _ rfl
        have g2 := hf 2 _ rfl
        simp [c3] at g0 g1 g2
        obtain ⟨z0, e0, -, q0⟩ := DataW.trod_int Try.underlying3 g0
        obtain ⟨z1, e1, -, q1⟩ := DataW.trod_int Try.underlying3 g1
        obtain ⟨z2, e2, -, q2⟩ := DataW.trod_int Try.underlying3 g2
        simp at e0 e1 e2
        have d0 := hcell 0 (by omega)
        have d1 := hcell 1 (by omega)
        have d2 := hcell 2 (by omega)
        rw [Go.Deep.add_add] at d0 d1 d2
        refine ⟨⟨z0, z1, z2⟩, ?_, ?_, ?_, wf_range64 q0, wf_range64 q1, wf_range64 q2⟩
        · simpa [e0] using d0
        · simpa [e1] using d1
        · simpa [e2] using d2
    have inh : Inhabited Raw := ⟨⟨0, 0, 0⟩⟩
    obtain ⟨f, hf⟩ := Go.Deep.choose_lt each
    refine ⟨(List.range len).map f, by simp, fun h0 => ?_⟩
    have h0' : 0 < len := by simpa using h0
    obtain ⟨b, off, spot⟩ := a'
    have hsp := World.cell?_spot (hf 0 h0').1
    have hspot : spot = none := by simpa [Addr.add] using hsp
    subst hspot
    refine ⟨b, off, rfl, World.block_lt_of_cell? W ⟨b, off, none⟩ (u := .int .i64 (f 0).thread) (by have := (hf 0 h0').1; simpa [add_at] using this), fun i r hr => ?_⟩
    have hi : i < len := by have := (List.getElem?_eq_some_iff.1 hr).1; simpa using this
    have hr' : f i = r := by simpa [hi] using hr
    subst hr'
    have := hf i hi
    simp only [add_at] at this
    simpa [Nat.add_assoc] using this

theorem nums_of {H : Type} {enc : TypeId × Value → H} {W : World} {base : Nat} {spare : Nat → Bool} {held : Bool} {fuel : Nat} {a : Option Addr} {len cap : Nat} {x : DataW H × List MemPlace}
    (h : DataW.trod enc Try.prog W base spare held fuel 23 [.slice a len cap] = some x) : ∃ rs : List Int, rs.length = len ∧ NumsIn W a rs := by
  rcases open_ints Try.underlying23 Try.underlying3 (by kernel_rfl) h with ⟨hcs, -⟩ | ⟨x', l, c, zs, hcs, -, hl, hm, hz, -, hcell, hwz⟩
  · simp at hcs
    obtain ⟨-, rfl, -⟩ := hcs
    exact ⟨[], rfl, fun h0 => by simp at h0⟩
  · simp at hcs
    obtain ⟨rfl, rfl, rfl⟩ := hcs
    have hlz : len ≤ zs.length := by rw [hz]; split <;> omega
    refine ⟨zs.take len, by simp; omega, fun h0 => ?_⟩
    have h0' : 0 < zs.length := by simp at h0; omega
    obtain ⟨b, off, spot⟩ := x'
    have hsp := World.cell?_spot (hcell 0 h0')
    have hspot : spot = none := by simpa [Addr.add] using hsp
    subst hspot
    have k0 := hcell 0 h0'
    rw [add_at] at k0
    refine ⟨b, off, rfl, World.block_lt_of_cell? W _ k0, fun i r hr => ?_⟩
    have hi : i < len ∧ i < zs.length := by have := (List.getElem?_eq_some_iff.1 hr).1; simp at this; omega
    have hr' : zs[i]? = some r := by rw [List.getElem?_take, if_pos hi.1] at hr; exact hr
    have := hcell i hi.2
    rw [add_at] at this
    have hg : zs.getD i 0 = r := by simp [List.getD, hr']
    rw [hg] at this
    exact ⟨this, wf_range64 (hwz r (List.mem_of_getElem? hr'))⟩

end Go.Proofs.Ytfdafcnfefbcbab
