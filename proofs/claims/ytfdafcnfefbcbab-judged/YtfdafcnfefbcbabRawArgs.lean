/-
  How the arguments of the statements without the document's answer lie.
-/
import Derived.Test.YtfdafcnfefbcbabLine
namespace Go.Proofs.Ytfdafcnfefbcbab
open Go.RowKit
set_option linter.unusedVariables false

structure RawArgs (w : World) (a : Option Addr) (os : List Raw) (ra : Option Addr) (rs : List Int) : Prop where
  ops : RawsIn w a os
  nums : NumsIn w ra rs
  lenO : os.length ≤ 140737488351232
  lenR : rs.length ≤ 140737488351232

theorem RawsIn.below {w w' : World} {a : Option Addr} {os : List Raw} (h : RawsIn w a os) (hb : Below w.heap.size w w') : RawsIn w' a os := fun h0 => by
  obtain ⟨g, o, e, hg, hc⟩ := h h0
  refine ⟨g, o, e, Nat.lt_of_lt_of_le hg hb.size, fun i x hx => ?_⟩
  obtain ⟨a1, a2, a3, a4⟩ := hc i x hx
  exact ⟨(hb.cell (p := ⟨g, o + i * 3, none⟩) hg).trans a1, (hb.cell (p := ⟨g, o + i * 3 + 1, none⟩) hg).trans a2, (hb.cell (p := ⟨g, o + i * 3 + 2, none⟩) hg).trans a3, a4⟩

end Go.Proofs.Ytfdafcnfefbcbab
