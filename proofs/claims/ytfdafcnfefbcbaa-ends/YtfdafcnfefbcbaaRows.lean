/-
  No cell of these rows narrows 'for every input' (looked for: loops, veiled, ifaces, maps, wideKeys, modest, calm, conditions, laid).
  DERIVED. THE GIVEN ROWS OF THIS SEAT. 12 by the template 'for every input the law returns true; each argument reads behind the call as it read before'; 0 by the template 'total and deterministic' (their statements: YtfdafcnfefbcbaaTotals.lean).
  GIVEN WITH THE SEED: the statements are not yours to turn. If you find one false, say at which input.
  Laid BY PROGRAM, IN A SANDBOX (cutbox-rows.mjs): the forced cells as the released guide's own fill.sh prints them over the translation ed5180c9a6e654ea… (all of the seat's roots in one cut). By AI agents, Wed Nov 11 2026. No macro, syntax, notation, axiom, sorry.
-/
import Derived.Test.YtfdafcnfefbcbaaChecked
import GoSem.Claim
import GoSem.ClaimJoined
import GoSem.ClaimMapViews
import Derived.JoinedTies
import Derived.KernelRfl
namespace Go.Proofs.Ytfdafcnfefbcbaa
/- THE CELL 'sum', in the pinned program and in every row, IS THE sha256 OF THE DUMP (.gsa) THAT YtfdafcnfefbcbaaProg.lean LOADS. Nothing in Lean hashes anything: it is a label: what it is worth is what the hold of that sum in a sandbox is worth. -/
noncomputable def Try.pinned : Pinned := { name := "ytfdafcnfefbcbaa", sum := "ed5180c9a6e654eafb1a2d84db8be4cc8d17fd15a66569e8e6a36b96f5fa3eb1", checked := Try.checked }
namespace Rows
def none {H : Type} : Left H := { results := [], args := [] }

/-- 'interleavelaw.News': WHATEVER THE INPUT: true; the input reads as it did. -/
def newsSpec : ChangeSpec := { name := "news", fn := fun _ => fun
  | [d] => { results := [.lit (.bool true)], args := [d] }
  | _ => none }
def newsRow : OpenClaim := { program := "ytfdafcnfefbcbaa", sum := "ed5180c9a6e654eafb1a2d84db8be4cc8d17fd15a66569e8e6a36b96f5fa3eb1", func := "interleave/interleavelaw.News", spec := "news", apart := false }
def NewsSaid : Prop := newsRow.holds Try.pinned (OpenSpec.ofChange newsSpec)

/-- ITS FALSE NEIGHBOUR: 'it returns false'. Refute it at one input. -/
def newsWrong : ChangeSpec := { name := "news", fn := fun _ => fun
  | [d] => { results := [.lit (.bool false)], args := [d] }
  | _ => none }
def NewsWrongFalsely : Prop := newsRow.holds Try.pinned (OpenSpec.ofChange newsWrong)

/-- 'interleavekeep.Spelled': WHATEVER THE INPUT: true; the input reads as it did. -/
def spelledSpec : ChangeSpec := { name := "spelled", fn := fun _ => fun
  | [d1, d2, d3] => { results := [.lit (.bool true)], args := [d1, d2, d3] }
  | _ => none }
def spelledRow : OpenClaim := { program := "ytfdafcnfefbcbaa", sum := "ed5180c9a6e654eafb1a2d84db8be4cc8d17fd15a66569e8e6a36b96f5fa3eb1", func := "interleave/interleavekeep.Spelled", spec := "spelled", apart := false }
def SpelledSaid : Prop := spelledRow.holds Try.pinned (OpenSpec.ofChange spelledSpec)

/-- ITS FALSE NEIGHBOUR: 'it returns false'. Refute it at one input. -/
def spelledWrong : ChangeSpec := { name := "spelled", fn := fun _ => fun
  | [d1, d2, d3] => { results := [.lit (.bool false)], args := [d1, d2, d3] }
  | _ => none }
def SpelledWrongFalsely : Prop := spelledRow.holds Try.pinned (OpenSpec.ofChange spelledWrong)

/-- 'interleavelaw.Plays': WHATEVER THE INPUT: true; the input reads as it did. -/
def playsSpec : ChangeSpec := { name := "plays", fn := fun _ => fun
  | [d1, d2] => { results := [.lit (.bool true)], args := [d1, d2] }
  | _ => none }
def playsRow : OpenClaim := { program := "ytfdafcnfefbcbaa", sum := "ed5180c9a6e654eafb1a2d84db8be4cc8d17fd15a66569e8e6a36b96f5fa3eb1", func := "interleave/interleavelaw.Plays", spec := "plays", apart := false }
def PlaysSaid : Prop := playsRow.holds Try.pinned (OpenSpec.ofChange playsSpec)

/-- ITS FALSE NEIGHBOUR: 'it returns false'. Refute it at one input. -/
def playsWrong : ChangeSpec := { name := "plays", fn := fun _ => fun
  | [d1, d2] => { results := [.lit (.bool false)], args := [d1, d2] }
  | _ => none }
def PlaysWrongFalsely : Prop := playsRow.holds Try.pinned (OpenSpec.ofChange playsWrong)

/-- 'interleavekeep.Readied': WHATEVER THE INPUT: true; the input reads as it did. -/
def readiedSpec : ChangeSpec := { name := "readied", fn := fun _ => fun
  | [d1, d2, d3] => { results := [.lit (.bool true)], args := [d1, d2, d3] }
  | _ => none }
def readiedRow : OpenClaim := { program := "ytfdafcnfefbcbaa", sum := "ed5180c9a6e654eafb1a2d84db8be4cc8d17fd15a66569e8e6a36b96f5fa3eb1", func := "interleave/interleavekeep.Readied", spec := "readied", apart := false }
def ReadiedSaid : Prop := readiedRow.holds Try.pinned (OpenSpec.ofChange readiedSpec)

/-- ITS FALSE NEIGHBOUR: 'it returns false'. Refute it at one input. -/
def readiedWrong : ChangeSpec := { name := "readied", fn := fun _ => fun
  | [d1, d2, d3] => { results := [.lit (.bool false)], args := [d1, d2, d3] }
  | _ => none }
def ReadiedWrongFalsely : Prop := readiedRow.holds Try.pinned (OpenSpec.ofChange readiedWrong)

/-- 'interleavekeep.Counted': WHATEVER THE INPUT: true; the input reads as it did. -/
def countedSpec : ChangeSpec := { name := "counted", fn := fun _ => fun
  | [d] => { results := [.lit (.bool true)], args := [d] }
  | _ => none }
def countedRow : OpenClaim := { program := "ytfdafcnfefbcbaa", sum := "ed5180c9a6e654eafb1a2d84db8be4cc8d17fd15a66569e8e6a36b96f5fa3eb1", func := "interleave/interleavekeep.Counted", spec := "counted", apart := false }
def CountedSaid : Prop := countedRow.holds Try.pinned (OpenSpec.ofChange countedSpec)

/-- ITS FALSE NEIGHBOUR: 'it returns false'. Refute it at one input. -/
def countedWrong : ChangeSpec := { name := "counted", fn := fun _ => fun
  | [d] => { results := [.lit (.bool false)], args := [d] }
  | _ => none }
def CountedWrongFalsely : Prop := countedRow.holds Try.pinned (OpenSpec.ofChange countedWrong)

/-- 'interleavekeep.Traced': WHATEVER THE INPUT: true; the input reads as it did. -/
def tracedSpec : ChangeSpec := { name := "traced", fn := fun _ => fun
  | [d1, d2] => { results := [.lit (.bool true)], args := [d1, d2] }
  | _ => none }
def tracedRow : OpenClaim := { program := "ytfdafcnfefbcbaa", sum := "ed5180c9a6e654eafb1a2d84db8be4cc8d17fd15a66569e8e6a36b96f5fa3eb1", func := "interleave/interleavekeep.Traced", spec := "traced", apart := false }
def TracedSaid : Prop := tracedRow.holds Try.pinned (OpenSpec.ofChange tracedSpec)

/-- ITS FALSE NEIGHBOUR: 'it returns false'. Refute it at one input. -/
def tracedWrong : ChangeSpec := { name := "traced", fn := fun _ => fun
  | [d1, d2] => { results := [.lit (.bool false)], args := [d1, d2] }
  | _ => none }
def TracedWrongFalsely : Prop := tracedRow.holds Try.pinned (OpenSpec.ofChange tracedWrong)

/-- 'interleavelaw.Orders': WHATEVER THE INPUT: true; the input reads as it did. -/
def ordersSpec : ChangeSpec := { name := "orders", fn := fun _ => fun
  | [d1, d2] => { results := [.lit (.bool true)], args := [d1, d2] }
  | _ => none }
def ordersRow : OpenClaim := { program := "ytfdafcnfefbcbaa", sum := "ed5180c9a6e654eafb1a2d84db8be4cc8d17fd15a66569e8e6a36b96f5fa3eb1", func := "interleave/interleavelaw.Orders", spec := "orders", apart := false }
def OrdersSaid : Prop := ordersRow.holds Try.pinned (OpenSpec.ofChange ordersSpec)

/-- ITS FALSE NEIGHBOUR: 'it returns false'. Refute it at one input. -/
def ordersWrong : ChangeSpec := { name := "orders", fn := fun _ => fun
  | [d1, d2] => { results := [.lit (.bool false)], args := [d1, d2] }
  | _ => none }
def OrdersWrongFalsely : Prop := ordersRow.holds Try.pinned (OpenSpec.ofChange ordersWrong)

/-- 'interleavekeep.Swapped': WHATEVER THE INPUT: true; the input reads as it did. -/
def swappedSpec : ChangeSpec := { name := "swapped", fn := fun _ => fun
  | [d1, d2, d3] => { results := [.lit (.bool true)], args := [d1, d2, d3] }
  | _ => none }
def swappedRow : OpenClaim := { program := "ytfdafcnfefbcbaa", sum := "ed5180c9a6e654eafb1a2d84db8be4cc8d17fd15a66569e8e6a36b96f5fa3eb1", func := "interleave/interleavekeep.Swapped", spec := "swapped", apart := false }
def SwappedSaid : Prop := swappedRow.holds Try.pinned (OpenSpec.ofChange swappedSpec)

/-- ITS FALSE NEIGHBOUR: 'it returns false'. Refute it at one input. -/
def swappedWrong : ChangeSpec := { name := "swapped", fn := fun _ => fun
  | [d1, d2, d3] => { results := [.lit (.bool false)], args := [d1, d2, d3] }
  | _ => none }
def SwappedWrongFalsely : Prop := swappedRow.holds Try.pinned (OpenSpec.ofChange swappedWrong)

/-- 'interleavekeep.Arranged': WHATEVER THE INPUT: true; the input reads as it did. -/
def arrangedSpec : ChangeSpec := { name := "arranged", fn := fun _ => fun
  | [d1, d2, d3] => { results := [.lit (.bool true)], args := [d1, d2, d3] }
  | _ => none }
def arrangedRow : OpenClaim := { program := "ytfdafcnfefbcbaa", sum := "ed5180c9a6e654eafb1a2d84db8be4cc8d17fd15a66569e8e6a36b96f5fa3eb1", func := "interleave/interleavekeep.Arranged", spec := "arranged", apart := false }
def ArrangedSaid : Prop := arrangedRow.holds Try.pinned (OpenSpec.ofChange arrangedSpec)

/-- ITS FALSE NEIGHBOUR: 'it returns false'. Refute it at one input. -/
def arrangedWrong : ChangeSpec := { name := "arranged", fn := fun _ => fun
  | [d1, d2, d3] => { results := [.lit (.bool false)], args := [d1, d2, d3] }
  | _ => none }
def ArrangedWrongFalsely : Prop := arrangedRow.holds Try.pinned (OpenSpec.ofChange arrangedWrong)

/-- 'interleavekeep.Serial': WHATEVER THE INPUT: true; the input reads as it did. -/
def serialSpec : ChangeSpec := { name := "serial", fn := fun _ => fun
  | [d1, d2] => { results := [.lit (.bool true)], args := [d1, d2] }
  | _ => none }
def serialRow : OpenClaim := { program := "ytfdafcnfefbcbaa", sum := "ed5180c9a6e654eafb1a2d84db8be4cc8d17fd15a66569e8e6a36b96f5fa3eb1", func := "interleave/interleavekeep.Serial", spec := "serial", apart := false }
def SerialSaid : Prop := serialRow.holds Try.pinned (OpenSpec.ofChange serialSpec)

/-- ITS FALSE NEIGHBOUR: 'it returns false'. Refute it at one input. -/
def serialWrong : ChangeSpec := { name := "serial", fn := fun _ => fun
  | [d1, d2] => { results := [.lit (.bool false)], args := [d1, d2] }
  | _ => none }
def SerialWrongFalsely : Prop := serialRow.holds Try.pinned (OpenSpec.ofChange serialWrong)

/-- 'interleavelaw.Checks': WHATEVER THE INPUT: true; the input reads as it did. -/
def checksSpec : ChangeSpec := { name := "checks", fn := fun _ => fun
  | [d] => { results := [.lit (.bool true)], args := [d] }
  | _ => none }
def checksRow : OpenClaim := { program := "ytfdafcnfefbcbaa", sum := "ed5180c9a6e654eafb1a2d84db8be4cc8d17fd15a66569e8e6a36b96f5fa3eb1", func := "interleave/interleavelaw.Checks", spec := "checks", recurses := true, apart := false }
def ChecksSaid : Prop := checksRow.holds Try.pinned (OpenSpec.ofChange checksSpec)

/-- ITS FALSE NEIGHBOUR: 'it returns false'. Refute it at one input. -/
def checksWrong : ChangeSpec := { name := "checks", fn := fun _ => fun
  | [d] => { results := [.lit (.bool false)], args := [d] }
  | _ => none }
def ChecksWrongFalsely : Prop := checksRow.holds Try.pinned (OpenSpec.ofChange checksWrong)

/-- 'interleavelaw.Ends': WHATEVER THE INPUT: true; the input reads as it did. -/
def endsSpec : ChangeSpec := { name := "ends", fn := fun _ => fun
  | [d] => { results := [.lit (.bool true)], args := [d] }
  | _ => none }
def endsRow : OpenClaim := { program := "ytfdafcnfefbcbaa", sum := "ed5180c9a6e654eafb1a2d84db8be4cc8d17fd15a66569e8e6a36b96f5fa3eb1", func := "interleave/interleavelaw.Ends", spec := "ends", recurses := true, apart := false }
def EndsSaid : Prop := endsRow.holds Try.pinned (OpenSpec.ofChange endsSpec)

/-- ITS FALSE NEIGHBOUR: 'it returns false'. Refute it at one input. -/
def endsWrong : ChangeSpec := { name := "ends", fn := fun _ => fun
  | [d] => { results := [.lit (.bool false)], args := [d] }
  | _ => none }
def EndsWrongFalsely : Prop := endsRow.holds Try.pinned (OpenSpec.ofChange endsWrong)

/- THE SECOND FORM. 'bulk': how many values and letters a reading holds, each counted each time it is reached (what is shared counts as often as it is met; a slice's spare places count too). A statement '..UptoSaid' is the law's where the arguments, and the package variables that the reading takes, are together of bulk at most 1048576: NARROWER than '..Said'. Prove '..Said' where nothing that the law and all that it calls make is longer than what came in: it says more and counts as full. Else prove '..UptoSaid'. A law counts once. -/
mutual
def uptoBulk {H : Type} : DataW H → Nat
  | .lit (.string bytes) => bytes.length + 1
  | .lit _ => 1
  | .nil => 1
  | .ptr d => uptoBulk d + 1
  | .slice elems spare => uptoBulkAll elems + uptoBulkAll spare + 1
  | .agg parts => uptoBulkAll parts + 1
  | .iface _ d => uptoBulk d + 1
  | .map entries => uptoBulkEntries entries + 1
  | .held _ => 1
def uptoBulkAll {H : Type} : List (DataW H) → Nat
  | [] => 0
  | d :: r => uptoBulk d + uptoBulkAll r
def uptoBulkEntries {H : Type} : List (Lit × DataW H) → Nat
  | [] => 0
  | x :: r => uptoBulkEntry x + uptoBulkEntries r
def uptoBulkEntry {H : Type} : Lit × DataW H → Nat
  | (.string bytes, d) => bytes.length + uptoBulk d + 1
  | (_, d) => uptoBulk d + 1
 end
def uptoSmall : (H : Type) → List (DataW H) → Bool := fun _ ds => decide (uptoBulkAll ds ≤ 1048576)
def OpenSpec.upto (s : _root_.Go.ChangeSpec) : _root_.Go.OpenSpec := { _root_.Go.OpenSpec.ofChange s with cond := some uptoSmall }

/-- 'interleavelaw.News', WHERE WHAT IT READS IS OF BULK AT MOST 1048576: true; the input reads as it did. -/
def newsUptoRow : OpenClaim := { program := "ytfdafcnfefbcbaa", sum := "ed5180c9a6e654eafb1a2d84db8be4cc8d17fd15a66569e8e6a36b96f5fa3eb1", func := "interleave/interleavelaw.News", spec := "news", apart := false, narrowed := true }
def NewsUptoSaid : Prop := newsUptoRow.holds Try.pinned (OpenSpec.upto newsSpec)

/-- 'interleavekeep.Spelled', WHERE WHAT IT READS IS OF BULK AT MOST 1048576: true; the input reads as it did. -/
def spelledUptoRow : OpenClaim := { program := "ytfdafcnfefbcbaa", sum := "ed5180c9a6e654eafb1a2d84db8be4cc8d17fd15a66569e8e6a36b96f5fa3eb1", func := "interleave/interleavekeep.Spelled", spec := "spelled", apart := false, narrowed := true }
def SpelledUptoSaid : Prop := spelledUptoRow.holds Try.pinned (OpenSpec.upto spelledSpec)

/-- 'interleavelaw.Plays', WHERE WHAT IT READS IS OF BULK AT MOST 1048576: true; the input reads as it did. -/
def playsUptoRow : OpenClaim := { program := "ytfdafcnfefbcbaa", sum := "ed5180c9a6e654eafb1a2d84db8be4cc8d17fd15a66569e8e6a36b96f5fa3eb1", func := "interleave/interleavelaw.Plays", spec := "plays", apart := false, narrowed := true }
def PlaysUptoSaid : Prop := playsUptoRow.holds Try.pinned (OpenSpec.upto playsSpec)

/-- 'interleavekeep.Readied', WHERE WHAT IT READS IS OF BULK AT MOST 1048576: true; the input reads as it did. -/
def readiedUptoRow : OpenClaim := { program := "ytfdafcnfefbcbaa", sum := "ed5180c9a6e654eafb1a2d84db8be4cc8d17fd15a66569e8e6a36b96f5fa3eb1", func := "interleave/interleavekeep.Readied", spec := "readied", apart := false, narrowed := true }
def ReadiedUptoSaid : Prop := readiedUptoRow.holds Try.pinned (OpenSpec.upto readiedSpec)

/-- 'interleavekeep.Counted', WHERE WHAT IT READS IS OF BULK AT MOST 1048576: true; the input reads as it did. -/
def countedUptoRow : OpenClaim := { program := "ytfdafcnfefbcbaa", sum := "ed5180c9a6e654eafb1a2d84db8be4cc8d17fd15a66569e8e6a36b96f5fa3eb1", func := "interleave/interleavekeep.Counted", spec := "counted", apart := false, narrowed := true }
def CountedUptoSaid : Prop := countedUptoRow.holds Try.pinned (OpenSpec.upto countedSpec)

/-- 'interleavekeep.Traced', WHERE WHAT IT READS IS OF BULK AT MOST 1048576: true; the input reads as it did. -/
def tracedUptoRow : OpenClaim := { program := "ytfdafcnfefbcbaa", sum := "ed5180c9a6e654eafb1a2d84db8be4cc8d17fd15a66569e8e6a36b96f5fa3eb1", func := "interleave/interleavekeep.Traced", spec := "traced", apart := false, narrowed := true }
def TracedUptoSaid : Prop := tracedUptoRow.holds Try.pinned (OpenSpec.upto tracedSpec)

/-- 'interleavelaw.Orders', WHERE WHAT IT READS IS OF BULK AT MOST 1048576: true; the input reads as it did. -/
def ordersUptoRow : OpenClaim := { program := "ytfdafcnfefbcbaa", sum := "ed5180c9a6e654eafb1a2d84db8be4cc8d17fd15a66569e8e6a36b96f5fa3eb1", func := "interleave/interleavelaw.Orders", spec := "orders", apart := false, narrowed := true }
def OrdersUptoSaid : Prop := ordersUptoRow.holds Try.pinned (OpenSpec.upto ordersSpec)

/-- 'interleavekeep.Swapped', WHERE WHAT IT READS IS OF BULK AT MOST 1048576: true; the input reads as it did. -/
def swappedUptoRow : OpenClaim := { program := "ytfdafcnfefbcbaa", sum := "ed5180c9a6e654eafb1a2d84db8be4cc8d17fd15a66569e8e6a36b96f5fa3eb1", func := "interleave/interleavekeep.Swapped", spec := "swapped", apart := false, narrowed := true }
def SwappedUptoSaid : Prop := swappedUptoRow.holds Try.pinned (OpenSpec.upto swappedSpec)

/-- 'interleavekeep.Arranged', WHERE WHAT IT READS IS OF BULK AT MOST 1048576: true; the input reads as it did. -/
def arrangedUptoRow : OpenClaim := { program := "ytfdafcnfefbcbaa", sum := "ed5180c9a6e654eafb1a2d84db8be4cc8d17fd15a66569e8e6a36b96f5fa3eb1", func := "interleave/interleavekeep.Arranged", spec := "arranged", apart := false, narrowed := true }
def ArrangedUptoSaid : Prop := arrangedUptoRow.holds Try.pinned (OpenSpec.upto arrangedSpec)

/-- 'interleavekeep.Serial', WHERE WHAT IT READS IS OF BULK AT MOST 1048576: true; the input reads as it did. -/
def serialUptoRow : OpenClaim := { program := "ytfdafcnfefbcbaa", sum := "ed5180c9a6e654eafb1a2d84db8be4cc8d17fd15a66569e8e6a36b96f5fa3eb1", func := "interleave/interleavekeep.Serial", spec := "serial", apart := false, narrowed := true }
def SerialUptoSaid : Prop := serialUptoRow.holds Try.pinned (OpenSpec.upto serialSpec)

/-- 'interleavelaw.Checks', WHERE WHAT IT READS IS OF BULK AT MOST 1048576: true; the input reads as it did. -/
def checksUptoRow : OpenClaim := { program := "ytfdafcnfefbcbaa", sum := "ed5180c9a6e654eafb1a2d84db8be4cc8d17fd15a66569e8e6a36b96f5fa3eb1", func := "interleave/interleavelaw.Checks", spec := "checks", recurses := true, apart := false, narrowed := true }
def ChecksUptoSaid : Prop := checksUptoRow.holds Try.pinned (OpenSpec.upto checksSpec)

/-- 'interleavelaw.Ends', WHERE WHAT IT READS IS OF BULK AT MOST 1048576: true; the input reads as it did. -/
def endsUptoRow : OpenClaim := { program := "ytfdafcnfefbcbaa", sum := "ed5180c9a6e654eafb1a2d84db8be4cc8d17fd15a66569e8e6a36b96f5fa3eb1", func := "interleave/interleavelaw.Ends", spec := "ends", recurses := true, apart := false, narrowed := true }
def EndsUptoSaid : Prop := endsUptoRow.holds Try.pinned (OpenSpec.upto endsSpec)

end Rows
end Go.Proofs.Ytfdafcnfefbcbaa
