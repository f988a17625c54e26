/-
  No cell of these rows narrows 'for every input' (looked for: loops, veiled, ifaces, maps, wideKeys, modest, calm, conditions, laid).
  DERIVED. THE GIVEN ROWS OF THIS SEAT. 6 by the template 'for every input the law returns true; each argument reads behind the call as it read before'; 0 by the template 'total and deterministic' (their statements: YtpicalkcgioimaaTotals.lean).
  GIVEN WITH THE SEED: the statements are not yours to turn. If you find one false, say at which input.
  Laid BY PROGRAM, IN A SANDBOX (cutbox-rows.mjs): the forced cells as the released guide's own fill.sh prints them over the translation b9b89f718ad9909c… (all of the seat's roots in one cut). By AI agents, Wed Nov 11 2026. No macro, syntax, notation, axiom, sorry.
-/
import Derived.Test.YtpicalkcgioimaaChecked
import GoSem.Claim
import GoSem.ClaimJoined
import GoSem.ClaimMapViews
import Derived.JoinedTies
import Derived.KernelRfl
namespace Go.Proofs.Ytpicalkcgioimaa
/- THE CELL 'sum', in the pinned program and in every row, IS THE sha256 OF THE DUMP (.gsa) THAT YtpicalkcgioimaaProg.lean LOADS. Nothing in Lean hashes anything: it is a label: what it is worth is what the hold of that sum in a sandbox is worth. -/
noncomputable def Try.pinned : Pinned := { name := "ytpicalkcgioimaa", sum := "b9b89f718ad9909c06f53301a187143099309d31b6d646e32848b03f8a7f2074", checked := Try.checked }
namespace Rows
def none {H : Type} : Left H := { results := [], args := [] }

/-- 'concertinalaw5.LeafMakes': WHATEVER THE INPUT: true; the input reads as it did. -/
def leafMakesSpec : ChangeSpec := { name := "leafMakes", fn := fun _ => fun
  | [d1, d2, d3] => { results := [.lit (.bool true)], args := [d1, d2, d3] }
  | _ => none }
def leafMakesRow : OpenClaim := { program := "ytpicalkcgioimaa", sum := "b9b89f718ad9909c06f53301a187143099309d31b6d646e32848b03f8a7f2074", func := "concertina/concertinalaw5.LeafMakes", spec := "leafMakes", apart := false }
def LeafMakesSaid : Prop := leafMakesRow.holds Try.pinned (OpenSpec.ofChange leafMakesSpec)

/-- ITS FALSE NEIGHBOUR: 'it returns false'. Refute it at one input. -/
def leafMakesWrong : ChangeSpec := { name := "leafMakes", fn := fun _ => fun
  | [d1, d2, d3] => { results := [.lit (.bool false)], args := [d1, d2, d3] }
  | _ => none }
def LeafMakesWrongFalsely : Prop := leafMakesRow.holds Try.pinned (OpenSpec.ofChange leafMakesWrong)

/-- 'concertinalaw5.LeafOpens': WHATEVER THE INPUT: true; the input reads as it did. -/
def leafOpensSpec : ChangeSpec := { name := "leafOpens", fn := fun _ => fun
  | [d1, d2] => { results := [.lit (.bool true)], args := [d1, d2] }
  | _ => none }
def leafOpensRow : OpenClaim := { program := "ytpicalkcgioimaa", sum := "b9b89f718ad9909c06f53301a187143099309d31b6d646e32848b03f8a7f2074", func := "concertina/concertinalaw5.LeafOpens", spec := "leafOpens", apart := false }
def LeafOpensSaid : Prop := leafOpensRow.holds Try.pinned (OpenSpec.ofChange leafOpensSpec)

/-- ITS FALSE NEIGHBOUR: 'it returns false'. Refute it at one input. -/
def leafOpensWrong : ChangeSpec := { name := "leafOpens", fn := fun _ => fun
  | [d1, d2] => { results := [.lit (.bool false)], args := [d1, d2] }
  | _ => none }
def LeafOpensWrongFalsely : Prop := leafOpensRow.holds Try.pinned (OpenSpec.ofChange leafOpensWrong)

/-- 'concertinalaw5.LeafTells': WHATEVER THE INPUT: true; the input reads as it did. -/
def leafTellsSpec : ChangeSpec := { name := "leafTells", fn := fun _ => fun
  | [d1, d2, d3] => { results := [.lit (.bool true)], args := [d1, d2, d3] }
  | _ => none }
def leafTellsRow : OpenClaim := { program := "ytpicalkcgioimaa", sum := "b9b89f718ad9909c06f53301a187143099309d31b6d646e32848b03f8a7f2074", func := "concertina/concertinalaw5.LeafTells", spec := "leafTells", apart := false }
def LeafTellsSaid : Prop := leafTellsRow.holds Try.pinned (OpenSpec.ofChange leafTellsSpec)

/-- ITS FALSE NEIGHBOUR: 'it returns false'. Refute it at one input. -/
def leafTellsWrong : ChangeSpec := { name := "leafTells", fn := fun _ => fun
  | [d1, d2, d3] => { results := [.lit (.bool false)], args := [d1, d2, d3] }
  | _ => none }
def LeafTellsWrongFalsely : Prop := leafTellsRow.holds Try.pinned (OpenSpec.ofChange leafTellsWrong)

/-- 'concertinalaw5.LeafSizes': WHATEVER THE INPUT: true; the input reads as it did. -/
def leafSizesSpec : ChangeSpec := { name := "leafSizes", fn := fun _ => fun
  | [d1, d2] => { results := [.lit (.bool true)], args := [d1, d2] }
  | _ => none }
def leafSizesRow : OpenClaim := { program := "ytpicalkcgioimaa", sum := "b9b89f718ad9909c06f53301a187143099309d31b6d646e32848b03f8a7f2074", func := "concertina/concertinalaw5.LeafSizes", spec := "leafSizes", apart := false }
def LeafSizesSaid : Prop := leafSizesRow.holds Try.pinned (OpenSpec.ofChange leafSizesSpec)

/-- ITS FALSE NEIGHBOUR: 'it returns false'. Refute it at one input. -/
def leafSizesWrong : ChangeSpec := { name := "leafSizes", fn := fun _ => fun
  | [d1, d2] => { results := [.lit (.bool false)], args := [d1, d2] }
  | _ => none }
def LeafSizesWrongFalsely : Prop := leafSizesRow.holds Try.pinned (OpenSpec.ofChange leafSizesWrong)

/-- 'concertinalaw5.LeafCuts': WHATEVER THE INPUT: true; the input reads as it did. -/
def leafCutsSpec : ChangeSpec := { name := "leafCuts", fn := fun _ => fun
  | [d1, d2, d3] => { results := [.lit (.bool true)], args := [d1, d2, d3] }
  | _ => none }
def leafCutsRow : OpenClaim := { program := "ytpicalkcgioimaa", sum := "b9b89f718ad9909c06f53301a187143099309d31b6d646e32848b03f8a7f2074", func := "concertina/concertinalaw5.LeafCuts", spec := "leafCuts", apart := false }
def LeafCutsSaid : Prop := leafCutsRow.holds Try.pinned (OpenSpec.ofChange leafCutsSpec)

/-- ITS FALSE NEIGHBOUR: 'it returns false'. Refute it at one input. -/
def leafCutsWrong : ChangeSpec := { name := "leafCuts", fn := fun _ => fun
  | [d1, d2, d3] => { results := [.lit (.bool false)], args := [d1, d2, d3] }
  | _ => none }
def LeafCutsWrongFalsely : Prop := leafCutsRow.holds Try.pinned (OpenSpec.ofChange leafCutsWrong)

/-- 'concertinalaw5.LeafKnown': WHATEVER THE INPUT: true; the input reads as it did. -/
def leafKnownSpec : ChangeSpec := { name := "leafKnown", fn := fun _ => fun
  | [] => { results := [.lit (.bool true)], args := [] }
  | _ => none }
def leafKnownRow : OpenClaim := { program := "ytpicalkcgioimaa", sum := "b9b89f718ad9909c06f53301a187143099309d31b6d646e32848b03f8a7f2074", func := "concertina/concertinalaw5.LeafKnown", spec := "leafKnown", apart := false }
def LeafKnownSaid : Prop := leafKnownRow.holds Try.pinned (OpenSpec.ofChange leafKnownSpec)

/-- ITS FALSE NEIGHBOUR: 'it returns false'. Refute it at one input. -/
def leafKnownWrong : ChangeSpec := { name := "leafKnown", fn := fun _ => fun
  | [] => { results := [.lit (.bool false)], args := [] }
  | _ => none }
def LeafKnownWrongFalsely : Prop := leafKnownRow.holds Try.pinned (OpenSpec.ofChange leafKnownWrong)

/- THE SECOND FORM. 'bulk': how many values and letters a reading holds, each counted each time it is reached (what is shared counts as often as it is met; a slice's spare places count too). A statement '..UptoSaid' is the law's where the arguments, and the package variables that the reading takes, are together of bulk at most 1048576: NARROWER than '..Said'. Prove '..Said' where nothing that the law and all that it calls make is longer than what came in: it says more and counts as full. Else prove '..UptoSaid'. A law counts once. -/
mutual
def uptoBulk {H : Type} : DataW H → Nat
  | .lit (.string bytes) => bytes.length + 1
  | .lit _ => 1
  | .nil => 1
  | .ptr d => uptoBulk d + 1
  | .slice elems spare => uptoBulkAll elems + uptoBulkAll spare + 1
  | .agg parts => uptoBulkAll parts + 1
  | .iface _ d => uptoBulk d + 1
  | .map entries => uptoBulkEntries entries + 1
  | .held _ => 1
def uptoBulkAll {H : Type} : List (DataW H) → Nat
  | [] => 0
  | d :: r => uptoBulk d + uptoBulkAll r
def uptoBulkEntries {H : Type} : List (Lit × DataW H) → Nat
  | [] => 0
  | x :: r => uptoBulkEntry x + uptoBulkEntries r
def uptoBulkEntry {H : Type} : Lit × DataW H → Nat
  | (.string bytes, d) => bytes.length + uptoBulk d + 1
  | (_, d) => uptoBulk d + 1
 end
def uptoSmall : (H : Type) → List (DataW H) → Bool := fun _ ds => decide (uptoBulkAll ds ≤ 1048576)
def OpenSpec.upto (s : _root_.Go.ChangeSpec) : _root_.Go.OpenSpec := { _root_.Go.OpenSpec.ofChange s with cond := some uptoSmall }

/-- 'concertinalaw5.LeafMakes', WHERE WHAT IT READS IS OF BULK AT MOST 1048576: true; the input reads as it did. -/
def leafMakesUptoRow : OpenClaim := { program := "ytpicalkcgioimaa", sum := "b9b89f718ad9909c06f53301a187143099309d31b6d646e32848b03f8a7f2074", func := "concertina/concertinalaw5.LeafMakes", spec := "leafMakes", apart := false, narrowed := true }
def LeafMakesUptoSaid : Prop := leafMakesUptoRow.holds Try.pinned (OpenSpec.upto leafMakesSpec)

/-- 'concertinalaw5.LeafOpens', WHERE WHAT IT READS IS OF BULK AT MOST 1048576: true; the input reads as it did. -/
def leafOpensUptoRow : OpenClaim := { program := "ytpicalkcgioimaa", sum := "b9b89f718ad9909c06f53301a187143099309d31b6d646e32848b03f8a7f2074", func := "concertina/concertinalaw5.LeafOpens", spec := "leafOpens", apart := false, narrowed := true }
def LeafOpensUptoSaid : Prop := leafOpensUptoRow.holds Try.pinned (OpenSpec.upto leafOpensSpec)

/-- 'concertinalaw5.LeafTells', WHERE WHAT IT READS IS OF BULK AT MOST 1048576: true; the input reads as it did. -/
def leafTellsUptoRow : OpenClaim := { program := "ytpicalkcgioimaa", sum := "b9b89f718ad9909c06f53301a187143099309d31b6d646e32848b03f8a7f2074", func := "concertina/concertinalaw5.LeafTells", spec := "leafTells", apart := false, narrowed := true }
def LeafTellsUptoSaid : Prop := leafTellsUptoRow.holds Try.pinned (OpenSpec.upto leafTellsSpec)

/-- 'concertinalaw5.LeafSizes', WHERE WHAT IT READS IS OF BULK AT MOST 1048576: true; the input reads as it did. -/
def leafSizesUptoRow : OpenClaim := { program := "ytpicalkcgioimaa", sum := "b9b89f718ad9909c06f53301a187143099309d31b6d646e32848b03f8a7f2074", func := "concertina/concertinalaw5.LeafSizes", spec := "leafSizes", apart := false, narrowed := true }
def LeafSizesUptoSaid : Prop := leafSizesUptoRow.holds Try.pinned (OpenSpec.upto leafSizesSpec)

/-- 'concertinalaw5.LeafCuts', WHERE WHAT IT READS IS OF BULK AT MOST 1048576: true; the input reads as it did. -/
def leafCutsUptoRow : OpenClaim := { program := "ytpicalkcgioimaa", sum := "b9b89f718ad9909c06f53301a187143099309d31b6d646e32848b03f8a7f2074", func := "concertina/concertinalaw5.LeafCuts", spec := "leafCuts", apart := false, narrowed := true }
def LeafCutsUptoSaid : Prop := leafCutsUptoRow.holds Try.pinned (OpenSpec.upto leafCutsSpec)

/-- 'concertinalaw5.LeafKnown', WHERE WHAT IT READS IS OF BULK AT MOST 1048576: true; the input reads as it did. -/
def leafKnownUptoRow : OpenClaim := { program := "ytpicalkcgioimaa", sum := "b9b89f718ad9909c06f53301a187143099309d31b6d646e32848b03f8a7f2074", func := "concertina/concertinalaw5.LeafKnown", spec := "leafKnown", apart := false, narrowed := true }
def LeafKnownUptoSaid : Prop := leafKnownUptoRow.holds Try.pinned (OpenSpec.upto leafKnownSpec)

end Rows
end Go.Proofs.Ytpicalkcgioimaa
