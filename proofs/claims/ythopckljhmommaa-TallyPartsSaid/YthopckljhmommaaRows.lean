/-
  No cell of these rows narrows 'for every input' (looked for: loops, veiled, ifaces, maps, wideKeys, modest, calm, conditions, laid).
  DERIVED. THE GIVEN ROWS OF THIS SEAT. 5 by the template 'for every input the law returns true; each argument reads behind the call as it read before'; 0 by the template 'total and deterministic' (their statements: YthopckljhmommaaTotals.lean).
  GIVEN WITH THE SEED: the statements are not yours to turn. If you find one false, say at which input.
  Laid BY PROGRAM, IN A SANDBOX (cutbox-rows.mjs): the forced cells as the released guide's own fill.sh prints them over the translation cf3ea05b76078508… (all of the seat's roots in one cut). By AI agents, Wed Nov 11 2026. No macro, syntax, notation, axiom, sorry.
-/
import Derived.Test.YthopckljhmommaaChecked
import GoSem.Claim
import GoSem.ClaimJoined
import GoSem.ClaimMapViews
import Derived.JoinedTies
import Derived.KernelRfl
namespace Go.Proofs.Ythopckljhmommaa
/- THE CELL 'sum', in the pinned program and in every row, IS THE sha256 OF THE DUMP (.gsa) THAT YthopckljhmommaaProg.lean LOADS. Nothing in Lean hashes anything: it is a label: what it is worth is what the hold of that sum in a sandbox is worth. -/
noncomputable def Try.pinned : Pinned := { name := "ythopckljhmommaa", sum := "cf3ea05b760785088a4c8831c711ef9dd7a0b362430fcbd96d3f1f91e761b993", checked := Try.checked }
namespace Rows
def none {H : Type} : Left H := { results := [], args := [] }

/-- 'concertinalaw3.TallySums': WHATEVER THE INPUT: true; the input reads as it did. -/
def tallySumsSpec : ChangeSpec := { name := "tallySums", fn := fun _ => fun
  | [d1, d2, d3] => { results := [.lit (.bool true)], args := [d1, d2, d3] }
  | _ => none }
def tallySumsRow : OpenClaim := { program := "ythopckljhmommaa", sum := "cf3ea05b760785088a4c8831c711ef9dd7a0b362430fcbd96d3f1f91e761b993", func := "concertina/concertinalaw3.TallySums", spec := "tallySums", apart := false }
def TallySumsSaid : Prop := tallySumsRow.holds Try.pinned (OpenSpec.ofChange tallySumsSpec)

/-- ITS FALSE NEIGHBOUR: 'it returns false'. Refute it at one input. -/
def tallySumsWrong : ChangeSpec := { name := "tallySums", fn := fun _ => fun
  | [d1, d2, d3] => { results := [.lit (.bool false)], args := [d1, d2, d3] }
  | _ => none }
def TallySumsWrongFalsely : Prop := tallySumsRow.holds Try.pinned (OpenSpec.ofChange tallySumsWrong)

/-- 'concertinalaw3.TallyTells': WHATEVER THE INPUT: true; the input reads as it did. -/
def tallyTellsSpec : ChangeSpec := { name := "tallyTells", fn := fun _ => fun
  | [d1, d2, d3] => { results := [.lit (.bool true)], args := [d1, d2, d3] }
  | _ => none }
def tallyTellsRow : OpenClaim := { program := "ythopckljhmommaa", sum := "cf3ea05b760785088a4c8831c711ef9dd7a0b362430fcbd96d3f1f91e761b993", func := "concertina/concertinalaw3.TallyTells", spec := "tallyTells", apart := false }
def TallyTellsSaid : Prop := tallyTellsRow.holds Try.pinned (OpenSpec.ofChange tallyTellsSpec)

/-- ITS FALSE NEIGHBOUR: 'it returns false'. Refute it at one input. -/
def tallyTellsWrong : ChangeSpec := { name := "tallyTells", fn := fun _ => fun
  | [d1, d2, d3] => { results := [.lit (.bool false)], args := [d1, d2, d3] }
  | _ => none }
def TallyTellsWrongFalsely : Prop := tallyTellsRow.holds Try.pinned (OpenSpec.ofChange tallyTellsWrong)

/-- 'concertinalaw3.TallyLinear': WHATEVER THE INPUT: true; the input reads as it did. -/
def tallyLinearSpec : ChangeSpec := { name := "tallyLinear", fn := fun _ => fun
  | [d1, d2] => { results := [.lit (.bool true)], args := [d1, d2] }
  | _ => none }
def tallyLinearRow : OpenClaim := { program := "ythopckljhmommaa", sum := "cf3ea05b760785088a4c8831c711ef9dd7a0b362430fcbd96d3f1f91e761b993", func := "concertina/concertinalaw3.TallyLinear", spec := "tallyLinear", apart := false }
def TallyLinearSaid : Prop := tallyLinearRow.holds Try.pinned (OpenSpec.ofChange tallyLinearSpec)

/-- ITS FALSE NEIGHBOUR: 'it returns false'. Refute it at one input. -/
def tallyLinearWrong : ChangeSpec := { name := "tallyLinear", fn := fun _ => fun
  | [d1, d2] => { results := [.lit (.bool false)], args := [d1, d2] }
  | _ => none }
def TallyLinearWrongFalsely : Prop := tallyLinearRow.holds Try.pinned (OpenSpec.ofChange tallyLinearWrong)

/-- 'concertinalaw3.TallyParts': WHATEVER THE INPUT: true; the input reads as it did. -/
def tallyPartsSpec : ChangeSpec := { name := "tallyParts", fn := fun _ => fun
  | [d] => { results := [.lit (.bool true)], args := [d] }
  | _ => none }
def tallyPartsRow : OpenClaim := { program := "ythopckljhmommaa", sum := "cf3ea05b760785088a4c8831c711ef9dd7a0b362430fcbd96d3f1f91e761b993", func := "concertina/concertinalaw3.TallyParts", spec := "tallyParts", apart := false }
def TallyPartsSaid : Prop := tallyPartsRow.holds Try.pinned (OpenSpec.ofChange tallyPartsSpec)

/-- ITS FALSE NEIGHBOUR: 'it returns false'. Refute it at one input. -/
def tallyPartsWrong : ChangeSpec := { name := "tallyParts", fn := fun _ => fun
  | [d] => { results := [.lit (.bool false)], args := [d] }
  | _ => none }
def TallyPartsWrongFalsely : Prop := tallyPartsRow.holds Try.pinned (OpenSpec.ofChange tallyPartsWrong)

/-- 'concertinalaw3.TallyNoughts': WHATEVER THE INPUT: true; the input reads as it did. -/
def tallyNoughtsSpec : ChangeSpec := { name := "tallyNoughts", fn := fun _ => fun
  | [d1, d2, d3] => { results := [.lit (.bool true)], args := [d1, d2, d3] }
  | _ => none }
def tallyNoughtsRow : OpenClaim := { program := "ythopckljhmommaa", sum := "cf3ea05b760785088a4c8831c711ef9dd7a0b362430fcbd96d3f1f91e761b993", func := "concertina/concertinalaw3.TallyNoughts", spec := "tallyNoughts", apart := false }
def TallyNoughtsSaid : Prop := tallyNoughtsRow.holds Try.pinned (OpenSpec.ofChange tallyNoughtsSpec)

/-- ITS FALSE NEIGHBOUR: 'it returns false'. Refute it at one input. -/
def tallyNoughtsWrong : ChangeSpec := { name := "tallyNoughts", fn := fun _ => fun
  | [d1, d2, d3] => { results := [.lit (.bool false)], args := [d1, d2, d3] }
  | _ => none }
def TallyNoughtsWrongFalsely : Prop := tallyNoughtsRow.holds Try.pinned (OpenSpec.ofChange tallyNoughtsWrong)

/- THE SECOND FORM. 'bulk': how many values and letters a reading holds, each counted each time it is reached (what is shared counts as often as it is met; a slice's spare places count too). A statement '..UptoSaid' is the law's where the arguments, and the package variables that the reading takes, are together of bulk at most 1048576: NARROWER than '..Said'. Prove '..Said' where nothing that the law and all that it calls make is longer than what came in: it says more and counts as full. Else prove '..UptoSaid'. A law counts once. -/
mutual
def uptoBulk {H : Type} : DataW H → Nat
  | .lit (.string bytes) => bytes.length + 1
  | .lit _ => 1
  | .nil => 1
  | .ptr d => uptoBulk d + 1
  | .slice elems spare => uptoBulkAll elems + uptoBulkAll spare + 1
  | .agg parts => uptoBulkAll parts + 1
  | .iface _ d => uptoBulk d + 1
  | .map entries => uptoBulkEntries entries + 1
  | .held _ => 1
def uptoBulkAll {H : Type} : List (DataW H) → Nat
  | [] => 0
  | d :: r => uptoBulk d + uptoBulkAll r
def uptoBulkEntries {H : Type} : List (Lit × DataW H) → Nat
  | [] => 0
  | x :: r => uptoBulkEntry x + uptoBulkEntries r
def uptoBulkEntry {H : Type} : Lit × DataW H → Nat
  | (.string bytes, d) => bytes.length + uptoBulk d + 1
  | (_, d) => uptoBulk d + 1
 end
def uptoSmall : (H : Type) → List (DataW H) → Bool := fun _ ds => decide (uptoBulkAll ds ≤ 1048576)
def OpenSpec.upto (s : _root_.Go.ChangeSpec) : _root_.Go.OpenSpec := { _root_.Go.OpenSpec.ofChange s with cond := some uptoSmall }

/-- 'concertinalaw3.TallySums', WHERE WHAT IT READS IS OF BULK AT MOST 1048576: true; the input reads as it did. -/
def tallySumsUptoRow : OpenClaim := { program := "ythopckljhmommaa", sum := "cf3ea05b760785088a4c8831c711ef9dd7a0b362430fcbd96d3f1f91e761b993", func := "concertina/concertinalaw3.TallySums", spec := "tallySums", apart := false, narrowed := true }
def TallySumsUptoSaid : Prop := tallySumsUptoRow.holds Try.pinned (OpenSpec.upto tallySumsSpec)

/-- 'concertinalaw3.TallyTells', WHERE WHAT IT READS IS OF BULK AT MOST 1048576: true; the input reads as it did. -/
def tallyTellsUptoRow : OpenClaim := { program := "ythopckljhmommaa", sum := "cf3ea05b760785088a4c8831c711ef9dd7a0b362430fcbd96d3f1f91e761b993", func := "concertina/concertinalaw3.TallyTells", spec := "tallyTells", apart := false, narrowed := true }
def TallyTellsUptoSaid : Prop := tallyTellsUptoRow.holds Try.pinned (OpenSpec.upto tallyTellsSpec)

/-- 'concertinalaw3.TallyLinear', WHERE WHAT IT READS IS OF BULK AT MOST 1048576: true; the input reads as it did. -/
def tallyLinearUptoRow : OpenClaim := { program := "ythopckljhmommaa", sum := "cf3ea05b760785088a4c8831c711ef9dd7a0b362430fcbd96d3f1f91e761b993", func := "concertina/concertinalaw3.TallyLinear", spec := "tallyLinear", apart := false, narrowed := true }
def TallyLinearUptoSaid : Prop := tallyLinearUptoRow.holds Try.pinned (OpenSpec.upto tallyLinearSpec)

/-- 'concertinalaw3.TallyParts', WHERE WHAT IT READS IS OF BULK AT MOST 1048576: true; the input reads as it did. -/
def tallyPartsUptoRow : OpenClaim := { program := "ythopckljhmommaa", sum := "cf3ea05b760785088a4c8831c711ef9dd7a0b362430fcbd96d3f1f91e761b993", func := "concertina/concertinalaw3.TallyParts", spec := "tallyParts", apart := false, narrowed := true }
def TallyPartsUptoSaid : Prop := tallyPartsUptoRow.holds Try.pinned (OpenSpec.upto tallyPartsSpec)

/-- 'concertinalaw3.TallyNoughts', WHERE WHAT IT READS IS OF BULK AT MOST 1048576: true; the input reads as it did. -/
def tallyNoughtsUptoRow : OpenClaim := { program := "ythopckljhmommaa", sum := "cf3ea05b760785088a4c8831c711ef9dd7a0b362430fcbd96d3f1f91e761b993", func := "concertina/concertinalaw3.TallyNoughts", spec := "tallyNoughts", apart := false, narrowed := true }
def TallyNoughtsUptoSaid : Prop := tallyNoughtsUptoRow.holds Try.pinned (OpenSpec.upto tallyNoughtsSpec)

end Rows
end Go.Proofs.Ythopckljhmommaa
