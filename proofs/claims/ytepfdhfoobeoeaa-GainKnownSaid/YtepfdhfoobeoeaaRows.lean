/-
  No cell of these rows narrows 'for every input' (looked for: loops, veiled, ifaces, maps, wideKeys, modest, calm, conditions, laid).
  DERIVED. THE GIVEN ROWS OF THIS SEAT. 4 by the template 'for every input the law returns true; each argument reads behind the call as it read before'; 0 by the template 'total and deterministic' (their statements: YtepfdhfoobeoeaaTotals.lean).
  GIVEN WITH THE SEED: the statements are not yours to turn. If you find one false, say at which input.
  Laid BY PROGRAM, IN A SANDBOX (cutbox-rows.mjs): the forced cells as the released guide's own fill.sh prints them over the translation f992156e0c686562… (all of the seat's roots in one cut). By AI agents, Wed Nov 11 2026. No macro, syntax, notation, axiom, sorry.
-/
import Derived.Test.YtepfdhfoobeoeaaChecked
import GoSem.Claim
import GoSem.ClaimJoined
import GoSem.ClaimMapViews
import Derived.JoinedTies
import Derived.KernelRfl
namespace Go.Proofs.Ytepfdhfoobeoeaa
/- THE CELL 'sum', in the pinned program and in every row, IS THE sha256 OF THE DUMP (.gsa) THAT YtepfdhfoobeoeaaProg.lean LOADS. Nothing in Lean hashes anything: it is a label: what it is worth is what the hold of that sum in a sandbox is worth. -/
noncomputable def Try.pinned : Pinned := { name := "ytepfdhfoobeoeaa", sum := "f992156e0c68656274444ac3b5d2b54c6190817e7091ecc2b9509e0b47955ed5", checked := Try.checked }
namespace Rows
def none {H : Type} : Left H := { results := [], args := [] }

/-- 'concertinalaw1.GainFixes': WHATEVER THE INPUT: true; the input reads as it did. -/
def gainFixesSpec : ChangeSpec := { name := "gainFixes", fn := fun _ => fun
  | [d1, d2, d3] => { results := [.lit (.bool true)], args := [d1, d2, d3] }
  | _ => none }
def gainFixesRow : OpenClaim := { program := "ytepfdhfoobeoeaa", sum := "f992156e0c68656274444ac3b5d2b54c6190817e7091ecc2b9509e0b47955ed5", func := "concertina/concertinalaw1.GainFixes", spec := "gainFixes", inPlace := ["math.Float64frombits", "math.Float64bits"], apart := false }
def GainFixesSaid : Prop := gainFixesRow.holds Try.pinned (OpenSpec.ofChange gainFixesSpec)

/-- ITS FALSE NEIGHBOUR: 'it returns false'. Refute it at one input. -/
def gainFixesWrong : ChangeSpec := { name := "gainFixes", fn := fun _ => fun
  | [d1, d2, d3] => { results := [.lit (.bool false)], args := [d1, d2, d3] }
  | _ => none }
def GainFixesWrongFalsely : Prop := gainFixesRow.holds Try.pinned (OpenSpec.ofChange gainFixesWrong)

/-- 'concertinalaw1.GainOrder': WHATEVER THE INPUT: true; the input reads as it did. -/
def gainOrderSpec : ChangeSpec := { name := "gainOrder", fn := fun _ => fun
  | [d1, d2, d3] => { results := [.lit (.bool true)], args := [d1, d2, d3] }
  | _ => none }
def gainOrderRow : OpenClaim := { program := "ytepfdhfoobeoeaa", sum := "f992156e0c68656274444ac3b5d2b54c6190817e7091ecc2b9509e0b47955ed5", func := "concertina/concertinalaw1.GainOrder", spec := "gainOrder", inPlace := ["math.Float64frombits", "math.Float64bits"], apart := false }
def GainOrderSaid : Prop := gainOrderRow.holds Try.pinned (OpenSpec.ofChange gainOrderSpec)

/-- ITS FALSE NEIGHBOUR: 'it returns false'. Refute it at one input. -/
def gainOrderWrong : ChangeSpec := { name := "gainOrder", fn := fun _ => fun
  | [d1, d2, d3] => { results := [.lit (.bool false)], args := [d1, d2, d3] }
  | _ => none }
def GainOrderWrongFalsely : Prop := gainOrderRow.holds Try.pinned (OpenSpec.ofChange gainOrderWrong)

/-- 'concertinalaw1.GainKnown': WHATEVER THE INPUT: true; the input reads as it did. -/
def gainKnownSpec : ChangeSpec := { name := "gainKnown", fn := fun _ => fun
  | [] => { results := [.lit (.bool true)], args := [] }
  | _ => none }
def gainKnownRow : OpenClaim := { program := "ytepfdhfoobeoeaa", sum := "f992156e0c68656274444ac3b5d2b54c6190817e7091ecc2b9509e0b47955ed5", func := "concertina/concertinalaw1.GainKnown", spec := "gainKnown", inPlace := ["math.Float64frombits", "math.Float64bits"], apart := false }
def GainKnownSaid : Prop := gainKnownRow.holds Try.pinned (OpenSpec.ofChange gainKnownSpec)

/-- ITS FALSE NEIGHBOUR: 'it returns false'. Refute it at one input. -/
def gainKnownWrong : ChangeSpec := { name := "gainKnown", fn := fun _ => fun
  | [] => { results := [.lit (.bool false)], args := [] }
  | _ => none }
def GainKnownWrongFalsely : Prop := gainKnownRow.holds Try.pinned (OpenSpec.ofChange gainKnownWrong)

/-- 'concertinalaw1.GainRatio': WHATEVER THE INPUT: true; the input reads as it did. -/
def gainRatioSpec : ChangeSpec := { name := "gainRatio", fn := fun _ => fun
  | [d1, d2, d3] => { results := [.lit (.bool true)], args := [d1, d2, d3] }
  | _ => none }
def gainRatioRow : OpenClaim := { program := "ytepfdhfoobeoeaa", sum := "f992156e0c68656274444ac3b5d2b54c6190817e7091ecc2b9509e0b47955ed5", func := "concertina/concertinalaw1.GainRatio", spec := "gainRatio", inPlace := ["math.Float64frombits", "math.Float64bits"], apart := false }
def GainRatioSaid : Prop := gainRatioRow.holds Try.pinned (OpenSpec.ofChange gainRatioSpec)

/-- ITS FALSE NEIGHBOUR: 'it returns false'. Refute it at one input. -/
def gainRatioWrong : ChangeSpec := { name := "gainRatio", fn := fun _ => fun
  | [d1, d2, d3] => { results := [.lit (.bool false)], args := [d1, d2, d3] }
  | _ => none }
def GainRatioWrongFalsely : Prop := gainRatioRow.holds Try.pinned (OpenSpec.ofChange gainRatioWrong)

/- THE SECOND FORM. 'bulk': how many values and letters a reading holds, each counted each time it is reached (what is shared counts as often as it is met; a slice's spare places count too). A statement '..UptoSaid' is the law's where the arguments, and the package variables that the reading takes, are together of bulk at most 1048576: NARROWER than '..Said'. Prove '..Said' where nothing that the law and all that it calls make is longer than what came in: it says more and counts as full. Else prove '..UptoSaid'. A law counts once. -/
mutual
def uptoBulk {H : Type} : DataW H → Nat
  | .lit (.string bytes) => bytes.length + 1
  | .lit _ => 1
  | .nil => 1
  | .ptr d => uptoBulk d + 1
  | .slice elems spare => uptoBulkAll elems + uptoBulkAll spare + 1
  | .agg parts => uptoBulkAll parts + 1
  | .iface _ d => uptoBulk d + 1
  | .map entries => uptoBulkEntries entries + 1
  | .held _ => 1
def uptoBulkAll {H : Type} : List (DataW H) → Nat
  | [] => 0
  | d :: r => uptoBulk d + uptoBulkAll r
def uptoBulkEntries {H : Type} : List (Lit × DataW H) → Nat
  | [] => 0
  | x :: r => uptoBulkEntry x + uptoBulkEntries r
def uptoBulkEntry {H : Type} : Lit × DataW H → Nat
  | (.string bytes, d) => bytes.length + uptoBulk d + 1
  | (_, d) => uptoBulk d + 1
 end
def uptoSmall : (H : Type) → List (DataW H) → Bool := fun _ ds => decide (uptoBulkAll ds ≤ 1048576)
def OpenSpec.upto (s : _root_.Go.ChangeSpec) : _root_.Go.OpenSpec := { _root_.Go.OpenSpec.ofChange s with cond := some uptoSmall }

/-- 'concertinalaw1.GainFixes', WHERE WHAT IT READS IS OF BULK AT MOST 1048576: true; the input reads as it did. -/
def gainFixesUptoRow : OpenClaim := { program := "ytepfdhfoobeoeaa", sum := "f992156e0c68656274444ac3b5d2b54c6190817e7091ecc2b9509e0b47955ed5", func := "concertina/concertinalaw1.GainFixes", spec := "gainFixes", inPlace := ["math.Float64frombits", "math.Float64bits"], apart := false, narrowed := true }
def GainFixesUptoSaid : Prop := gainFixesUptoRow.holds Try.pinned (OpenSpec.upto gainFixesSpec)

/-- 'concertinalaw1.GainOrder', WHERE WHAT IT READS IS OF BULK AT MOST 1048576: true; the input reads as it did. -/
def gainOrderUptoRow : OpenClaim := { program := "ytepfdhfoobeoeaa", sum := "f992156e0c68656274444ac3b5d2b54c6190817e7091ecc2b9509e0b47955ed5", func := "concertina/concertinalaw1.GainOrder", spec := "gainOrder", inPlace := ["math.Float64frombits", "math.Float64bits"], apart := false, narrowed := true }
def GainOrderUptoSaid : Prop := gainOrderUptoRow.holds Try.pinned (OpenSpec.upto gainOrderSpec)

/-- 'concertinalaw1.GainKnown', WHERE WHAT IT READS IS OF BULK AT MOST 1048576: true; the input reads as it did. -/
def gainKnownUptoRow : OpenClaim := { program := "ytepfdhfoobeoeaa", sum := "f992156e0c68656274444ac3b5d2b54c6190817e7091ecc2b9509e0b47955ed5", func := "concertina/concertinalaw1.GainKnown", spec := "gainKnown", inPlace := ["math.Float64frombits", "math.Float64bits"], apart := false, narrowed := true }
def GainKnownUptoSaid : Prop := gainKnownUptoRow.holds Try.pinned (OpenSpec.upto gainKnownSpec)

/-- 'concertinalaw1.GainRatio', WHERE WHAT IT READS IS OF BULK AT MOST 1048576: true; the input reads as it did. -/
def gainRatioUptoRow : OpenClaim := { program := "ytepfdhfoobeoeaa", sum := "f992156e0c68656274444ac3b5d2b54c6190817e7091ecc2b9509e0b47955ed5", func := "concertina/concertinalaw1.GainRatio", spec := "gainRatio", inPlace := ["math.Float64frombits", "math.Float64bits"], apart := false, narrowed := true }
def GainRatioUptoSaid : Prop := gainRatioUptoRow.holds Try.pinned (OpenSpec.upto gainRatioSpec)

end Rows
end Go.Proofs.Ytepfdhfoobeoeaa
