/-
  No cell of these rows narrows 'for every input' (looked for: loops, veiled, ifaces, maps, wideKeys, modest, calm, conditions, laid).
  DERIVED. THE GIVEN ROWS OF THIS SEAT. 5 by the template 'for every input the law returns true; each argument reads behind the call as it read before'; 0 by the template 'total and deterministic' (their statements: YthcppebfhjleiaaTotals.lean).
  GIVEN WITH THE SEED: the statements are not yours to turn. If you find one false, say at which input.
  Laid BY PROGRAM, IN A SANDBOX (cutbox-rows.mjs): the forced cells as the released guide's own fill.sh prints them over the translation dccf7f85ea41465d… (all of the seat's roots in one cut). By AI agents, Wed Nov 11 2026. No macro, syntax, notation, axiom, sorry.
-/
import Derived.Test.YthcppebfhjleiaaChecked
import GoSem.Claim
import GoSem.ClaimJoined
import GoSem.ClaimMapViews
import Derived.JoinedTies
import Derived.KernelRfl
namespace Go.Proofs.Ythcppebfhjleiaa
/- THE CELL 'sum', in the pinned program and in every row, IS THE sha256 OF THE DUMP (.gsa) THAT YthcppebfhjleiaaProg.lean LOADS. Nothing in Lean hashes anything: it is a label: what it is worth is what the hold of that sum in a sandbox is worth. -/
noncomputable def Try.pinned : Pinned := { name := "ythcppebfhjleiaa", sum := "dccf7f85ea41465da32117f8557f91d24e7f5faad3161fd10bc0d11c9f3c50bf", checked := Try.checked }
namespace Rows
def none {H : Type} : Left H := { results := [], args := [] }

/-- 'concertinalaw7.DepthLengths': WHATEVER THE INPUT: true; the input reads as it did. -/
def depthLengthsSpec : ChangeSpec := { name := "depthLengths", fn := fun _ => fun
  | [d] => { results := [.lit (.bool true)], args := [d] }
  | _ => none }
def depthLengthsRow : OpenClaim := { program := "ythcppebfhjleiaa", sum := "dccf7f85ea41465da32117f8557f91d24e7f5faad3161fd10bc0d11c9f3c50bf", func := "concertina/concertinalaw7.DepthLengths", spec := "depthLengths", unfollowed := true, recurses := true, apart := false }
def DepthLengthsSaid : Prop := depthLengthsRow.holds Try.pinned (OpenSpec.ofChange depthLengthsSpec)

/-- ITS FALSE NEIGHBOUR: 'it returns false'. Refute it at one input. -/
def depthLengthsWrong : ChangeSpec := { name := "depthLengths", fn := fun _ => fun
  | [d] => { results := [.lit (.bool false)], args := [d] }
  | _ => none }
def DepthLengthsWrongFalsely : Prop := depthLengthsRow.holds Try.pinned (OpenSpec.ofChange depthLengthsWrong)

/-- 'concertinalaw7.DepthCosts': WHATEVER THE INPUT: true; the input reads as it did. -/
def depthCostsSpec : ChangeSpec := { name := "depthCosts", fn := fun _ => fun
  | [d1, d2, d3] => { results := [.lit (.bool true)], args := [d1, d2, d3] }
  | _ => none }
def depthCostsRow : OpenClaim := { program := "ythcppebfhjleiaa", sum := "dccf7f85ea41465da32117f8557f91d24e7f5faad3161fd10bc0d11c9f3c50bf", func := "concertina/concertinalaw7.DepthCosts", spec := "depthCosts", unfollowed := true, recurses := true, apart := false }
def DepthCostsSaid : Prop := depthCostsRow.holds Try.pinned (OpenSpec.ofChange depthCostsSpec)

/-- ITS FALSE NEIGHBOUR: 'it returns false'. Refute it at one input. -/
def depthCostsWrong : ChangeSpec := { name := "depthCosts", fn := fun _ => fun
  | [d1, d2, d3] => { results := [.lit (.bool false)], args := [d1, d2, d3] }
  | _ => none }
def DepthCostsWrongFalsely : Prop := depthCostsRow.holds Try.pinned (OpenSpec.ofChange depthCostsWrong)

/-- 'concertinalaw7.DepthTold': WHATEVER THE INPUT: true; the input reads as it did. -/
def depthToldSpec : ChangeSpec := { name := "depthTold", fn := fun _ => fun
  | [d1, d2, d3] => { results := [.lit (.bool true)], args := [d1, d2, d3] }
  | _ => none }
def depthToldRow : OpenClaim := { program := "ythcppebfhjleiaa", sum := "dccf7f85ea41465da32117f8557f91d24e7f5faad3161fd10bc0d11c9f3c50bf", func := "concertina/concertinalaw7.DepthTold", spec := "depthTold", unfollowed := true, recurses := true, apart := false }
def DepthToldSaid : Prop := depthToldRow.holds Try.pinned (OpenSpec.ofChange depthToldSpec)

/-- ITS FALSE NEIGHBOUR: 'it returns false'. Refute it at one input. -/
def depthToldWrong : ChangeSpec := { name := "depthTold", fn := fun _ => fun
  | [d1, d2, d3] => { results := [.lit (.bool false)], args := [d1, d2, d3] }
  | _ => none }
def DepthToldWrongFalsely : Prop := depthToldRow.holds Try.pinned (OpenSpec.ofChange depthToldWrong)

/-- 'concertinalaw7.DepthSame': WHATEVER THE INPUT: true; the input reads as it did. -/
def depthSameSpec : ChangeSpec := { name := "depthSame", fn := fun _ => fun
  | [d1, d2] => { results := [.lit (.bool true)], args := [d1, d2] }
  | _ => none }
def depthSameRow : OpenClaim := { program := "ythcppebfhjleiaa", sum := "dccf7f85ea41465da32117f8557f91d24e7f5faad3161fd10bc0d11c9f3c50bf", func := "concertina/concertinalaw7.DepthSame", spec := "depthSame", unfollowed := true, recurses := true, apart := false }
def DepthSameSaid : Prop := depthSameRow.holds Try.pinned (OpenSpec.ofChange depthSameSpec)

/-- ITS FALSE NEIGHBOUR: 'it returns false'. Refute it at one input. -/
def depthSameWrong : ChangeSpec := { name := "depthSame", fn := fun _ => fun
  | [d1, d2] => { results := [.lit (.bool false)], args := [d1, d2] }
  | _ => none }
def DepthSameWrongFalsely : Prop := depthSameRow.holds Try.pinned (OpenSpec.ofChange depthSameWrong)

/-- 'concertinalaw7.DepthKnown': WHATEVER THE INPUT: true; the input reads as it did. -/
def depthKnownSpec : ChangeSpec := { name := "depthKnown", fn := fun _ => fun
  | [] => { results := [.lit (.bool true)], args := [] }
  | _ => none }
def depthKnownRow : OpenClaim := { program := "ythcppebfhjleiaa", sum := "dccf7f85ea41465da32117f8557f91d24e7f5faad3161fd10bc0d11c9f3c50bf", func := "concertina/concertinalaw7.DepthKnown", spec := "depthKnown", unfollowed := true, recurses := true, apart := false }
def DepthKnownSaid : Prop := depthKnownRow.holds Try.pinned (OpenSpec.ofChange depthKnownSpec)

/-- ITS FALSE NEIGHBOUR: 'it returns false'. Refute it at one input. -/
def depthKnownWrong : ChangeSpec := { name := "depthKnown", fn := fun _ => fun
  | [] => { results := [.lit (.bool false)], args := [] }
  | _ => none }
def DepthKnownWrongFalsely : Prop := depthKnownRow.holds Try.pinned (OpenSpec.ofChange depthKnownWrong)

/- THE SECOND FORM. 'bulk': how many values and letters a reading holds, each counted each time it is reached (what is shared counts as often as it is met; a slice's spare places count too). A statement '..UptoSaid' is the law's where the arguments, and the package variables that the reading takes, are together of bulk at most 1048576: NARROWER than '..Said'. Prove '..Said' where nothing that the law and all that it calls make is longer than what came in: it says more and counts as full. Else prove '..UptoSaid'. A law counts once. -/
mutual
def uptoBulk {H : Type} : DataW H → Nat
  | .lit (.string bytes) => bytes.length + 1
  | .lit _ => 1
  | .nil => 1
  | .ptr d => uptoBulk d + 1
  | .slice elems spare => uptoBulkAll elems + uptoBulkAll spare + 1
  | .agg parts => uptoBulkAll parts + 1
  | .iface _ d => uptoBulk d + 1
  | .map entries => uptoBulkEntries entries + 1
  | .held _ => 1
def uptoBulkAll {H : Type} : List (DataW H) → Nat
  | [] => 0
  | d :: r => uptoBulk d + uptoBulkAll r
def uptoBulkEntries {H : Type} : List (Lit × DataW H) → Nat
  | [] => 0
  | x :: r => uptoBulkEntry x + uptoBulkEntries r
def uptoBulkEntry {H : Type} : Lit × DataW H → Nat
  | (.string bytes, d) => bytes.length + uptoBulk d + 1
  | (_, d) => uptoBulk d + 1
 end
def uptoSmall : (H : Type) → List (DataW H) → Bool := fun _ ds => decide (uptoBulkAll ds ≤ 1048576)
def OpenSpec.upto (s : _root_.Go.ChangeSpec) : _root_.Go.OpenSpec := { _root_.Go.OpenSpec.ofChange s with cond := some uptoSmall }

/-- 'concertinalaw7.DepthLengths', WHERE WHAT IT READS IS OF BULK AT MOST 1048576: true; the input reads as it did. -/
def depthLengthsUptoRow : OpenClaim := { program := "ythcppebfhjleiaa", sum := "dccf7f85ea41465da32117f8557f91d24e7f5faad3161fd10bc0d11c9f3c50bf", func := "concertina/concertinalaw7.DepthLengths", spec := "depthLengths", unfollowed := true, recurses := true, apart := false, narrowed := true }
def DepthLengthsUptoSaid : Prop := depthLengthsUptoRow.holds Try.pinned (OpenSpec.upto depthLengthsSpec)

/-- 'concertinalaw7.DepthCosts', WHERE WHAT IT READS IS OF BULK AT MOST 1048576: true; the input reads as it did. -/
def depthCostsUptoRow : OpenClaim := { program := "ythcppebfhjleiaa", sum := "dccf7f85ea41465da32117f8557f91d24e7f5faad3161fd10bc0d11c9f3c50bf", func := "concertina/concertinalaw7.DepthCosts", spec := "depthCosts", unfollowed := true, recurses := true, apart := false, narrowed := true }
def DepthCostsUptoSaid : Prop := depthCostsUptoRow.holds Try.pinned (OpenSpec.upto depthCostsSpec)

/-- 'concertinalaw7.DepthTold', WHERE WHAT IT READS IS OF BULK AT MOST 1048576: true; the input reads as it did. -/
def depthToldUptoRow : OpenClaim := { program := "ythcppebfhjleiaa", sum := "dccf7f85ea41465da32117f8557f91d24e7f5faad3161fd10bc0d11c9f3c50bf", func := "concertina/concertinalaw7.DepthTold", spec := "depthTold", unfollowed := true, recurses := true, apart := false, narrowed := true }
def DepthToldUptoSaid : Prop := depthToldUptoRow.holds Try.pinned (OpenSpec.upto depthToldSpec)

/-- 'concertinalaw7.DepthSame', WHERE WHAT IT READS IS OF BULK AT MOST 1048576: true; the input reads as it did. -/
def depthSameUptoRow : OpenClaim := { program := "ythcppebfhjleiaa", sum := "dccf7f85ea41465da32117f8557f91d24e7f5faad3161fd10bc0d11c9f3c50bf", func := "concertina/concertinalaw7.DepthSame", spec := "depthSame", unfollowed := true, recurses := true, apart := false, narrowed := true }
def DepthSameUptoSaid : Prop := depthSameUptoRow.holds Try.pinned (OpenSpec.upto depthSameSpec)

/-- 'concertinalaw7.DepthKnown', WHERE WHAT IT READS IS OF BULK AT MOST 1048576: true; the input reads as it did. -/
def depthKnownUptoRow : OpenClaim := { program := "ythcppebfhjleiaa", sum := "dccf7f85ea41465da32117f8557f91d24e7f5faad3161fd10bc0d11c9f3c50bf", func := "concertina/concertinalaw7.DepthKnown", spec := "depthKnown", unfollowed := true, recurses := true, apart := false, narrowed := true }
def DepthKnownUptoSaid : Prop := depthKnownUptoRow.holds Try.pinned (OpenSpec.upto depthKnownSpec)

end Rows
end Go.Proofs.Ythcppebfhjleiaa
