/-
  No cell of these rows narrows 'for every input' (looked for: loops, veiled, ifaces, maps, wideKeys, modest, calm, conditions, laid).
  DERIVED. THE GIVEN ROWS OF THIS SEAT. 5 by the template 'for every input the law returns true; each argument reads behind the call as it read before'; 0 by the template 'total and deterministic' (their statements: YtpaefpjggglmaaaTotals.lean).
  GIVEN WITH THE SEED: the statements are not yours to turn. If you find one false, say at which input.
  Laid BY PROGRAM, IN A SANDBOX (cutbox-rows.mjs): the forced cells as the released guide's own fill.sh prints them over the translation b8a2705d8507228c… (all of the seat's roots in one cut). By AI agents, Wed Nov 11 2026. No macro, syntax, notation, axiom, sorry.
-/
import Derived.Test.YtpaefpjggglmaaaChecked
import GoSem.Claim
import GoSem.ClaimJoined
import GoSem.ClaimMapViews
import Derived.JoinedTies
import Derived.KernelRfl
namespace Go.Proofs.Ytpaefpjggglmaaa
/- THE CELL 'sum', in the pinned program and in every row, IS THE sha256 OF THE DUMP (.gsa) THAT YtpaefpjggglmaaaProg.lean LOADS. Nothing in Lean hashes anything: it is a label: what it is worth is what the hold of that sum in a sandbox is worth. -/
noncomputable def Try.pinned : Pinned := { name := "ytpaefpjggglmaaa", sum := "b8a2705d8507228c922a9d65eaf42f08787a6b391ea87a9d7bcd2338885c6465", checked := Try.checked }
namespace Rows
def none {H : Type} : Left H := { results := [], args := [] }

/-- 'concertinalaw8.WordsRead': WHATEVER THE INPUT: true; the input reads as it did. -/
def wordsReadSpec : ChangeSpec := { name := "wordsRead", fn := fun _ => fun
  | [d1, d2] => { results := [.lit (.bool true)], args := [d1, d2] }
  | _ => none }
def wordsReadRow : OpenClaim := { program := "ytpaefpjggglmaaa", sum := "b8a2705d8507228c922a9d65eaf42f08787a6b391ea87a9d7bcd2338885c6465", func := "concertina/concertinalaw8.WordsRead", spec := "wordsRead", unfollowed := true, recurses := true, apart := false }
def WordsReadSaid : Prop := wordsReadRow.holds Try.pinned (OpenSpec.ofChange wordsReadSpec)

/-- ITS FALSE NEIGHBOUR: 'it returns false'. Refute it at one input. -/
def wordsReadWrong : ChangeSpec := { name := "wordsRead", fn := fun _ => fun
  | [d1, d2] => { results := [.lit (.bool false)], args := [d1, d2] }
  | _ => none }
def WordsReadWrongFalsely : Prop := wordsReadRow.holds Try.pinned (OpenSpec.ofChange wordsReadWrong)

/-- 'concertinalaw8.WordsBack': WHATEVER THE INPUT: true; the input reads as it did. -/
def wordsBackSpec : ChangeSpec := { name := "wordsBack", fn := fun _ => fun
  | [d] => { results := [.lit (.bool true)], args := [d] }
  | _ => none }
def wordsBackRow : OpenClaim := { program := "ytpaefpjggglmaaa", sum := "b8a2705d8507228c922a9d65eaf42f08787a6b391ea87a9d7bcd2338885c6465", func := "concertina/concertinalaw8.WordsBack", spec := "wordsBack", unfollowed := true, recurses := true, apart := false }
def WordsBackSaid : Prop := wordsBackRow.holds Try.pinned (OpenSpec.ofChange wordsBackSpec)

/-- ITS FALSE NEIGHBOUR: 'it returns false'. Refute it at one input. -/
def wordsBackWrong : ChangeSpec := { name := "wordsBack", fn := fun _ => fun
  | [d] => { results := [.lit (.bool false)], args := [d] }
  | _ => none }
def WordsBackWrongFalsely : Prop := wordsBackRow.holds Try.pinned (OpenSpec.ofChange wordsBackWrong)

/-- 'concertinalaw8.WordsCoded': WHATEVER THE INPUT: true; the input reads as it did. -/
def wordsCodedSpec : ChangeSpec := { name := "wordsCoded", fn := fun _ => fun
  | [d1, d2, d3] => { results := [.lit (.bool true)], args := [d1, d2, d3] }
  | _ => none }
def wordsCodedRow : OpenClaim := { program := "ytpaefpjggglmaaa", sum := "b8a2705d8507228c922a9d65eaf42f08787a6b391ea87a9d7bcd2338885c6465", func := "concertina/concertinalaw8.WordsCoded", spec := "wordsCoded", unfollowed := true, recurses := true, apart := false }
def WordsCodedSaid : Prop := wordsCodedRow.holds Try.pinned (OpenSpec.ofChange wordsCodedSpec)

/-- ITS FALSE NEIGHBOUR: 'it returns false'. Refute it at one input. -/
def wordsCodedWrong : ChangeSpec := { name := "wordsCoded", fn := fun _ => fun
  | [d1, d2, d3] => { results := [.lit (.bool false)], args := [d1, d2, d3] }
  | _ => none }
def WordsCodedWrongFalsely : Prop := wordsCodedRow.holds Try.pinned (OpenSpec.ofChange wordsCodedWrong)

/-- 'concertinalaw8.WordsKnown': WHATEVER THE INPUT: true; the input reads as it did. -/
def wordsKnownSpec : ChangeSpec := { name := "wordsKnown", fn := fun _ => fun
  | [] => { results := [.lit (.bool true)], args := [] }
  | _ => none }
def wordsKnownRow : OpenClaim := { program := "ytpaefpjggglmaaa", sum := "b8a2705d8507228c922a9d65eaf42f08787a6b391ea87a9d7bcd2338885c6465", func := "concertina/concertinalaw8.WordsKnown", spec := "wordsKnown", unfollowed := true, recurses := true, apart := false }
def WordsKnownSaid : Prop := wordsKnownRow.holds Try.pinned (OpenSpec.ofChange wordsKnownSpec)

/-- ITS FALSE NEIGHBOUR: 'it returns false'. Refute it at one input. -/
def wordsKnownWrong : ChangeSpec := { name := "wordsKnown", fn := fun _ => fun
  | [] => { results := [.lit (.bool false)], args := [] }
  | _ => none }
def WordsKnownWrongFalsely : Prop := wordsKnownRow.holds Try.pinned (OpenSpec.ofChange wordsKnownWrong)

/-- 'concertinalaw8.WordsSkew': WHATEVER THE INPUT: true; the input reads as it did. -/
def wordsSkewSpec : ChangeSpec := { name := "wordsSkew", fn := fun _ => fun
  | [d1, d2] => { results := [.lit (.bool true)], args := [d1, d2] }
  | _ => none }
def wordsSkewRow : OpenClaim := { program := "ytpaefpjggglmaaa", sum := "b8a2705d8507228c922a9d65eaf42f08787a6b391ea87a9d7bcd2338885c6465", func := "concertina/concertinalaw8.WordsSkew", spec := "wordsSkew", unfollowed := true, recurses := true, apart := false }
def WordsSkewSaid : Prop := wordsSkewRow.holds Try.pinned (OpenSpec.ofChange wordsSkewSpec)

/-- ITS FALSE NEIGHBOUR: 'it returns false'. Refute it at one input. -/
def wordsSkewWrong : ChangeSpec := { name := "wordsSkew", fn := fun _ => fun
  | [d1, d2] => { results := [.lit (.bool false)], args := [d1, d2] }
  | _ => none }
def WordsSkewWrongFalsely : Prop := wordsSkewRow.holds Try.pinned (OpenSpec.ofChange wordsSkewWrong)

/- THE SECOND FORM. 'bulk': how many values and letters a reading holds, each counted each time it is reached (what is shared counts as often as it is met; a slice's spare places count too). A statement '..UptoSaid' is the law's where the arguments, and the package variables that the reading takes, are together of bulk at most 1048576: NARROWER than '..Said'. Prove '..Said' where nothing that the law and all that it calls make is longer than what came in: it says more and counts as full. Else prove '..UptoSaid'. A law counts once. -/
mutual
def uptoBulk {H : Type} : DataW H → Nat
  | .lit (.string bytes) => bytes.length + 1
  | .lit _ => 1
  | .nil => 1
  | .ptr d => uptoBulk d + 1
  | .slice elems spare => uptoBulkAll elems + uptoBulkAll spare + 1
  | .agg parts => uptoBulkAll parts + 1
  | .iface _ d => uptoBulk d + 1
  | .map entries => uptoBulkEntries entries + 1
  | .held _ => 1
def uptoBulkAll {H : Type} : List (DataW H) → Nat
  | [] => 0
  | d :: r => uptoBulk d + uptoBulkAll r
def uptoBulkEntries {H : Type} : List (Lit × DataW H) → Nat
  | [] => 0
  | x :: r => uptoBulkEntry x + uptoBulkEntries r
def uptoBulkEntry {H : Type} : Lit × DataW H → Nat
  | (.string bytes, d) => bytes.length + uptoBulk d + 1
  | (_, d) => uptoBulk d + 1
 end
def uptoSmall : (H : Type) → List (DataW H) → Bool := fun _ ds => decide (uptoBulkAll ds ≤ 1048576)
def OpenSpec.upto (s : _root_.Go.ChangeSpec) : _root_.Go.OpenSpec := { _root_.Go.OpenSpec.ofChange s with cond := some uptoSmall }

/-- 'concertinalaw8.WordsRead', WHERE WHAT IT READS IS OF BULK AT MOST 1048576: true; the input reads as it did. -/
def wordsReadUptoRow : OpenClaim := { program := "ytpaefpjggglmaaa", sum := "b8a2705d8507228c922a9d65eaf42f08787a6b391ea87a9d7bcd2338885c6465", func := "concertina/concertinalaw8.WordsRead", spec := "wordsRead", unfollowed := true, recurses := true, apart := false, narrowed := true }
def WordsReadUptoSaid : Prop := wordsReadUptoRow.holds Try.pinned (OpenSpec.upto wordsReadSpec)

/-- 'concertinalaw8.WordsBack', WHERE WHAT IT READS IS OF BULK AT MOST 1048576: true; the input reads as it did. -/
def wordsBackUptoRow : OpenClaim := { program := "ytpaefpjggglmaaa", sum := "b8a2705d8507228c922a9d65eaf42f08787a6b391ea87a9d7bcd2338885c6465", func := "concertina/concertinalaw8.WordsBack", spec := "wordsBack", unfollowed := true, recurses := true, apart := false, narrowed := true }
def WordsBackUptoSaid : Prop := wordsBackUptoRow.holds Try.pinned (OpenSpec.upto wordsBackSpec)

/-- 'concertinalaw8.WordsCoded', WHERE WHAT IT READS IS OF BULK AT MOST 1048576: true; the input reads as it did. -/
def wordsCodedUptoRow : OpenClaim := { program := "ytpaefpjggglmaaa", sum := "b8a2705d8507228c922a9d65eaf42f08787a6b391ea87a9d7bcd2338885c6465", func := "concertina/concertinalaw8.WordsCoded", spec := "wordsCoded", unfollowed := true, recurses := true, apart := false, narrowed := true }
def WordsCodedUptoSaid : Prop := wordsCodedUptoRow.holds Try.pinned (OpenSpec.upto wordsCodedSpec)

/-- 'concertinalaw8.WordsKnown', WHERE WHAT IT READS IS OF BULK AT MOST 1048576: true; the input reads as it did. -/
def wordsKnownUptoRow : OpenClaim := { program := "ytpaefpjggglmaaa", sum := "b8a2705d8507228c922a9d65eaf42f08787a6b391ea87a9d7bcd2338885c6465", func := "concertina/concertinalaw8.WordsKnown", spec := "wordsKnown", unfollowed := true, recurses := true, apart := false, narrowed := true }
def WordsKnownUptoSaid : Prop := wordsKnownUptoRow.holds Try.pinned (OpenSpec.upto wordsKnownSpec)

/-- 'concertinalaw8.WordsSkew', WHERE WHAT IT READS IS OF BULK AT MOST 1048576: true; the input reads as it did. -/
def wordsSkewUptoRow : OpenClaim := { program := "ytpaefpjggglmaaa", sum := "b8a2705d8507228c922a9d65eaf42f08787a6b391ea87a9d7bcd2338885c6465", func := "concertina/concertinalaw8.WordsSkew", spec := "wordsSkew", unfollowed := true, recurses := true, apart := false, narrowed := true }
def WordsSkewUptoSaid : Prop := wordsSkewUptoRow.holds Try.pinned (OpenSpec.upto wordsSkewSpec)

end Rows
end Go.Proofs.Ytpaefpjggglmaaa
