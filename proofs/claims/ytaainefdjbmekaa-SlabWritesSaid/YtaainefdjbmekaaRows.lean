/-
  No cell of these rows narrows 'for every input' (looked for: loops, veiled, ifaces, maps, wideKeys, modest, calm, conditions, laid).
  DERIVED. THE GIVEN ROWS OF THIS SEAT. 3 by the template 'for every input the law returns true; each argument reads behind the call as it read before'; 0 by the template 'total and deterministic' (their statements: YtaainefdjbmekaaTotals.lean).
  GIVEN WITH THE SEED: the statements are not yours to turn. If you find one false, say at which input.
  Laid BY PROGRAM, IN A SANDBOX (cutbox-rows.mjs): the forced cells as the released guide's own fill.sh prints them over the translation b67ecf9fb9e55561… (all of the seat's roots in one cut). By AI agents, Wed Nov 11 2026. No macro, syntax, notation, axiom, sorry.
-/
import Derived.Test.YtaainefdjbmekaaChecked
import GoSem.Claim
import GoSem.ClaimJoined
import GoSem.ClaimMapViews
import Derived.JoinedTies
import Derived.KernelRfl
namespace Go.Proofs.Ytaainefdjbmekaa
/- THE CELL 'sum', in the pinned program and in every row, IS THE sha256 OF THE DUMP (.gsa) THAT YtaainefdjbmekaaProg.lean LOADS. Nothing in Lean hashes anything: it is a label: what it is worth is what the hold of that sum in a sandbox is worth. -/
noncomputable def Try.pinned : Pinned := { name := "ytaainefdjbmekaa", sum := "b67ecf9fb9e55561eba06c195a9b0b346ff9a8918d0a31c0eecb71d4ff15c4a2", checked := Try.checked }
namespace Rows
def none {H : Type} : Left H := { results := [], args := [] }

/-- 'concertinalaw15.SlabWrites': WHATEVER THE INPUT: true; the input reads as it did. -/
def slabWritesSpec : ChangeSpec := { name := "slabWrites", fn := fun _ => fun
  | [d1, d2] => { results := [.lit (.bool true)], args := [d1, d2] }
  | _ => none }
def slabWritesRow : OpenClaim := { program := "ytaainefdjbmekaa", sum := "b67ecf9fb9e55561eba06c195a9b0b346ff9a8918d0a31c0eecb71d4ff15c4a2", func := "concertina/concertinalaw15.SlabWrites", spec := "slabWrites", inPlace := ["slices.overlaps[concertina/api.Run]", "slices.overlaps[concertina/shares.share]"], unfollowed := true, recurses := true, plainKeys := false, apart := false }
def SlabWritesSaid : Prop := slabWritesRow.holds Try.pinned (OpenSpec.ofChange slabWritesSpec)

/-- ITS FALSE NEIGHBOUR: 'it returns false'. Refute it at one input. -/
def slabWritesWrong : ChangeSpec := { name := "slabWrites", fn := fun _ => fun
  | [d1, d2] => { results := [.lit (.bool false)], args := [d1, d2] }
  | _ => none }
def SlabWritesWrongFalsely : Prop := slabWritesRow.holds Try.pinned (OpenSpec.ofChange slabWritesWrong)

/-- 'concertinalaw15.SlabFails': WHATEVER THE INPUT: true; the input reads as it did. -/
def slabFailsSpec : ChangeSpec := { name := "slabFails", fn := fun _ => fun
  | [d1, d2] => { results := [.lit (.bool true)], args := [d1, d2] }
  | _ => none }
def slabFailsRow : OpenClaim := { program := "ytaainefdjbmekaa", sum := "b67ecf9fb9e55561eba06c195a9b0b346ff9a8918d0a31c0eecb71d4ff15c4a2", func := "concertina/concertinalaw15.SlabFails", spec := "slabFails", inPlace := ["slices.overlaps[concertina/api.Run]", "slices.overlaps[concertina/shares.share]"], unfollowed := true, recurses := true, plainKeys := false, apart := false }
def SlabFailsSaid : Prop := slabFailsRow.holds Try.pinned (OpenSpec.ofChange slabFailsSpec)

/-- ITS FALSE NEIGHBOUR: 'it returns false'. Refute it at one input. -/
def slabFailsWrong : ChangeSpec := { name := "slabFails", fn := fun _ => fun
  | [d1, d2] => { results := [.lit (.bool false)], args := [d1, d2] }
  | _ => none }
def SlabFailsWrongFalsely : Prop := slabFailsRow.holds Try.pinned (OpenSpec.ofChange slabFailsWrong)

/-- 'concertinalaw15.SlabReuses': WHATEVER THE INPUT: true; the input reads as it did. -/
def slabReusesSpec : ChangeSpec := { name := "slabReuses", fn := fun _ => fun
  | [d1, d2] => { results := [.lit (.bool true)], args := [d1, d2] }
  | _ => none }
def slabReusesRow : OpenClaim := { program := "ytaainefdjbmekaa", sum := "b67ecf9fb9e55561eba06c195a9b0b346ff9a8918d0a31c0eecb71d4ff15c4a2", func := "concertina/concertinalaw15.SlabReuses", spec := "slabReuses", inPlace := ["slices.overlaps[concertina/api.Run]", "slices.overlaps[concertina/shares.share]"], unfollowed := true, recurses := true, plainKeys := false, apart := false }
def SlabReusesSaid : Prop := slabReusesRow.holds Try.pinned (OpenSpec.ofChange slabReusesSpec)

/-- ITS FALSE NEIGHBOUR: 'it returns false'. Refute it at one input. -/
def slabReusesWrong : ChangeSpec := { name := "slabReuses", fn := fun _ => fun
  | [d1, d2] => { results := [.lit (.bool false)], args := [d1, d2] }
  | _ => none }
def SlabReusesWrongFalsely : Prop := slabReusesRow.holds Try.pinned (OpenSpec.ofChange slabReusesWrong)

/- THE SECOND FORM. 'bulk': how many values and letters a reading holds, each counted each time it is reached (what is shared counts as often as it is met; a slice's spare places count too). A statement '..UptoSaid' is the law's where the arguments, and the package variables that the reading takes, are together of bulk at most 1048576: NARROWER than '..Said'. Prove '..Said' where nothing that the law and all that it calls make is longer than what came in: it says more and counts as full. Else prove '..UptoSaid'. A law counts once. -/
mutual
def uptoBulk {H : Type} : DataW H → Nat
  | .lit (.string bytes) => bytes.length + 1
  | .lit _ => 1
  | .nil => 1
  | .ptr d => uptoBulk d + 1
  | .slice elems spare => uptoBulkAll elems + uptoBulkAll spare + 1
  | .agg parts => uptoBulkAll parts + 1
  | .iface _ d => uptoBulk d + 1
  | .map entries => uptoBulkEntries entries + 1
  | .held _ => 1
def uptoBulkAll {H : Type} : List (DataW H) → Nat
  | [] => 0
  | d :: r => uptoBulk d + uptoBulkAll r
def uptoBulkEntries {H : Type} : List (Lit × DataW H) → Nat
  | [] => 0
  | x :: r => uptoBulkEntry x + uptoBulkEntries r
def uptoBulkEntry {H : Type} : Lit × DataW H → Nat
  | (.string bytes, d) => bytes.length + uptoBulk d + 1
  | (_, d) => uptoBulk d + 1
 end
def uptoSmall : (H : Type) → List (DataW H) → Bool := fun _ ds => decide (uptoBulkAll ds ≤ 1048576)
def OpenSpec.upto (s : _root_.Go.ChangeSpec) : _root_.Go.OpenSpec := { _root_.Go.OpenSpec.ofChange s with cond := some uptoSmall }

/-- 'concertinalaw15.SlabWrites', WHERE WHAT IT READS IS OF BULK AT MOST 1048576: true; the input reads as it did. -/
def slabWritesUptoRow : OpenClaim := { program := "ytaainefdjbmekaa", sum := "b67ecf9fb9e55561eba06c195a9b0b346ff9a8918d0a31c0eecb71d4ff15c4a2", func := "concertina/concertinalaw15.SlabWrites", spec := "slabWrites", inPlace := ["slices.overlaps[concertina/api.Run]", "slices.overlaps[concertina/shares.share]"], unfollowed := true, recurses := true, plainKeys := false, apart := false, narrowed := true }
def SlabWritesUptoSaid : Prop := slabWritesUptoRow.holds Try.pinned (OpenSpec.upto slabWritesSpec)

/-- 'concertinalaw15.SlabFails', WHERE WHAT IT READS IS OF BULK AT MOST 1048576: true; the input reads as it did. -/
def slabFailsUptoRow : OpenClaim := { program := "ytaainefdjbmekaa", sum := "b67ecf9fb9e55561eba06c195a9b0b346ff9a8918d0a31c0eecb71d4ff15c4a2", func := "concertina/concertinalaw15.SlabFails", spec := "slabFails", inPlace := ["slices.overlaps[concertina/api.Run]", "slices.overlaps[concertina/shares.share]"], unfollowed := true, recurses := true, plainKeys := false, apart := false, narrowed := true }
def SlabFailsUptoSaid : Prop := slabFailsUptoRow.holds Try.pinned (OpenSpec.upto slabFailsSpec)

/-- 'concertinalaw15.SlabReuses', WHERE WHAT IT READS IS OF BULK AT MOST 1048576: true; the input reads as it did. -/
def slabReusesUptoRow : OpenClaim := { program := "ytaainefdjbmekaa", sum := "b67ecf9fb9e55561eba06c195a9b0b346ff9a8918d0a31c0eecb71d4ff15c4a2", func := "concertina/concertinalaw15.SlabReuses", spec := "slabReuses", inPlace := ["slices.overlaps[concertina/api.Run]", "slices.overlaps[concertina/shares.share]"], unfollowed := true, recurses := true, plainKeys := false, apart := false, narrowed := true }
def SlabReusesUptoSaid : Prop := slabReusesUptoRow.holds Try.pinned (OpenSpec.upto slabReusesSpec)

end Rows
end Go.Proofs.Ytaainefdjbmekaa
