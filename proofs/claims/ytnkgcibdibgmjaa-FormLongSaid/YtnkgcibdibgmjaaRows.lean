/-
  No cell of these rows narrows 'for every input' (looked for: loops, veiled, ifaces, maps, wideKeys, modest, calm, conditions, laid).
  DERIVED. THE GIVEN ROWS OF THIS SEAT. 4 by the template 'for every input the law returns true; each argument reads behind the call as it read before'; 0 by the template 'total and deterministic' (their statements: YtnkgcibdibgmjaaTotals.lean).
  GIVEN WITH THE SEED: the statements are not yours to turn. If you find one false, say at which input.
  Laid BY PROGRAM, IN A SANDBOX (cutbox-rows.mjs): the forced cells as the released guide's own fill.sh prints them over the translation f4c7a10eae902978… (all of the seat's roots in one cut). By AI agents, Wed Nov 11 2026. No macro, syntax, notation, axiom, sorry.
-/
import Derived.Test.YtnkgcibdibgmjaaChecked
import GoSem.Claim
import GoSem.ClaimJoined
import GoSem.ClaimMapViews
import Derived.JoinedTies
import Derived.KernelRfl
namespace Go.Proofs.Ytnkgcibdibgmjaa
/- THE CELL 'sum', in the pinned program and in every row, IS THE sha256 OF THE DUMP (.gsa) THAT YtnkgcibdibgmjaaProg.lean LOADS. Nothing in Lean hashes anything: it is a label: what it is worth is what the hold of that sum in a sandbox is worth. -/
noncomputable def Try.pinned : Pinned := { name := "ytnkgcibdibgmjaa", sum := "f4c7a10eae9029788519772575d2b722573b4d641b153aee8a934735f4455d9f", checked := Try.checked }
namespace Rows
def none {H : Type} : Left H := { results := [], args := [] }

/-- 'concertinalaw9.FormBest': WHATEVER THE INPUT: true; the input reads as it did. -/
def formBestSpec : ChangeSpec := { name := "formBest", fn := fun _ => fun
  | [d1, d2] => { results := [.lit (.bool true)], args := [d1, d2] }
  | _ => none }
def formBestRow : OpenClaim := { program := "ytnkgcibdibgmjaa", sum := "f4c7a10eae9029788519772575d2b722573b4d641b153aee8a934735f4455d9f", func := "concertina/concertinalaw9.FormBest", spec := "formBest", unfollowed := true, recurses := true, apart := false }
def FormBestSaid : Prop := formBestRow.holds Try.pinned (OpenSpec.ofChange formBestSpec)

/-- ITS FALSE NEIGHBOUR: 'it returns false'. Refute it at one input. -/
def formBestWrong : ChangeSpec := { name := "formBest", fn := fun _ => fun
  | [d1, d2] => { results := [.lit (.bool false)], args := [d1, d2] }
  | _ => none }
def FormBestWrongFalsely : Prop := formBestRow.holds Try.pinned (OpenSpec.ofChange formBestWrong)

/-- 'concertinalaw9.FormLong': WHATEVER THE INPUT: true; the input reads as it did. -/
def formLongSpec : ChangeSpec := { name := "formLong", fn := fun _ => fun
  | [] => { results := [.lit (.bool true)], args := [] }
  | _ => none }
def formLongRow : OpenClaim := { program := "ytnkgcibdibgmjaa", sum := "f4c7a10eae9029788519772575d2b722573b4d641b153aee8a934735f4455d9f", func := "concertina/concertinalaw9.FormLong", spec := "formLong", unfollowed := true, recurses := true, apart := false }
def FormLongSaid : Prop := formLongRow.holds Try.pinned (OpenSpec.ofChange formLongSpec)

/-- ITS FALSE NEIGHBOUR: 'it returns false'. Refute it at one input. -/
def formLongWrong : ChangeSpec := { name := "formLong", fn := fun _ => fun
  | [] => { results := [.lit (.bool false)], args := [] }
  | _ => none }
def FormLongWrongFalsely : Prop := formLongRow.holds Try.pinned (OpenSpec.ofChange formLongWrong)

/-- 'concertinalaw9.FormGains': WHATEVER THE INPUT: true; the input reads as it did. -/
def formGainsSpec : ChangeSpec := { name := "formGains", fn := fun _ => fun
  | [d1, d2, d3] => { results := [.lit (.bool true)], args := [d1, d2, d3] }
  | _ => none }
def formGainsRow : OpenClaim := { program := "ytnkgcibdibgmjaa", sum := "f4c7a10eae9029788519772575d2b722573b4d641b153aee8a934735f4455d9f", func := "concertina/concertinalaw9.FormGains", spec := "formGains", inPlace := ["math.Float64frombits"], unfollowed := true, recurses := true, apart := false }
def FormGainsSaid : Prop := formGainsRow.holds Try.pinned (OpenSpec.ofChange formGainsSpec)

/-- ITS FALSE NEIGHBOUR: 'it returns false'. Refute it at one input. -/
def formGainsWrong : ChangeSpec := { name := "formGains", fn := fun _ => fun
  | [d1, d2, d3] => { results := [.lit (.bool false)], args := [d1, d2, d3] }
  | _ => none }
def FormGainsWrongFalsely : Prop := formGainsRow.holds Try.pinned (OpenSpec.ofChange formGainsWrong)

/-- 'concertinalaw9.FormSame': WHATEVER THE INPUT: true; the input reads as it did. -/
def formSameSpec : ChangeSpec := { name := "formSame", fn := fun _ => fun
  | [d1, d2, d3] => { results := [.lit (.bool true)], args := [d1, d2, d3] }
  | _ => none }
def formSameRow : OpenClaim := { program := "ytnkgcibdibgmjaa", sum := "f4c7a10eae9029788519772575d2b722573b4d641b153aee8a934735f4455d9f", func := "concertina/concertinalaw9.FormSame", spec := "formSame", unfollowed := true, recurses := true, apart := false }
def FormSameSaid : Prop := formSameRow.holds Try.pinned (OpenSpec.ofChange formSameSpec)

/-- ITS FALSE NEIGHBOUR: 'it returns false'. Refute it at one input. -/
def formSameWrong : ChangeSpec := { name := "formSame", fn := fun _ => fun
  | [d1, d2, d3] => { results := [.lit (.bool false)], args := [d1, d2, d3] }
  | _ => none }
def FormSameWrongFalsely : Prop := formSameRow.holds Try.pinned (OpenSpec.ofChange formSameWrong)

/- THE SECOND FORM. 'bulk': how many values and letters a reading holds, each counted each time it is reached (what is shared counts as often as it is met; a slice's spare places count too). A statement '..UptoSaid' is the law's where the arguments, and the package variables that the reading takes, are together of bulk at most 1048576: NARROWER than '..Said'. Prove '..Said' where nothing that the law and all that it calls make is longer than what came in: it says more and counts as full. Else prove '..UptoSaid'. A law counts once. -/
mutual
def uptoBulk {H : Type} : DataW H → Nat
  | .lit (.string bytes) => bytes.length + 1
  | .lit _ => 1
  | .nil => 1
  | .ptr d => uptoBulk d + 1
  | .slice elems spare => uptoBulkAll elems + uptoBulkAll spare + 1
  | .agg parts => uptoBulkAll parts + 1
  | .iface _ d => uptoBulk d + 1
  | .map entries => uptoBulkEntries entries + 1
  | .held _ => 1
def uptoBulkAll {H : Type} : List (DataW H) → Nat
  | [] => 0
  | d :: r => uptoBulk d + uptoBulkAll r
def uptoBulkEntries {H : Type} : List (Lit × DataW H) → Nat
  | [] => 0
  | x :: r => uptoBulkEntry x + uptoBulkEntries r
def uptoBulkEntry {H : Type} : Lit × DataW H → Nat
  | (.string bytes, d) => bytes.length + uptoBulk d + 1
  | (_, d) => uptoBulk d + 1
 end
def uptoSmall : (H : Type) → List (DataW H) → Bool := fun _ ds => decide (uptoBulkAll ds ≤ 1048576)
def OpenSpec.upto (s : _root_.Go.ChangeSpec) : _root_.Go.OpenSpec := { _root_.Go.OpenSpec.ofChange s with cond := some uptoSmall }

/-- 'concertinalaw9.FormBest', WHERE WHAT IT READS IS OF BULK AT MOST 1048576: true; the input reads as it did. -/
def formBestUptoRow : OpenClaim := { program := "ytnkgcibdibgmjaa", sum := "f4c7a10eae9029788519772575d2b722573b4d641b153aee8a934735f4455d9f", func := "concertina/concertinalaw9.FormBest", spec := "formBest", unfollowed := true, recurses := true, apart := false, narrowed := true }
def FormBestUptoSaid : Prop := formBestUptoRow.holds Try.pinned (OpenSpec.upto formBestSpec)

/-- 'concertinalaw9.FormLong', WHERE WHAT IT READS IS OF BULK AT MOST 1048576: true; the input reads as it did. -/
def formLongUptoRow : OpenClaim := { program := "ytnkgcibdibgmjaa", sum := "f4c7a10eae9029788519772575d2b722573b4d641b153aee8a934735f4455d9f", func := "concertina/concertinalaw9.FormLong", spec := "formLong", unfollowed := true, recurses := true, apart := false, narrowed := true }
def FormLongUptoSaid : Prop := formLongUptoRow.holds Try.pinned (OpenSpec.upto formLongSpec)

/-- 'concertinalaw9.FormGains', WHERE WHAT IT READS IS OF BULK AT MOST 1048576: true; the input reads as it did. -/
def formGainsUptoRow : OpenClaim := { program := "ytnkgcibdibgmjaa", sum := "f4c7a10eae9029788519772575d2b722573b4d641b153aee8a934735f4455d9f", func := "concertina/concertinalaw9.FormGains", spec := "formGains", inPlace := ["math.Float64frombits"], unfollowed := true, recurses := true, apart := false, narrowed := true }
def FormGainsUptoSaid : Prop := formGainsUptoRow.holds Try.pinned (OpenSpec.upto formGainsSpec)

/-- 'concertinalaw9.FormSame', WHERE WHAT IT READS IS OF BULK AT MOST 1048576: true; the input reads as it did. -/
def formSameUptoRow : OpenClaim := { program := "ytnkgcibdibgmjaa", sum := "f4c7a10eae9029788519772575d2b722573b4d641b153aee8a934735f4455d9f", func := "concertina/concertinalaw9.FormSame", spec := "formSame", unfollowed := true, recurses := true, apart := false, narrowed := true }
def FormSameUptoSaid : Prop := formSameUptoRow.holds Try.pinned (OpenSpec.upto formSameSpec)

end Rows
end Go.Proofs.Ytnkgcibdibgmjaa
