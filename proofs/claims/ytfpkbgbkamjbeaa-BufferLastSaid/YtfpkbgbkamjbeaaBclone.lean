/- bytes.Clone: the same bytes in new memory. -/
import Derived.Test.YtfpkbgbkamjbeaaLaw
import Derived.Lib.LazyBuf
import Derived.Test.YtfpkbgbkamjbeaaChecked
namespace Go.Proofs.Ytfpkbgbkamjbeaa
open Go.RowKit

theorem run_eql_bytes_nil {P : Program} (w : World) (t e : TypeId) (a : Option Addr) (l c : Nat) (h : P.underlying t = some (.slice e)) : (binOp .eql t (.slice a l c) (.slice none 0 0)).run P w = .ok (.bool a.isNone) w := by
  simp only [binOp]
  simp [run_equal_slice_nil w t e a l c h]
/-- New bytes, in memory of the call's own. -/
def NewBytes (w : World) (l : List Nat) (e : Ending) (w' : World) : Prop :=
  ∃ A c, e = .returned (.slice A l.length c) ∧ w'.ownsRow w.heap.size 5 1 (.slice A l.length c) l.length (byts l) ∧ Below w.heap.size w w'

set_option maxHeartbeats 1000000 in
theorem bclone_any (A : Option Addr) (cap : Nat) (l : List Nat) (w : World) {B : Nat} (hsl : Sl w B A (byts l)) (hB : B ≤ w.heap.size) (hcap : l.length ≤ cap) (hA : A = none → cap = 0) (hlen : l.length ≤ 1000000000000) :
    Calls Try.prog 15 #[.slice A l.length cap] w (NewBytes w l) := by
  obtain ⟨i0, hi0, hz0, hs0, hb0⟩ := byte_parts (P := Try.prog) (e := 5) (by kernel_rfl)
  cases A with
  | none =>
    have h0 := hA rfl
    subst h0
    have hl : l = [] := List.eq_nil_of_length_eq_zero (by omega)
    subst hl
    have hq := fun w => run_eql_bytes_nil (P := Try.prog) w 30 5 none 0 0 Try.underlying30
    rw [show (none : Option Addr).isNone = true from rfl] at hq
    go_enter Try.func15, Try.ntmps15
    go_wp2_with fail
    go_ret
    exact ⟨none, 0, rfl, World.ownsRow_nil _ _ _ _, Below.refl _ _⟩
  | some a =>
    have hq := fun w => run_eql_bytes_nil (P := Try.prog) w 30 5 (some a) l.length cap Try.underlying30
    rw [show (some a : Option Addr).isNone = false from rfl] at hq
    have hown := own_empty (e := 5) (size := 1) w
    have hal : Below w.heap.size w (w.alloc (.cells #[] 5)) := (Below.refl _ _).alloc (Nat.le_refl _) _
    have hsl' : Sl (w.alloc (.cells #[] 5)) B (some a) (byts l) := hsl.below (hal.mono hB)
    go_enter Try.func15, Try.ntmps15
    go_wp2_with (at_builtin; refine wpList_append_sl (base := w.heap.size) _ rfl (.tmp 5) (.tmp 6) _ rfl Try.underlying30 hi0 hz0 hs0 hb0 rfl rfl hown rfl (byts_length l).symm hA hsl' (byts_one l) (by rw [byts_length]; exact hcap) (by rw [byts_length]; unfold maxLen; omega) (by rw [byts_length]; omega) hal.size ?_; intro v2 w2 hown2 hgr hbl)
    go_ret
    rw [byts_length, Nat.zero_add, List.nil_append] at hown2
    obtain ⟨A2, c2, rfl⟩ := own_slice hown2
    exact ⟨A2, c2, rfl, hown2, hal.grown hgr hal.size (fun g hg => by injection hg with hg; subst hg; exact Nat.le_refl _)⟩
end Go.Proofs.Ytfpkbgbkamjbeaa
