/- bytes.Clone: the same bytes in new memory. -/
import Derived.Test.YtpicalkcgioimaaHeap
import Derived.Lib.LazyBuf
import Derived.Test.YtpicalkcgioimaaChecked
namespace Go.Proofs.Ytpicalkcgioimaa
open Go.RowKit

theorem run_eql_bytes_nil {P : Program} (w : World) (t e : TypeId) (a : Option Addr) (l c : Nat) (h : P.underlying t = some (.slice e)) : (binOp .eql t (.slice a l c) (.slice none 0 0)).run P w = .ok (.bool a.isNone) w := by
  simp only [binOp]
  simp [run_equal_slice_nil w t e a l c h]
theorem own_empty {e : TypeId} {size : Nat} (w : World) : (w.alloc (.cells #[] e)).ownsRow w.heap.size e size (.slice (some ⟨w.heap.size, 0, none⟩) 0 0) 0 [] :=
  ⟨by simp, .inr ⟨w.heap.size, 0, #[], rfl, Nat.le_refl _, heap_alloc_new w _, by simp⟩⟩

theorem World.ownsRow_base {w : World} {b b' : Nat} {e : TypeId} {size n : Nat} {v : Value} {xs : List Value} (h : w.ownsRow b e size v n xs) (hb : b' ≤ b) : w.ownsRow b' e size v n xs := by
  refine ⟨h.1, ?_⟩
  rcases h.2 with h0 | ⟨g, cap, cur, hv, hbs, rest⟩
  · exact .inl h0
  · exact .inr ⟨g, cap, cur, hv, Nat.le_trans hb hbs, rest⟩
theorem own_keep {w w' : World} {base : Nat} {e : TypeId} {size n : Nat} {v : Value} {xs : List Value} (h : w.ownsRow base e size v n xs) (hk : ∀ b, v.ownBlock = some b → b < w.heap.size → w'.heap[b]? = w.heap[b]?) : w'.ownsRow base e size v n xs := by
  refine ⟨h.1, ?_⟩
  rcases h.2 with h0 | ⟨g, cap, cur, hv, hbs, hg, rest⟩
  · exact .inl h0
  · refine .inr ⟨g, cap, cur, hv, hbs, ?_, rest⟩
    rw [hk g (by rw [hv]; rfl) (by
      rcases Nat.lt_or_ge g w.heap.size with hlt | hge
      · exact hlt
      · rw [Array.getElem?_eq_none hge] at hg; cases hg)]
    exact hg
theorem own_far {w : World} {base : Nat} {e : TypeId} {size n : Nat} {v : Value} {xs : List Value} (h : w.ownsRow base e size v n xs) {p : Addr} (hp : v.ownBlock ≠ some p.block) (u : Value) : (w.setCell p u).ownsRow base e size v n xs :=
  own_keep h fun b hb _ => Below.heap_setCell w p u b (fun e => hp (by rw [hb, e]))
/-- New bytes, in memory of the call's own. -/
def NewBytes (w : World) (l : List Nat) (e : Ending) (w' : World) : Prop :=
  ∃ A c, e = .returned (.slice A l.length c) ∧ w'.ownsRow w.heap.size 5 1 (.slice A l.length c) l.length (byts l) ∧ Below w.heap.size w w'

set_option maxHeartbeats 1000000 in
theorem bclone_any (A : Option Addr) (cap : Nat) (l : List Nat) (w : World) {B : Nat} (hsl : Sl w B A (byts l)) (hB : B ≤ w.heap.size) (hcap : l.length ≤ cap) (hA : A = none → cap = 0) (hlen : l.length ≤ 1000000000000) :
    Calls Try.prog 27 #[.slice A l.length cap] w (NewBytes w l) := by
  obtain ⟨i0, hi0, hz0, hs0, hb0⟩ := byte_parts (P := Try.prog) (e := 5) (by kernel_rfl)
  cases A with
  | none =>
    have h0 := hA rfl
    subst h0
    have hl : l = [] := List.eq_nil_of_length_eq_zero (by omega)
    subst hl
    have hq := fun w => run_eql_bytes_nil (P := Try.prog) w 22 5 none 0 0 Try.underlying22
    rw [show (none : Option Addr).isNone = true from rfl] at hq
    go_enter Try.func27, Try.ntmps27
    go_wp2_with fail
    go_ret
    exact ⟨none, 0, rfl, World.ownsRow_nil _ _ _ _, Below.refl _ _⟩
  | some a =>
    have hq := fun w => run_eql_bytes_nil (P := Try.prog) w 22 5 (some a) l.length cap Try.underlying22
    rw [show (some a : Option Addr).isNone = false from rfl] at hq
    have hown := own_empty (e := 5) (size := 1) w
    have hal : Below w.heap.size w (w.alloc (.cells #[] 5)) := (Below.refl _ _).alloc (Nat.le_refl _) _
    have hsl' : Sl (w.alloc (.cells #[] 5)) B (some a) (byts l) := hsl.below (hal.mono hB)
    go_enter Try.func27, Try.ntmps27
    go_wp2_with (at_builtin; refine wpList_append_sl (base := w.heap.size) _ rfl (.tmp 5) (.tmp 6) _ rfl Try.underlying22 hi0 hz0 hs0 hb0 rfl rfl hown rfl (byts_length l).symm hA hsl' (byts_one l) (by rw [byts_length]; exact hcap) (by rw [byts_length]; unfold maxLen; omega) (by rw [byts_length]; omega) hal.size ?_; intro v2 w2 hown2 hgr hbl)
    go_ret
    rw [byts_length, Nat.zero_add, List.nil_append] at hown2
    obtain ⟨A2, c2, rfl⟩ := own_slice hown2
    exact ⟨A2, c2, rfl, hown2, hal.grown hgr hal.size (fun g hg => by injection hg with hg; subst hg; exact Nat.le_refl _)⟩
end Go.Proofs.Ytpicalkcgioimaa
