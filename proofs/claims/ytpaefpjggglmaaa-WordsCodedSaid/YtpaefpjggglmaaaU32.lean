/- Slices of 32-bit words as arguments. -/
import Derived.Test.YtpaefpjggglmaaaLaw
namespace Go.Proofs.Ytpaefpjggglmaaa
open Go.ChangeShapes Go.WideShapes Go.RowKit

def u32s (l : List Nat) : List Value := l.map fun (n : Nat) => Value.int .u32 (n : Int)
/-- An argument that is a slice of 32-bit words. -/
theorem u32s_arg {H : Type} {enc : TypeId × Value → H} {P : Program} {w : World} {base : Nat} {r : Reach} {b0 : Nat} {t e : TypeId} {v : Value} {d : DataW H} {p : List MemPlace} (ht : P.underlying t = some (.slice e)) (he : P.underlying e = some (.int .u32)) (hce : P.cellsOf e = 1)
    (hval : Value.okWide P w r b0 t v) (h : DataW.Trod enc P w base (fun _ => true) true t v d p) (hlt : ∀ x ∈ p, x.block < w.heap.size) :
    ∃ (A : Option Addr) (cap : Nat) (l : List Nat), v = .slice A l.length cap ∧ l.length ≤ cap ∧ cap ≤ maxLen ∧ Sl w w.heap.size A (u32s l) ∧ (∀ x ∈ l, x < 4294967296) ∧ (A = none → cap = 0) := by
  obtain ⟨A, cap, zs, e1, e2, e3, e4, e5, e6⟩ := ints_arg ht he hce hval h hlt
  obtain ⟨l, rfl, hl⟩ := nats_of (b := 4294967296) fun z hz => wf_nat32 (e5 z hz)
  refine ⟨A, cap, l, by rw [e1, List.length_map], by simpa using e2, e3, ?_, hl, e6⟩
  unfold u32s
  rw [List.map_map] at e4
  exact e4
theorem u32_cell {w : World} {B : Nat} {A : Option Addr} {l : List Nat} (h : Sl w B A (u32s l)) {k : Nat} (hk : k < l.length) : ∃ b o, A = some ⟨b, o, none⟩ ∧ b < B ∧ w.cell? ⟨b, o + k, none⟩ = some (.int .u32 ((l.getD k 0 : Nat) : Int)) := by
  obtain ⟨b, o, e, hb, hc⟩ := h.at_ (i := k) (by unfold u32s; rw [List.length_map]; exact hk)
  refine ⟨b, o, e, hb, ?_⟩
  rw [hc k (by unfold u32s; rw [List.length_map]; exact hk)]
  simp [u32s, List.getD_eq_getElem?_getD, List.getElem?_eq_getElem hk]
end Go.Proofs.Ytpaefpjggglmaaa
