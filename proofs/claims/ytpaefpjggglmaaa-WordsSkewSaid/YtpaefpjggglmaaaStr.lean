/- Bytes as strings: what string(b) gives, for any slice of bytes; constants []byte("..") . -/
import Derived.Test.YtpaefpjggglmaaaLaw
import Derived.Test.YtpaefpjggglmaaaChecked
import Derived.Laws.BytesArg
import Derived.Shelf.Bytes.SlSmallAll
import Derived.Lib.SlBytesConst
import Derived.WalkKit
import Derived.Test.YtpaefpjggglmaaaApp
namespace Go.Proofs.Ytpaefpjggglmaaa
open Go.RowKit

/-- Bytes as a string. -/
def bstr (l : List Nat) : ByteArray := strOfNums (l.map fun n : Nat => (n : Int))
theorem bstr_inj {l l' : List Nat} (h : ∀ x ∈ l, x < 256) (h' : ∀ x ∈ l', x < 256) (e : bstr l = bstr l') : l = l' := by
  have : (bstr l).data.toList = (bstr l').data.toList := by rw [e]
  unfold bstr at this
  rw [strOfNums_data, strOfNums_data, List.map_map, List.map_map] at this
  have inj : ∀ (l l' : List Nat), (∀ x ∈ l, x < 256) → (∀ x ∈ l', x < 256) → l.map (fun n => UInt8.ofNat n) = l'.map (fun n => UInt8.ofNat n) → l = l' := by
    intro l
    induction l with
    | nil => intro l' _ _ e; cases l' with
      | nil => rfl
      | cons => simp at e
    | cons a l ih =>
      intro l' h h' e
      cases l' with
      | nil => simp at e
      | cons b l' =>
        simp only [List.map_cons, List.cons.injEq] at e
        have ha := h a (List.mem_cons_self ..)
        have hb := h' b (List.mem_cons_self ..)
        have e1 : a = b := by
          have := congrArg UInt8.toNat e.1
          simp only [UInt8.toNat_ofNat'] at this
          omega
        rw [e1, ih l' (fun x hx => h x (List.mem_cons_of_mem _ hx)) (fun x hx => h' x (List.mem_cons_of_mem _ hx)) e.2]
  exact inj l l' h h' this
theorem conv_b {w : World} {B : Nat} {A : Option Addr} {cap : Nat} {l : List Nat} (h : Sl w B A (byts l)) : (convert 22 9 (.slice A l.length cap)).run Try.prog w = .ok (.string (bstr l)) w := by
  rcases h with h0 | ⟨b, o, rfl, _, hc⟩
  · have : l = [] := by cases l with
      | nil => rfl
      | cons a r => simp [byts] at h0
    subst this
    exact run_convert_bytes_zero w 22 5 Try.underlying22 Try.underlying5 A cap _ Try.underlying9
  · refine run_convert_bytes_arg (P := Try.prog) w 22 5 Try.underlying22 Try.underlying5 b o l.length cap (l.map fun n : Nat => (n : Int)) (by simp) (fun i hi => ?_) _ Try.underlying9
    rw [hc i (by rw [byts_length]; exact hi)]
    simp [byts, List.getD, hi]
/-- A constant of bytes that was just made. -/
theorem run_const {w : World} {C : Array Value} {n c g : Nat} (hg : g = w.heap.size) :
    (convert 22 22 (.slice (some ⟨g, 0, none⟩) n c)).run Try.prog (w.alloc (.cells C 5)) = .ok (.slice (some ⟨g, 0, none⟩) n c) (w.alloc (.cells C 5 (C.size, C.size + 1))) := by
  subst hg
  exact Lib.run_convert_bytes_const w _ _ C n c Try.underlying22 Try.underlying5
/-- Bytes that were just laid. -/
theorem sl_cells {w : World} {cs : Array Value} {l : List Nat} (h : cs = (byts l).toArray) : Sl (w.alloc (.cells cs 5)) (w.heap.size + 1) (some ⟨w.heap.size, 0, none⟩) (byts l) := .inr ⟨w.heap.size, 0, rfl, by omega, fun i hi => by
  rw [Nat.zero_add, cell_fresh rfl, h]; simp [List.getElem?_eq_getElem hi]⟩
end Go.Proofs.Ytpaefpjggglmaaa
