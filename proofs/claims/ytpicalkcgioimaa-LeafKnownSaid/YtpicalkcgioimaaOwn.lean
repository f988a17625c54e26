/- Rows of one's own: length and capacity. -/
import Derived.Test.YtpicalkcgioimaaApp
namespace Go.Proofs.Ytpicalkcgioimaa
open Go.RowKit

theorem byts_join (a b : List Nat) : byts a ++ byts b = byts (a ++ b) := by unfold byts; rw [List.map_append]
theorem own_none {w : World} {base : Nat} {e : TypeId} {size n c : Nat} {A : Option Addr} {xs : List Value} (h : w.ownsRow base e size (.slice A n c) n xs) : A = none → c = 0 := by
  rcases h.2 with ⟨h', _⟩ | ⟨g, cap, cur, h', _⟩
  · injection h' with _ _ hc; exact fun _ => hc
  · injection h' with h' _ _; intro h; rw [h] at h'; cases h'
theorem own_len {w : World} {base : Nat} {e : TypeId} {size n c : Nat} {A : Option Addr} {xs : List Value} (h : w.ownsRow base e size (.slice A n c) n xs) : n ≤ c := by
  rcases h.2 with ⟨h', hn⟩ | ⟨g, cap, cur, h', _, _, hnc, _⟩
  · omega
  · injection h' with _ _ hc; omega
end Go.Proofs.Ytpicalkcgioimaa
