/- How a function that unpacks ends: the bytes and the error. -/
import Derived.Test.YtpaefpjggglmaaaBy
namespace Go.Proofs.Ytpaefpjggglmaaa
open Go.RowKit

/-- How Unpack ends: the bytes and the error. -/
def UnpR (R : List Nat × Nat) (w : World) (e : Ending) (w' : World) : Prop :=
  ∃ A c, e = .returned (.tuple #[.slice A R.1.length c, .int .i64 (R.2 : Int)]) ∧ By w' A c R.1 ∧ Below w.heap.size w w'
theorem unpR_no {R : List Nat × Nat} {w w' : World} {E : Nat} (h : R = ([], E)) (hb : Below w.heap.size w w') : UnpR R w (.returned (.tuple #[.slice none 0 0, .int .i64 (E : Int)])) w' := by
  subst h
  exact ⟨none, 0, rfl, By.none _, hb⟩
theorem unpR_ok {R : List Nat × Nat} {w w' : World} {o : List Nat} {A : Option Addr} {n c : Nat} (h : R = (o, 0)) (hm : Mine w w' A n c o) (hl : ∀ x ∈ o, x < 256) (hn : n ≤ 1000000) : UnpR R w (.returned (.tuple #[.slice A n c, .int .i64 0])) w' := by
  subst h
  have hlen := hm.len
  exact ⟨A, c, by rw [hlen]; rfl, By.of_own hm.own hl (by rw [hlen]; exact hn), hm.bel⟩
/-- How Unpack ends where it gives the bytes. -/
theorem unpR_is {R : List Nat × Nat} {l : List Nat} {w w' : World} {e : Ending} (h : R = (l, 0)) (hu : UnpR R w e w') : ∃ A c, e = .returned (.tuple #[.slice A l.length c, .int .i64 0]) ∧ By w' A c l ∧ Below w.heap.size w w' := by
  subst h; exact hu
theorem unpR_err {R : List Nat × Nat} {E : Nat} {w w' : World} {e : Ending} (h : R = ([], E)) (hu : UnpR R w e w') : ∃ A c, e = .returned (.tuple #[.slice A 0 c, .int .i64 (E : Int)]) ∧ By w' A c [] ∧ Below w.heap.size w w' := by
  subst h; exact hu
end Go.Proofs.Ytpaefpjggglmaaa
