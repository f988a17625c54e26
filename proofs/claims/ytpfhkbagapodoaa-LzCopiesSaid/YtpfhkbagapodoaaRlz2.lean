/- The document's Unpack. -/
import Derived.Test.YtpfhkbagapodoaaRlz
namespace Go.Proofs.Ytpfhkbagapodoaa
open Go.RowKit

/-- How Unpack ends: the bytes and the error. -/
def UnpR (R : List Nat × Nat) (w : World) (e : Ending) (w' : World) : Prop :=
  ∃ A c, e = .returned (.tuple #[.slice A R.1.length c, .int .i64 (R.2 : Int)]) ∧ By w' A c R.1 ∧ Below w.heap.size w w'
theorem unpR_no {R : List Nat × Nat} {w w' : World} {E : Nat} (h : R = ([], E)) (hb : Below w.heap.size w w') : UnpR R w (.returned (.tuple #[.slice none 0 0, .int .i64 (E : Int)])) w' := by
  subst h
  exact ⟨none, 0, rfl, By.none _, hb⟩
theorem unpR_ok {R : List Nat × Nat} {w w' : World} {o : List Nat} {A : Option Addr} {n c : Nat} (h : R = (o, 0)) (hm : Mine w w' A n c o) (hl : ∀ x ∈ o, x < 256) (hn : n ≤ 1000000) : UnpR R w (.returned (.tuple #[.slice A n c, .int .i64 0])) w' := by
  subst h
  have hlen := hm.len
  exact ⟨A, c, by rw [hlen]; rfl, By.of_own hm.own hl (by rw [hlen]; exact hn), hm.bel⟩
section
variable {A : Option Addr} {cap : Nat} {l : List Nat} {w : World} {B : Nat}
theorem radded_none (hl : ∀ x ∈ l, x < 256) (hlen : l.length ≤ 1000000) (k n : Nat) (z y : Int) (hz : z = (k : Int)) (hy : y = (n : Int)) (hk : k ≤ l.length) (hn : n < 16) (N : Nat) (hN : N = l.length) (hsl : Sl w B A (byts l)) (h : Lz.added (l.drop k) n = none) :
    Calls Try.prog 18 #[.slice A N cap, .int .i64 z, .int .i64 y] w fun e w' => (∃ u : Int, e = .returned (.tuple #[.int .i64 (-1), .int .i64 u])) ∧ w' = w := by
  subst hz; subst hy
  refine (radded_any A cap l hl hlen k n hk hn N hN hsl).mono ?_
  rintro e w' ⟨v, rfl, ⟨_, u, rfl⟩ | ⟨m, q, h', _⟩, rfl⟩
  · exact ⟨⟨u, rfl⟩, rfl⟩
  · rw [h] at h'; cases h'
theorem radded_some (hl : ∀ x ∈ l, x < 256) (hlen : l.length ≤ 1000000) (k n : Nat) (z y : Int) (hz : z = (k : Int)) (hy : y = (n : Int)) (hk : k ≤ l.length) (hn : n < 16) (N : Nat) (hN : N = l.length) (hsl : Sl w B A (byts l)) {m p : Nat} {q : List Nat} (h : Lz.added (l.drop k) n = some (m, q)) (hp : p = l.length - q.length) :
    Calls Try.prog 18 #[.slice A N cap, .int .i64 z, .int .i64 y] w fun e w' => e = .returned (.tuple #[.int .i64 (m : Int), .int .i64 (p : Int)]) ∧ w' = w := by
  subst hz; subst hy; subst hp
  refine (radded_any A cap l hl hlen k n hk hn N hN hsl).mono ?_
  rintro e w' ⟨v, rfl, ⟨h', _⟩ | ⟨m', q', h', rfl⟩, rfl⟩
  · rw [h] at h'; cases h'
  · rw [h] at h'
    injection h' with h'
    injection h' with h1 h2
    subst h1; subst h2
    exact ⟨rfl, rfl⟩
end
theorem and15 {t : Nat} (ht : t < 256) : bits BinOp.and IntKind.i64 (t : Int) 15 = ((t % 16 : Nat) : Int) := by
  have h : bits .and .i64 (t : Int) ((15 : Nat) : Int) = ((t &&& 15 : Nat) : Int) := by
    show IntKind.i64.wrap ((BitVec.ofInt 64 (t : Int) &&& BitVec.ofInt 64 ((15 : Nat) : Int)).toNat : Int) = _
    have hx : t &&& 15 ≤ 15 := Nat.and_le_right
    rw [BitVec.toNat_and, ofInt_i64 t (by omega), ofInt_i64 15 (by decide), IntKind.wrap_i64]
    omega
  rw [show (15 : Int) = ((15 : Nat) : Int) from rfl, h, show (15 : Nat) = 2 ^ 4 - 1 from rfl, Nat.and_two_pow_sub_one_eq_mod]
/-- Where added goes on. -/
theorem added_pos {l : List Nat} {k n m : Nat} {q : List Nat} (hk : k ≤ l.length) (h : Lz.added (l.drop k) n = some (m, q)) : q.length ≤ l.length - k ∧ q = l.drop (l.length - q.length) := by
  obtain ⟨h1, _, h3⟩ := Lz.added_len h
  rw [List.length_drop] at h1
  refine ⟨h1, ?_⟩
  rw [List.drop_drop, List.length_drop] at h3
  rw [show l.length - q.length = k + (l.length - k - q.length) by omega]
  exact h3
end Go.Proofs.Ytpfhkbagapodoaa
