/- Bits of bytes; the first byte with a word (no walk). -/
import Derived.Test.YtnkgcibdibgmjaaRtable
import Derived.Test.YtnkgcibdibgmjaaBy
namespace Go.Proofs.Ytnkgcibdibgmjaa
open Go.RowKit

/-- Whether byte i has the word. -/
def hit (l w : List Int) (k word i : Nat) : Bool := l.getD i 0 == (k : Int) && w.getD i 0 == (word : Int)
def findK (l w : List Int) (k word i : Nat) : Option Nat := (List.range i).find? (hit l w k word)
theorem findK_zero (l w : List Int) (k word : Nat) : findK l w k word 0 = none := rfl
theorem findK_miss {l w : List Int} {k word i : Nat} (h : findK l w k word i = none) (h2 : hit l w k word i = false) : findK l w k word (i + 1) = none := by
  unfold findK at *
  rw [List.range_succ, List.find?_append, h, List.find?_singleton, h2]; rfl
theorem findK_hit {l w : List Int} {k word i : Nat} (h : findK l w k word i = none) (h2 : hit l w k word i = true) : ∀ j, i < j → findK l w k word j = some i := by
  intro j hj
  obtain ⟨m, rfl⟩ : ∃ m, j = (i + 1) + m := ⟨j - (i + 1), by omega⟩
  unfold findK at *
  rw [List.range_add, List.find?_append, List.range_succ, List.find?_append, h, List.find?_singleton, h2]; rfl
theorem findS_is (l w : List Int) (k word : Nat) : Wd.findS l w k word = findK l w k word 256 := rfl

theorem bitsB_len (l : List Nat) : (Wd.bitsB l).length = 8 * l.length := by
  unfold Wd.bitsB
  induction l with
  | nil => rfl
  | cons x l ih => rw [List.flatMap_cons, List.length_append, ih, List.length_cons]; unfold Wd.bits8; simp; omega
theorem bits8_at (x : Nat) {r : Nat} (hr : r < 8) : (Wd.bits8 x).getD r 0 = x / 2 ^ (7 - r) % 2 := by
  have : r = 0 ∨ r = 1 ∨ r = 2 ∨ r = 3 ∨ r = 4 ∨ r = 5 ∨ r = 6 ∨ r = 7 := by omega
  rcases this with rfl | rfl | rfl | rfl | rfl | rfl | rfl | rfl <;> simp [Wd.bits8]
theorem bitsB_at : ∀ (l : List Nat) (q r : Nat), r < 8 → q < l.length → (Wd.bitsB l).getD (8 * q + r) 0 = l.getD q 0 / 2 ^ (7 - r) % 2
  | [], q, r, _, h => by simp at h
  | x :: l, q, r, hr, h => by
    have e : Wd.bitsB (x :: l) = Wd.bits8 x ++ Wd.bitsB l := rfl
    have h8 : (Wd.bits8 x).length = 8 := rfl
    cases q with
    | zero =>
      rw [e, List.getD_eq_getElem?_getD, List.getElem?_append_left (by rw [h8]; omega), ← List.getD_eq_getElem?_getD, Nat.mul_zero, Nat.zero_add, bits8_at x hr]
      rfl
    | succ q =>
      have ih := bitsB_at l q r hr (by simpa using h)
      rw [e, List.getD_eq_getElem?_getD, List.getElem?_append_right (by rw [h8]; omega), h8, show 8 * (q + 1) + r - 8 = 8 * q + r by omega, ← List.getD_eq_getElem?_getD, ih]
      rfl
theorem bits_next {l : List Nat} {p : Nat} (h : p < 8 * l.length) : (Wd.bitsB l).drop p = (l.getD (p / 8) 0 / 2 ^ (7 - p % 8) % 2) :: (Wd.bitsB l).drop (p + 1) := by
  have hl := bitsB_len l
  rw [List.drop_eq_getElem_cons (by omega)]
  have := bitsB_at l (p / 8) (p % 8) (Nat.mod_lt _ (by decide)) (by omega)
  rw [show 8 * (p / 8) + p % 8 = p by omega, List.getD_eq_getElem?_getD, List.getElem?_eq_getElem (by omega), Option.getD_some] at this
  rw [this]
theorem bits_end {l : List Nat} {p : Nat} (h : 8 * l.length ≤ p) : (Wd.bitsB l).drop p = [] := List.drop_eq_nil_of_le (by rw [bitsB_len]; exact h)
theorem bits_drop : ∀ (l : List Nat) (a : Nat), Wd.bitsB (l.drop a) = (Wd.bitsB l).drop (8 * a)
  | l, 0 => rfl
  | [], a + 1 => by simp [Wd.bitsB]
  | x :: l, a + 1 => by
    rw [List.drop_succ_cons, bits_drop l a, show Wd.bitsB (x :: l) = Wd.bits8 x ++ Wd.bitsB l from rfl, show 8 * (a + 1) = (Wd.bits8 x).length + 8 * a by rw [show (Wd.bits8 x).length = 8 from rfl]; omega, List.drop_append, List.drop_eq_nil_of_le (Nat.le_add_right _ _), Nat.add_sub_cancel_left, List.nil_append]
/-- The bit that the statements cut out of a byte. -/
theorem and1_i64 {y : Nat} (hy : y < 256) : bits BinOp.and IntKind.i64 (y : Int) 1 = ((y % 2 : Nat) : Int) := by
  have h : bits .and .i64 (y : Int) ((1 : Nat) : Int) = ((y &&& 1 : Nat) : Int) := by
    show IntKind.i64.wrap ((BitVec.ofInt 64 (y : Int) &&& BitVec.ofInt 64 ((1 : Nat) : Int)).toNat : Int) = _
    have hx : y &&& 1 ≤ 1 := Nat.and_le_right
    rw [BitVec.toNat_and, ofInt_i64 y (by omega), ofInt_i64 1 (by decide), IntKind.wrap_i64]
    omega
  rw [show (1 : Int) = ((1 : Nat) : Int) from rfl, h, Nat.and_one_is_mod]
theorem and1_u8 {y : Nat} (hy : y < 256) : bits BinOp.and IntKind.u8 (y : Int) 1 = ((y % 2 : Nat) : Int) := by
  have h' : ∀ z : Nat, z < 256 → bits BinOp.and IntKind.u8 (z : Int) 1 = ((z % 2 : Nat) : Int) := by decide +kernel
  exact h' y hy
theorem shr_nat (x e : Nat) : (x : Int) / 2 ^ e = ((x / 2 ^ e : Nat) : Int) := by simp
theorem bit_i64 {x : Nat} (hx : x < 256) (e : Nat) : bits BinOp.and IntKind.i64 (wrap64 ((x : Int) / 2 ^ e)) 1 = ((x / 2 ^ e % 2 : Nat) : Int) := by
  have h := Nat.div_le_self x (2 ^ e)
  rw [shr_nat]
  generalize x / 2 ^ e = y at *
  rw [show wrap64 ((y : Nat) : Int) = ((y : Nat) : Int) by unfold wrap64; omega]
  exact and1_i64 (by omega)
theorem bit_u8 {x : Nat} (hx : x < 256) (e : Nat) : bits BinOp.and IntKind.u8 ((x : Int) / 2 ^ e) 1 = ((x / 2 ^ e % 2 : Nat) : Int) := by
  have h := Nat.div_le_self x (2 ^ e)
  rw [shr_nat]
  generalize x / 2 ^ e = y at *
  exact and1_u8 (by omega)
theorem pow_next {word bt wd2 k : Nat} (h1 : word + 1 ≤ 2 ^ (k - 1)) (h2 : bt < 2) (h3 : wd2 = word * 2 + bt) (hk : 1 ≤ k) : wd2 + 1 ≤ 2 ^ k := by
  obtain ⟨k1, rfl⟩ : ∃ k1, k = k1 + 1 := ⟨k - 1, by omega⟩
  rw [Nat.add_sub_cancel] at h1
  rw [Nat.pow_succ]
  omega
theorem or_bit {a b : Nat} (ha : a < 1000000) (hb : b < 2) : bits BinOp.or IntKind.i64 ((a : Int) * 2) (b : Int) = ((a * 2 + b : Nat) : Int) := by
  have e : (a : Int) * 2 = ((a * 2 : Nat) : Int) := by omega
  rw [e, i64_or_nat _ _ (by omega) (by omega)]
  have := Nat.two_pow_add_eq_or_of_lt (i := 1) (b := b) (by omega) a
  rw [show a * 2 = 2 ^ 1 * a by omega, this]
end Go.Proofs.Ytnkgcibdibgmjaa
