/- Bytes changed within four of them, plain: the checksum tells. -/
import Derived.Test.YthdmghocfngfgaaCrc
import Derived.Test.YthdmghocfngfgaaLaw
import Derived.Test.YthdmghocfngfgaaLe0
namespace Go.Proofs.Ythdmghocfngfgaa
open Go.RowKit Crc

/-- The list with j bytes changed, from k on. -/
def upd (l : List Nat) (k m : Nat) : Nat → List Nat
  | 0 => l
  | j + 1 => (upd l k m j).set (k + j) ((upd l k m j).getD (k + j) 0 ^^^ m / 2 ^ (8 * j) % 256)
theorem upd_length (l : List Nat) (k m : Nat) : ∀ j, (upd l k m j).length = l.length
  | 0 => rfl
  | j + 1 => by rw [upd, List.length_set]; exact upd_length l k m j
theorem upd_bytes {l : List Nat} (hl : ∀ x ∈ l, x < 256) (k m : Nat) : ∀ j, ∀ x ∈ upd l k m j, x < 256
  | 0 => hl
  | j + 1 => by
    intro x hx
    rcases List.mem_or_eq_of_mem_set hx with h | h
    · exact upd_bytes hl k m j x h
    · subst h
      have h1 : (upd l k m j).getD (k + j) 0 < 256 := by
        rw [List.getD_eq_getElem?_getD]
        cases e : (upd l k m j)[k + j]? with
        | none => decide
        | some y => exact upd_bytes hl k m j y (List.mem_of_getElem? e)
      exact Nat.xor_lt_two_pow (n := 8) h1 (Nat.mod_lt _ (by decide))
theorem upd_lt {l : List Nat} (hl : ∀ x ∈ l, x < 256) (k m j i : Nat) : (upd l k m j).getD i 0 < 256 := by
  rw [List.getD_eq_getElem?_getD]
  cases e : (upd l k m j)[i]? with
  | none => decide
  | some y => exact upd_bytes hl k m j y (List.mem_of_getElem? e)
theorem xor_val {x : Nat} (hx : x < 256) (y e : Nat) : bits BinOp.xor IntKind.u8 (x : Int) ((y : Int) / 2 ^ e % 256) = ((x ^^^ y / 2 ^ e % 256 : Nat) : Int) := by
  have h : (y : Int) / 2 ^ e % 256 = ((y / 2 ^ e % 256 : Nat) : Int) := by simp
  rw [h, u8_xor_nat _ _ hx (Nat.mod_lt _ (by decide))]

theorem parts4 {l : List Nat} {k : Nat} (h : k + 4 ≤ l.length) : ∃ pre x0 x1 x2 x3 post, l = pre ++ ([x0, x1, x2, x3] ++ post) ∧ pre.length = k := by
  refine ⟨l.take k, l[k], l[k + 1], l[k + 2], l[k + 3], l.drop (k + 4), ?_, by simp; omega⟩
  have e : l.drop k = [l[k], l[k + 1], l[k + 2], l[k + 3]] ++ l.drop (k + 4) := by
    rw [List.drop_eq_getElem_cons (by omega), List.drop_eq_getElem_cons (i := k + 1) (by omega), List.drop_eq_getElem_cons (i := k + 1 + 1) (by omega), List.drop_eq_getElem_cons (i := k + 1 + 1 + 1) (by omega)]
    rfl
  rw [← e, List.take_append_drop]

theorem upd_parts (pre post : List Nat) (x0 x1 x2 x3 m : Nat) :
    upd (pre ++ ([x0, x1, x2, x3] ++ post)) pre.length m 4 = pre ++ ([x0 ^^^ m / 2 ^ 0 % 256, x1 ^^^ m / 2 ^ 8 % 256, x2 ^^^ m / 2 ^ 16 % 256, x3 ^^^ m / 2 ^ 24 % 256] ++ post) := by
  simp [upd, List.getD]

theorem upd_sum {l : List Nat} (hl : ∀ x ∈ l, x < 256) {k m : Nat} (hk : k + 4 ≤ l.length) (h0 : 0 < m) (hm : m < 4294967296) : (((sum l : Nat) : Int) != ((sum (upd l k m 4) : Nat) : Int)) = true := by
  obtain ⟨pre, x0, x1, x2, x3, post, rfl, rfl⟩ := parts4 hk
  rw [upd_parts]
  have h := tells (pre := pre) (post := post) (x0 := x0) (x1 := x1) (x2 := x2) (x3 := x3) (m0 := m / 2 ^ 0 % 256) (m1 := m / 2 ^ 8 % 256) (m2 := m / 2 ^ 16 % 256) (m3 := m / 2 ^ 24 % 256)
    (Nat.mod_lt _ (by decide)) (Nat.mod_lt _ (by decide)) (Nat.mod_lt _ (by decide)) (Nat.mod_lt _ (by decide)) (fun c hc => hl c (by simp [hc])) (by omega)
  simp only [bne_iff_ne, ne_eq]
  omega


theorem upd_right (P Q : List Nat) (a m : Nat) (h : a + 4 ≤ Q.length) : upd (P ++ Q) (P.length + a) m 4 = P ++ upd Q a m 4 := by
  obtain ⟨pre, x0, x1, x2, x3, post, rfl, rfl⟩ := parts4 h
  rw [upd_parts, ← List.append_assoc, ← List.length_append, upd_parts, List.append_assoc]
theorem upd_left (P Q : List Nat) (a m : Nat) (h : a + 4 ≤ P.length) : upd (P ++ Q) a m 4 = upd P a m 4 ++ Q := by
  obtain ⟨pre, x0, x1, x2, x3, post, rfl, rfl⟩ := parts4 h
  rw [upd_parts, List.append_assoc, List.append_assoc, upd_parts, List.append_assoc, List.append_assoc]
theorem upd_ne {l : List Nat} (hl : ∀ x ∈ l, x < 256) {k m : Nat} (hk : k + 4 ≤ l.length) (h0 : 0 < m) (hm : m < 4294967296) : sum l ≠ sum (upd l k m 4) := by
  have := upd_sum hl hk h0 hm
  simp only [bne_iff_ne, ne_eq] at this
  omega
end Go.Proofs.Ythdmghocfngfgaa
