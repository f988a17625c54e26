/- Numbers of four bytes, the lowest first, and bytes that are nought: plain. -/
import Derived.Test.YthdmghocfngfgaaLaw
import Derived.Test.YthdmghocfngfgaaBy
namespace Go.Proofs.Ythdmghocfngfgaa
open Go.RowKit

/-- The number in four bytes from k on. -/
def g4 (l : List Nat) (k : Nat) : Nat := l.getD k 0 + l.getD (k + 1) 0 * 256 + l.getD (k + 2) 0 * 65536 + l.getD (k + 3) 0 * 16777216
/-- A number's four bytes. -/
def le4 (x : Nat) : List Nat := [x % 256, x / 256 % 256, x / 65536 % 256, x / 16777216 % 256]
theorem g4_lt {l : List Nat} (hl : ∀ x ∈ l, x < 256) (k : Nat) : g4 l k < 4294967296 := by
  have := getB_lt hl k
  have := getB_lt hl (k + 1)
  have := getB_lt hl (k + 2)
  have := getB_lt hl (k + 3)
  unfold g4
  omega
theorem le4_lt (x : Nat) : ∀ c ∈ le4 x, c < 256 := by
  intro c hc
  simp only [le4, List.mem_cons, List.not_mem_nil, or_false] at hc
  omega
theorem le4_len (x : Nat) : (le4 x).length = 4 := rfl
theorem g4_le {x : Nat} (h : x < 4294967296) (a b : List Nat) : g4 (a ++ (le4 x ++ b)) a.length = x := by
  have e0 := getD_at (a := a) (b := le4 x ++ b) (k := 0)
  rw [Nat.add_zero] at e0
  unfold g4
  rw [e0, getD_at, getD_at, getD_at]
  simp only [le4, List.cons_append, List.nil_append, List.getD_cons_zero, List.getD_cons_succ]
  omega

/-- Whether all bytes are nought. -/
def blankB (l : List Nat) : Bool := l.all (· == 0)
theorem blank_take {l : List Nat} {k : Nat} (h : k < l.length) : blankB (l.take (k + 1)) = (blankB (l.take k) && l.getD k 0 == 0) := by
  unfold blankB
  rw [List.take_add_one, List.getElem?_eq_getElem h, List.getD_eq_getElem?_getD, List.getElem?_eq_getElem h, List.all_append]
  simp
theorem blank_no {l : List Nat} {k : Nat} (h : k < l.length) (hx : l.getD k 0 ≠ 0) : blankB l = false := by
  rw [List.getD_eq_getElem?_getD, List.getElem?_eq_getElem h] at hx
  unfold blankB
  rw [List.all_eq_false]
  exact ⟨l[k], List.getElem_mem h, by simpa using hx⟩
end Go.Proofs.Ythdmghocfngfgaa
