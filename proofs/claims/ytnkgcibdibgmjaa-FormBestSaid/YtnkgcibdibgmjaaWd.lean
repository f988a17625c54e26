/- Canonical codes: the words, the table of lengths, what coded bytes say (no walk). -/
import Derived.Test.YtnkgcibdibgmjaaDepc
namespace Go.Proofs.Ytnkgcibdibgmjaa.Wd
open Go.RowKit

/-- How many of the first k lengths are n. -/
def cnt (l : List Int) (n k : Nat) : Nat := (l.take k).countP fun x => x == (n : Int)
/-- The first word of length n + 1. -/
def first (l : List Int) : Nat → Nat
  | 0 => 0
  | n + 1 => (first l n + cnt l (n + 1) 256) * 2
/-- The word of byte i. -/
def codeV (l : List Int) (i : Nat) : Nat := first l ((l.getD i 0).toNat - 1) + cnt l (l.getD i 0).toNat i
/-- The words that are there when length n is at byte i. -/
def asg (l : List Int) (n i : Nat) : List Int := (List.range 256).map fun j => if 1 ≤ l.getD j 0 ∧ (l.getD j 0 < (n : Int) ∨ l.getD j 0 = (n : Int) ∧ j < i) then ((codeV l j : Nat) : Int) else 0
def codes (l : List Int) : List Int := asg l 12 0
theorem asg_len (l : List Int) (n i : Nat) : (asg l n i).length = 256 := by simp [asg]
theorem asg_at (l : List Int) (n i : Nat) {j : Nat} (h : j < 256) : (asg l n i).getD j 0 = if 1 ≤ l.getD j 0 ∧ (l.getD j 0 < (n : Int) ∨ l.getD j 0 = (n : Int) ∧ j < i) then ((codeV l j : Nat) : Int) else 0 := by
  unfold asg
  rw [List.getD_eq_getElem?_getD, List.getElem?_map, List.getElem?_range h]
  rfl
theorem list_ext {a b : List Int} (ha : a.length = 256) (hb : b.length = 256) (h : ∀ j, j < 256 → a.getD j 0 = b.getD j 0) : a = b := by
  apply List.ext_getElem?
  intro j
  rcases Nat.lt_or_ge j 256 with hj | hj
  · have := h j hj
    rw [List.getD_eq_getElem?_getD, List.getD_eq_getElem?_getD, List.getElem?_eq_getElem (by omega), List.getElem?_eq_getElem (by omega)] at this
    rw [List.getElem?_eq_getElem (by omega), List.getElem?_eq_getElem (by omega)]
    simpa using this
  · rw [List.getElem?_eq_none (by omega), List.getElem?_eq_none (by omega)]
theorem getD_set (l : List Int) (i : Nat) (v : Int) {j : Nat} (hi : i < l.length) : (l.set i v).getD j 0 = if i = j then v else l.getD j 0 := by
  rw [List.getD_eq_getElem?_getD, List.getElem?_set]
  by_cases h : i = j
  · subst h; rw [if_pos rfl, if_pos hi, if_pos rfl]; rfl
  · rw [if_neg h, if_neg h, List.getD_eq_getElem?_getD]
theorem asg_zero (l : List Int) : asg l 1 0 = List.replicate 256 0 := by
  refine list_ext (asg_len _ _ _) List.length_replicate fun j hj => ?_
  rw [asg_at _ _ _ hj, if_neg (by omega), List.getD_eq_getElem?_getD, List.getElem?_replicate, if_pos hj]; rfl
theorem asg_hit {l : List Int} {n i : Nat} (hn : 1 ≤ n) (hi : i < 256) (h : l.getD i 0 = (n : Int)) : asg l n (i + 1) = (asg l n i).set i ((first l (n - 1) + cnt l n i : Nat) : Int) := by
  refine list_ext (asg_len _ _ _) (by rw [List.length_set, asg_len]) fun j hj => ?_
  rw [getD_set _ _ _ (by rw [asg_len]; exact hi), asg_at _ _ _ hj, asg_at _ _ _ hj]
  by_cases hij : i = j
  · subst hij
    rw [if_pos rfl, if_pos ⟨by omega, .inr ⟨h, by omega⟩⟩]
    unfold codeV
    rw [h, Int.toNat_natCast]
  · rw [if_neg hij]
    by_cases hc : 1 ≤ l.getD j 0 ∧ (l.getD j 0 < (n : Int) ∨ l.getD j 0 = (n : Int) ∧ j < i)
    · rw [if_pos hc, if_pos ⟨hc.1, hc.2.imp id fun h => ⟨h.1, by omega⟩⟩]
    · rw [if_neg hc, if_neg fun h' => hc ⟨h'.1, h'.2.imp id fun h => ⟨h.1, by omega⟩⟩]
theorem asg_miss {l : List Int} {n i : Nat} (h : l.getD i 0 ≠ (n : Int)) : asg l n (i + 1) = asg l n i := by
  refine list_ext (asg_len _ _ _) (asg_len _ _ _) fun j hj => ?_
  rw [asg_at _ _ _ hj, asg_at _ _ _ hj]
  by_cases hij : j = i
  · subst hij
    by_cases hc : 1 ≤ l.getD j 0 ∧ l.getD j 0 < (n : Int)
    · rw [if_pos ⟨hc.1, .inl hc.2⟩, if_pos ⟨hc.1, .inl hc.2⟩]
    · rw [if_neg fun h' => hc ⟨h'.1, h'.2.resolve_right fun hh => h hh.1⟩, if_neg fun h' => hc ⟨h'.1, h'.2.resolve_right fun hh => h hh.1⟩]
  · by_cases hc : 1 ≤ l.getD j 0 ∧ (l.getD j 0 < (n : Int) ∨ l.getD j 0 = (n : Int) ∧ j < i)
    · rw [if_pos hc, if_pos ⟨hc.1, hc.2.imp id fun h => ⟨h.1, by omega⟩⟩]
    · rw [if_neg hc, if_neg fun h' => hc ⟨h'.1, h'.2.imp id fun h => ⟨h.1, by omega⟩⟩]
theorem asg_pass (l : List Int) (n : Nat) : asg l n 256 = asg l (n + 1) 0 := by
  refine list_ext (asg_len _ _ _) (asg_len _ _ _) fun j hj => ?_
  rw [asg_at _ _ _ hj, asg_at _ _ _ hj]
  by_cases hc : 1 ≤ l.getD j 0 ∧ l.getD j 0 < ((n + 1 : Nat) : Int)
  · rw [if_pos ⟨hc.1, by omega⟩, if_pos ⟨hc.1, .inl hc.2⟩]
  · rw [if_neg (by omega), if_neg (by omega)]
theorem cnt_hit {l : List Int} {n i : Nat} (hi : i < l.length) (h : l.getD i 0 = (n : Int)) : cnt l n (i + 1) = cnt l n i + 1 := by
  unfold cnt
  rw [take_snoc hi, List.countP_append, h]
  simp
theorem cnt_miss {l : List Int} {n i : Nat} (hi : i < l.length) (h : l.getD i 0 ≠ (n : Int)) : cnt l n (i + 1) = cnt l n i := by
  unfold cnt
  rw [take_snoc hi, List.countP_append]
  have : (l.getD i 0 == (n : Int)) = false := by rw [beq_eq_false_iff_ne]; exact h
  rw [List.countP_cons, this]
  rfl
theorem cnt_le (l : List Int) (n k : Nat) : cnt l n k ≤ k := by
  unfold cnt
  exact Nat.le_trans List.countP_le_length (by rw [List.length_take]; omega)
theorem first_le (l : List Int) : ∀ n, first l n + 512 ≤ 512 * 2 ^ n
  | 0 => by simp [first]
  | n + 1 => by
    have ih := first_le l n
    have hc := cnt_le l (n + 1) 256
    unfold first
    rw [Nat.pow_succ]
    omega

/-- The table: the error (0: none), the lengths, what is left. -/
def rdT : List Nat → List Int → Nat × List Int × List Nat
  | [], acc => if acc.length = 256 then (0, acc, []) else (2, [], [])
  | x :: r, acc => if acc.length = 256 then (0, acc, x :: r) else if 11 < x / 16 ∨ 256 < acc.length + (x % 16 + 1) then (4, [], []) else rdT r (acc ++ List.replicate (x % 16 + 1) ((x / 16 : Nat) : Int))
/-- Whether the last length above nought is one. -/
def oneK (l : List Int) : Nat → Bool
  | 0 => false
  | k + 1 => if 0 < l.getD k 0 then l.getD k 0 == 1 else oneK l k
def usedN (l : List Int) : Nat → Nat
  | 0 => 0
  | k + 1 => if 0 < l.getD k 0 then usedN l k + 1 else usedN l k
def badT (l : List Int) : Bool := decide (2048 < ksum l) || (decide (ksum l < 2048) && !(usedN l 256 == 0 || (usedN l 256 == 1 && oneK l 256)))
def table (b : List Nat) : Nat × List Int × List Nat := if (rdT b []).1 = 0 then if badT (rdT b []).2.1 then (4, [], []) else rdT b [] else ((rdT b []).1, [], [])
/-- The bits of a byte, of bytes. -/
def bits8 (x : Nat) : List Nat := [x / 128 % 2, x / 64 % 2, x / 32 % 2, x / 16 % 2, x / 8 % 2, x / 4 % 2, x / 2 % 2, x % 2]
def bitsB (l : List Nat) : List Nat := l.flatMap bits8
def findS (l w : List Int) (k word : Nat) : Option Nat := (List.range 256).find? fun i => l.getD i 0 == (k : Int) && w.getD i 0 == (word : Int)
/-- A word: the error, the byte, the bits that are left. -/
def rdW (l w : List Int) (many : Nat) : Nat → Nat → Nat → List Nat → Nat × Nat × List Nat
  | 0, _, _, _ => (4, 0, [])
  | _ + 1, _, _, [] => (2, 0, [])
  | f + 1, k, word, b :: bs =>
    match findS l w k (word * 2 + b) with
    | some i => (0, i, bs)
    | none => if many = 1 then (4, 0, []) else rdW l w many f (k + 1) (word * 2 + b) bs
def rdAll (l w : List Int) (many : Nat) : Nat → List Nat → List Nat → Nat × List Nat × List Nat
  | 0, bs, acc => (0, acc, bs)
  | n + 1, bs, acc => if many = 0 then (4, [], []) else if (rdW l w many 11 1 0 bs).1 = 0 then rdAll l w many n (rdW l w many 11 1 0 bs).2.2 (acc ++ [(rdW l w many 11 1 0 bs).2.1]) else ((rdW l w many 11 1 0 bs).1, [], [])
def endV (bs acc : List Nat) : List Nat × Nat := if 8 ≤ bs.length then ([], 3) else if bs.any (· == 1) then ([], 4) else (acc, 0)
def body (l : List Int) (n : Nat) (bs : List Nat) : List Nat × Nat :=
  if (rdAll l (codes l) (usedN l 256) n bs []).1 = 0 then endV (rdAll l (codes l) (usedN l 256) n bs []).2.2 (rdAll l (codes l) (usedN l 256) n bs []).2.1 else ([], (rdAll l (codes l) (usedN l 256) n bs []).1)
/-- Unpack. -/
def unpack (b : List Nat) (n : Int) : List Nat × Nat :=
  if n < 0 ∨ 4096 < n then ([], 1) else if (table b).1 = 0 then body (table b).2.1 n.toNat (bitsB (table b).2.2) else ([], (table b).1)
end Go.Proofs.Ytnkgcibdibgmjaa.Wd
