/- The statements' Counts. -/
import Derived.Test.YtpaefpjggglmaaaRcost
import Derived.Test.YtpaefpjggglmaaaU32
namespace Go.Proofs.Ytpaefpjggglmaaa
open Go.RowKit

/-- The counts of the first k words. -/
def countsK (l : List Nat) (k : Nat) : List Int := (List.range 256).map fun i => if i < k ∧ i < l.length then ((l.getD i 0 % 1048576 : Nat) : Int) else 0
def countsL (l : List Nat) : List Int := countsK l 256
theorem countsK_len (l : List Nat) (k : Nat) : (countsK l k).length = 256 := by simp [countsK]
theorem countsK_at (l : List Nat) (k : Nat) {i : Nat} (h : i < 256) : (countsK l k).getD i 0 = if i < k ∧ i < l.length then ((l.getD i 0 % 1048576 : Nat) : Int) else 0 := by
  unfold countsK
  rw [List.getD_eq_getElem?_getD, List.getElem?_map, List.getElem?_range h]
  rfl
theorem countsK_zero (l : List Nat) : countsK l 0 = List.replicate 256 0 := by
  unfold countsK
  rw [List.eq_replicate_iff]
  refine ⟨by simp, fun b hb => ?_⟩
  obtain ⟨i, _, rfl⟩ := List.mem_map.1 hb
  rw [if_neg (by omega)]
theorem ints_set (l : List Int) (k : Nat) (z : Int) : (ints l).setIfInBounds k (.int .i64 z) = ints (l.set k z) := by
  unfold ints
  rw [List.setIfInBounds_toArray, List.map_set]
theorem countsK_next (l : List Nat) {k : Nat} (hk : k < 256) (hl : k < l.length) : (countsK l k).set k ((l.getD k 0 % 1048576 : Nat) : Int) = countsK l (k + 1) := by
  apply List.ext_getElem?
  intro j
  rcases Nat.lt_or_ge j 256 with hj | hj
  · unfold countsK
    rw [List.getElem?_set, List.getElem?_map, List.getElem?_map, List.getElem?_range hj]
    by_cases e : k = j
    · subst e
      simp [hk, hl]
    · rw [if_neg e]
      by_cases h1 : j < k
      · simp [h1, show j < k + 1 by omega]
      · simp [h1, show ¬ j < k + 1 by omega]
  · rw [List.getElem?_eq_none (by rw [List.length_set, countsK_len]; exact hj), List.getElem?_eq_none (by rw [countsK_len]; exact hj)]
theorem countsK_more (l : List Nat) {k : Nat} (h : ¬ (k < l.length ∧ k < 256)) : countsK l k = countsL l := by
  unfold countsL countsK
  refine List.map_congr_left fun i hi => ?_
  have hi' : i < 256 := by simpa using hi
  by_cases h1 : i < k ∧ i < l.length
  · rw [if_pos h1, if_pos ⟨hi', h1.2⟩]
  · rw [if_neg h1]
    by_cases h2 : i < 256 ∧ i < l.length
    · omega
    · rw [if_neg h2]
theorem and20 {x : Nat} (hx : x < 4294967296) : bits BinOp.and IntKind.u32 (x : Int) 1048575 = ((x % 1048576 : Nat) : Int) := by
  have h : bits .and .u32 (x : Int) ((1048575 : Nat) : Int) = ((x &&& 1048575 : Nat) : Int) := u32_and_nat x 1048575 hx (by decide)
  rw [show (1048575 : Int) = ((1048575 : Nat) : Int) from rfl, h, show (1048575 : Nat) = 2 ^ 20 - 1 from rfl, Nat.and_two_pow_sub_one_eq_mod]

end Go.Proofs.Ytpaefpjggglmaaa
