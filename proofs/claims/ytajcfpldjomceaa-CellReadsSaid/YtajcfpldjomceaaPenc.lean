/- The bytes that a series of parts is written as; what is read from them, whole, cut short, and with more behind. -/
import Derived.Test.YtajcfpldjomceaaParts4
import Derived.Test.YtajcfpldjomceaaCknown
namespace Go.Proofs.Ytajcfpldjomceaa
open Go.RowKit Vint

/-- A number as the statement cuts it. -/
def m28 (n : Int) : Nat := (n % 268435456).toNat
theorem m28_lt (n : Int) : m28 n < 268435456 := by unfold m28; omega
theorem m28_int (n : Int) : ((m28 n : Nat) : Int) = n % 268435456 := by unfold m28; omega
/-- A part's bytes. -/
def pe (p : Part) : List Nat := if p.d = 2 then vint p.b.length ++ p.b else vint (m28 p.n)
def penc (l : List Part) : List Nat := l.flatMap pe
theorem penc_drop {l : List Part} {j : Nat} (h : j < l.length) : penc (l.drop j) = pe l[j] ++ penc (l.drop (j + 1)) := by
  unfold penc; rw [List.drop_eq_getElem_cons h, List.flatMap_cons]
theorem penc_take {l : List Part} {j : Nat} (h : j < l.length) : penc (l.take (j + 1)) = penc (l.take j) ++ pe l[j] := by
  unfold penc
  rw [List.take_succ_eq_append_getElem h, List.flatMap_append]
  simp
theorem pe_len {p : Part} (h : p.b.length ≤ 500) : 1 ≤ (pe p).length ∧ (pe p).length ≤ 504 := by
  unfold pe
  by_cases h2 : p.d = 2
  · rw [if_pos h2, List.length_append]
    have := vint_len (x := p.b.length) (by omega)
    have := vint_pos p.b.length
    omega
  · rw [if_neg h2]
    have := vint_len (m28_lt p.n)
    have := vint_pos (m28 p.n)
    omega
theorem penc_len : ∀ {l : List Part}, (∀ p ∈ l, p.b.length ≤ 500) → l.length ≤ (penc l).length ∧ (penc l).length ≤ 504 * l.length
  | [], _ => by simp [penc]
  | p :: l, h => by
    have h1 := pe_len (h p (List.mem_cons_self ..))
    have h2 := penc_len (l := l) fun q hq => h q (List.mem_cons_of_mem _ hq)
    unfold penc at h2 ⊢
    rw [List.flatMap_cons, List.length_append, List.length_cons]
    omega
theorem pe_byte {p : Part} (h : ∀ x ∈ p.b, x < 256) : ∀ x ∈ pe p, x < 256 := by
  unfold pe
  by_cases h2 : p.d = 2
  · rw [if_pos h2]
    intro x hx
    rcases List.mem_append.1 hx with hx | hx
    · exact vint_byte _ x hx
    · exact h x hx
  · rw [if_neg h2]; exact vint_byte _
theorem penc_byte {l : List Part} (h : ∀ p ∈ l, ∀ x ∈ p.b, x < 256) : ∀ x ∈ penc l, x < 256 := by
  intro x hx
  unfold penc at hx
  obtain ⟨p, hp, hx⟩ := List.mem_flatMap.1 hx
  exact pe_byte (h p hp) x hx

/-- A number cut short is too short. -/
theorem numF_cut : ∀ {r k x y c : Nat}, y < 2 ^ (7 * r) → c < (vint y).length → 0 < r → numF r k x ((vint y).take c) = (0, 0, 2)
  | 0, _, _, _, _, _, _, h0 => absurd h0 (by decide)
  | r + 1, k, x, y, 0, _, _, _ => by rw [List.take_zero, numF]
  | r + 1, k, x, y, c + 1, h, hc, _ => by
    have hp : 2 ^ (7 * (r + 1)) = 2 ^ (7 * r) * 128 := by rw [show 7 * (r + 1) = 7 * r + 7 by omega, Nat.pow_add]
    by_cases h1 : y < 128
    · rw [vint_low h1] at hc; simp at hc
    · have hr : 0 < r := by
        rcases Nat.eq_zero_or_pos r with rfl | h2
        · simp at h; omega
        · exact h2
      rw [vint_high (by omega)] at hc ⊢
      rw [List.take_succ_cons, numF, if_pos (by omega)]
      rw [List.length_cons] at hc
      exact numF_cut (by omega) (by omega) hr
theorem num_cut {y c : Nat} (h : y < 268435456) (hc : c < (vint y).length) : num ((vint y).take c) = (0, 0, 2) := numF_cut (r := 4) (by simpa using h) hc (by decide)

/-- How a part is read off the bytes s: rightly, so that s' is left; or too short. -/
def RightB (b s s' : List Nat) : Prop := rdE 500 s = 0 ∧ (s.drop (num s).2.1).take (num s).1 = b ∧ s.drop ((num s).2.1 + (num s).1) = s'
def RightN (n : Nat) (s s' : List Nat) : Prop := (num s).2.2 = 0 ∧ (num s).1 = n ∧ s.drop (num s).2.1 = s'
theorem rightN_vint {n : Nat} (h : n < 268435456) (s : List Nat) : RightN n (vint n ++ s) s := by
  unfold RightN
  rw [num_vint _ h]
  exact ⟨rfl, rfl, by simp⟩
theorem rightB_pe {b : List Nat} (h : b.length ≤ 500) (s : List Nat) : RightB b (vint b.length ++ b ++ s) s := by
  unfold RightB rdE
  rw [List.append_assoc, num_vint _ (by omega)]
  refine ⟨?_, by simp, by simp [← List.drop_drop]⟩
  rw [if_neg (by simp), if_neg (by simp; omega), if_neg (by simp)]
theorem cutB {b : List Nat} {c : Nat} (h : b.length ≤ 500) (hc : c < (vint b.length ++ b).length) : rdE 500 ((vint b.length ++ b).take c) = 2 := by
  unfold rdE
  by_cases h1 : c < (vint b.length).length
  · rw [List.take_append_of_le_length (by omega), num_cut (by omega) h1]; simp
  · have e : (vint b.length ++ b).take c = vint b.length ++ b.take (c - (vint b.length).length) := by
      rw [List.take_append, List.take_of_length_le (by omega)]
    rw [List.length_append] at hc
    rw [e, num_vint _ (by omega), if_neg (by simp), if_neg (by simp; omega), if_pos (by simp; omega)]
end Go.Proofs.Ytajcfpldjomceaa
