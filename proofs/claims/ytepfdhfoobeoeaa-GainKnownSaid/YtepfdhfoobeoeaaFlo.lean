/- Sums, products and quotients of doubles that are not negative, and Fix and Worth of package gain as functions of the bits. Used by the proofs about package gain. -/
import Derived.Test.YtepfdhfoobeoeaaFlt
import Derived.KernelRfl
namespace Go.Proofs.Ytepfdhfoobeoeaa
namespace Flt
open Ieee

theorem write_number (neg : Bool) (m : Nat) (p : Int) : double.write (.number neg m p) = double.nearest neg m p := rfl
theorem word_false (n : Nat) : double.word false n = n := rfl

/-- One, in units of 2^-1074. -/
def UE : Nat := 1074
theorem UE_def : UE = 1074 := rfl
def U : Nat := 2 ^ UE
theorem U_def : U = 2 ^ UE := rfl
theorem U_pos : 0 < U := two_pow_pos UE

theorem lt_pow {n k u t : Nat} (h : n < 2 ^ k) (hk : k + u ≤ t) : n * 2 ^ u < 2 ^ t := by
  refine Nat.lt_of_lt_of_le (Nat.mul_lt_mul_of_pos_right h (two_pow_pos u)) ?_
  rw [← Nat.pow_add]
  exact Nat.pow_le_pow_right (by omega) hk
theorem exp_lo {m i p u : Nat} (h : m * 2 ^ i = p * 2 ^ u) (hm : m < 2 ^ 53) (p0 : 0 < p) : u < 53 + i := by
  have h1 : m * 2 ^ i < 2 ^ 53 * 2 ^ i := Nat.mul_lt_mul_of_pos_right hm (two_pow_pos _)
  have h2 : 1 * 2 ^ u ≤ p * 2 ^ u := Nat.mul_le_mul_right _ p0
  rw [h, ← Nat.pow_add] at h1
  exact (Nat.pow_lt_pow_iff_right (a := 2) (by omega)).1 (by omega)
theorem exp_hi {n j r u : Nat} (h : n * 2 ^ j = r * 2 ^ u) (hn : 2 ^ 52 ≤ n) (r1 : r ≤ 2 ^ 16) : 52 + j ≤ 16 + u := by
  have h1 : 2 ^ 52 * 2 ^ j ≤ n * 2 ^ j := Nat.mul_le_mul_right _ hn
  have h2 : r * 2 ^ u ≤ 2 ^ 16 * 2 ^ u := Nat.mul_le_mul_right _ r1
  rw [h] at h1
  rw [← Nat.pow_add] at h1 h2
  exact (Nat.pow_le_pow_iff_right (a := 2) (by omega)).1 (by omega)
theorem swap4 (a b c d : Nat) : a * b * (c * d) = a * c * (b * d) := Nat.mul_mul_mul_comm a b c d

/-- A whole number as a double. -/
theorem ofNat_eq (n : Nat) : floatOfInt .f64 (n : Int) = rng 0 (n * U) := by
  show double.nearest (decide ((n : Int) < 0)) ((n : Int).natAbs) 0 = _
  rw [nearest_eq _ _ _ 0 (by omega)]
  have : decide ((n : Int) < 0) = false := by simp
  rw [this, word_false, show ((0 : Int) + 1074 + ((0 : Nat) : Int)).toNat = UE by rfl, Int.natAbs_natCast, U_def]

theorem lt_2097 {n k : Nat} (h : n < 2 ^ k) (hk : k + 1074 ≤ 0 + 2097) : n * U < 2 ^ (0 + 2097) := by
  rw [U_def]
  have := lt_pow (n := n) (k := k) (u := UE) (t := 0 + 2097) h hk
  exact this

theorem exact_at {n L u : Nat} (h : L ≤ u) : rhe (n * 2 ^ u) L * 2 ^ L = n * 2 ^ u := by
  have e : n * 2 ^ u = n * 2 ^ (u - L) * 2 ^ L := by rw [Nat.mul_assoc, ← Nat.pow_add]; congr 2; omega
  rw [e, rhe_whole]

theorem lst_le {n u : Nat} (h : n < 2 ^ 53) (h0 : n ≠ 0) : lst 0 (n * 2 ^ u) ≤ u := by
  have hl := log2_lt_pow h h0
  unfold lst; rw [log2_mul_pow n _ h0]; omega

/-- It is exact below 2^53. -/
theorem mval_ofNat {n : Nat} (h : n < 2 ^ 53) : mval (rng 0 (n * U)) = n * U := by
  by_cases h0 : n = 0
  · subst h0; rw [Nat.zero_mul, rng_zero]; rfl
  have hv := (mval_rng (d := 0) (lt_2097 h (by decide))).1
  rw [Nat.pow_zero, Nat.mul_one] at hv
  rw [hv]
  rw [U_def]
  exact exact_at (lst_le h h0)

theorem fin_ofNat {n : Nat} (h : n < 2 ^ 64) : rng 0 (n * U) < 2047 * 2 ^ 52 := (mval_rng (lt_2097 h (by decide))).2

theorem mul_pos {a b : Nat} (ha : a < 2047 * 2 ^ 52) (hb : b < 2047 * 2 ^ 52) : double.mul a b = some (rng UE (mval a * mval b)) := by
  obtain ⟨m, i, e1, v1, _⟩ := read_pos ha
  obtain ⟨n, j, e2, v2, _⟩ := read_pos hb
  unfold Format.mul
  rw [e1, e2]
  show some (double.nearest false (m * n) (-1074 + (i : Int) + (-1074 + (j : Int)))) = _
  rw [nearest_eq _ _ _ UE (by rw [UE_def]; omega), word_false]
  have : (-1074 + (i : Int) + (-1074 + (j : Int)) + 1074 + (UE : Int)).toNat = i + j := by rw [UE_def]; omega
  rw [this, ← v1, ← v2, Nat.pow_add, swap4]

theorem mul_nat {a b r : Nat} (ha : a < 2047 * 2 ^ 52) (hb : b < 2047 * 2 ^ 52) (h : mval b = r * U) : double.mul a b = some (rng 0 (mval a * r)) := by
  rw [mul_pos ha hb, h, ← Nat.mul_assoc, U_def]
  have := rng_scale 0 UE (mval a * r)
  rw [Nat.zero_add] at this
  exact congrArg some this

theorem add_pos {a b : Nat} (ha : a < 2047 * 2 ^ 52) (hb : b < 2047 * 2 ^ 52) : double.add a b = some (rng 0 (mval a + mval b)) := by
  obtain ⟨m, i, e1, v1, _⟩ := read_pos ha
  obtain ⟨n, j, e2, v2, _⟩ := read_pos hb
  unfold Format.add
  rw [e1, e2]
  simp only [Datum.sum, signed_false, Option.map_some, write_number, Bool.and_self]
  obtain ⟨g, hg⟩ : ∃ g : Nat, min (-1074 + (i : Int)) (-1074 + (j : Int)) = -1074 + g ∧ g ≤ i ∧ g ≤ j := ⟨min i j, by omega, by omega, by omega⟩
  rw [hg.1]
  have e3 : (-1074 + (i : Int) - (-1074 + g)).toNat = i - g := by omega
  have e4 : (-1074 + (j : Int) - (-1074 + g)).toNat = j - g := by omega
  rw [e3, e4, nearest_eq _ _ _ 0 (by omega)]
  have e5 : (-1074 + (g : Int) + 1074 + ((0 : Nat) : Int)).toNat = g := by omega
  have e6 : ((((m * 2 ^ (i - g) : Nat) : Int) + ((n * 2 ^ (j - g) : Nat) : Int)).natAbs) = m * 2 ^ (i - g) + n * 2 ^ (j - g) := by omega
  have e7 : (if ((m * 2 ^ (i - g) : Nat) : Int) + ((n * 2 ^ (j - g) : Nat) : Int) = 0 then false else decide (((m * 2 ^ (i - g) : Nat) : Int) + ((n * 2 ^ (j - g) : Nat) : Int) < 0)) = false := by
    split
    · rfl
    · simp only [decide_eq_false_iff_not]; omega
  rw [e5, e6, e7, word_false, Nat.add_mul, Nat.mul_assoc, Nat.mul_assoc, ← Nat.pow_add, ← Nat.pow_add, show i - g + g = i by omega, show j - g + g = j by omega, v1, v2]

theorem sub_pos {a b : Nat} (ha : a < 2047 * 2 ^ 52) (hb : b < 2047 * 2 ^ 52) (h : mval b < mval a) : double.sub a b = some (rng 0 (mval a - mval b)) := by
  obtain ⟨m, i, e1, v1, _⟩ := read_pos ha
  obtain ⟨n, j, e2, v2, _⟩ := read_pos hb
  unfold Format.sub
  rw [e1, e2]
  simp only [Datum.sum, Datum.opposite, Bool.not_false, signed_false, signed_true, Option.map_some, write_number, Bool.and_true]
  obtain ⟨g, hg⟩ : ∃ g : Nat, min (-1074 + (i : Int)) (-1074 + (j : Int)) = -1074 + g ∧ g ≤ i ∧ g ≤ j := ⟨min i j, by omega, by omega, by omega⟩
  rw [hg.1]
  have e3 : (-1074 + (i : Int) - (-1074 + g)).toNat = i - g := by omega
  have e4 : (-1074 + (j : Int) - (-1074 + g)).toNat = j - g := by omega
  have w1 : m * 2 ^ (i - g) * 2 ^ g = mval a := by rw [← v1, Nat.mul_assoc, ← Nat.pow_add, show i - g + g = i by omega]
  have w2 : n * 2 ^ (j - g) * 2 ^ g = mval b := by rw [← v2, Nat.mul_assoc, ← Nat.pow_add, show j - g + g = j by omega]
  have hlt : n * 2 ^ (j - g) < m * 2 ^ (i - g) := by
    refine Nat.lt_of_mul_lt_mul_right (a := 2 ^ g) ?_
    rw [w1, w2]; exact h
  rw [e3, e4, nearest_eq _ _ _ 0 (by omega)]
  have e5 : (-1074 + (g : Int) + 1074 + ((0 : Nat) : Int)).toNat = g := by omega
  have e6 : ((((m * 2 ^ (i - g) : Nat) : Int) + -((n * 2 ^ (j - g) : Nat) : Int)).natAbs) = m * 2 ^ (i - g) - n * 2 ^ (j - g) := by omega
  have e7 : (if ((m * 2 ^ (i - g) : Nat) : Int) + -((n * 2 ^ (j - g) : Nat) : Int) = 0 then false else decide (((m * 2 ^ (i - g) : Nat) : Int) + -((n * 2 ^ (j - g) : Nat) : Int) < 0)) = false := by
    split
    · rfl
    · simp only [decide_eq_false_iff_not]; omega
  rw [e5, e6, e7, word_false, Nat.sub_mul, w1, w2]

/-- The quotient with its last digit, times n, against the dividend. -/
theorem div_near {n t rem m G : Nat} (hD : n * t + rem = m * G) (hlt : rem < n) (hn : n ≤ 2 * m) :
    ((2 * t + if rem = 0 then 0 else 1) * n) * G ≤ (2 * (m * G)) * G + 2 * (m * G) ∧ (2 * (m * G)) * G ≤ ((2 * t + if rem = 0 then 0 else 1) * n) * G + 2 * (m * G) := by
  have q : (2 * t + if rem = 0 then 0 else 1) * n = 2 * (n * t) + (if rem = 0 then 0 else n) := by
    rw [Nat.add_mul, Nat.mul_assoc, Nat.mul_comm t n]
    split <;> simp
  have h1 : n * G ≤ 2 * (m * G) := by rw [← Nat.mul_assoc]; exact Nat.mul_le_mul_right _ hn
  rw [q]
  have h2 : 2 * (n * t) + (if rem = 0 then 0 else n) ≤ 2 * (m * G) + n := by split <;> omega
  have h3 : 2 * (m * G) ≤ 2 * (n * t) + (if rem = 0 then 0 else n) + n := by split <;> omega
  have h4 := Nat.mul_le_mul_right G h2
  have h5 := Nat.mul_le_mul_right G h3
  rw [Nat.add_mul (2 * (m * G)) n] at h4
  rw [Nat.add_mul (2 * (n * t) + (if rem = 0 then 0 else n)) n] at h5
  omega

/-- A quotient of whole numbers: the rounded quotient of N and 2^1074, where N is within a 2^54th of it. -/
theorem div_nat {a b p r : Nat} (ha : a < 2047 * 2 ^ 52) (hb : b < 2047 * 2 ^ 52) (hp : mval a = p * U) (hr : mval b = r * U) (p0 : 0 < p) (r0 : 0 < r) (r1 : r ≤ 2 ^ 16) :
    ∃ N, double.div a b = some (rng 0 N) ∧ 2 ^ 54 * (N * r) ≤ 2 ^ 54 * (p * U) + p * U ∧ 2 ^ 54 * (p * U) ≤ 2 ^ 54 * (N * r) + p * U := by
  have big : (2 : Nat) ^ 52 ≤ U := by rw [U_def]; exact Nat.pow_le_pow_right (by omega) (by decide)
  have small (x y : Nat) (hx : mval x = y * U) (y0 : 0 < y) : 2 ^ 52 ≤ x := by
    by_cases c : x < 2 ^ 52
    · exfalso
      have h1 : mval x = x := by simp [mval, c]
      have h2 : 1 * U ≤ y * U := Nat.mul_le_mul_right _ y0
      omega
    · omega
  obtain ⟨m, i, e1, v1, hm1, hm2, _⟩ := read_pos ha
  obtain ⟨n, j, e2, v2, hn1, hn2, _⟩ := read_pos hb
  have hm := hm2 (small a p hp p0)
  have hn := hn2 (small b r hr r0)
  rw [hp] at v1
  rw [hr] at v2
  have lm : m.log2 = 52 := (Nat.log2_eq_iff (by omega)).2 ⟨hm, hm1⟩
  have ln : n.log2 = 52 := (Nat.log2_eq_iff (by omega)).2 ⟨hn, hn1⟩
  have v1' := v1
  have v2' := v2
  rw [U_def] at v1' v2'
  have hi := exp_lo v1' hm1 p0
  have hj := exp_hi v2' hn r1
  clear v1' v2'
  unfold Format.div
  rw [e1, e2]
  have hfb : double.fractionBits = 52 := rfl
  have n0 : n ≠ 0 := by omega
  simp only [Datum.quotient, hfb, lm, ln, n0, if_false, Option.map_some, write_number, Nat.shiftLeft_eq]
  obtain ⟨e, he⟩ : ∃ e : Nat, i + 1019 = j + e := ⟨i + 1019 - j, by rw [UE_def] at hi hj; omega⟩
  rw [show 52 + 2 + 52 - 52 = 54 by rfl, nearest_eq _ _ _ 0 (by omega)]
  have e5 : (-1074 + (i : Int) - (-1074 + (j : Int)) - ((54 : Nat) : Int) - 1 + 1074 + ((0 : Nat) : Int)).toNat = e := by omega
  rw [e5, show (false ^^ false) = false by rfl, word_false]
  refine ⟨_, rfl, ?_⟩
  have hD := Nat.div_add_mod (m * 2 ^ 54) n
  have hlt := Nat.mod_lt (m * 2 ^ 54) (show 0 < n by omega)
  have hs : (m * 2 ^ 54 % n != 0).toNat = if m * 2 ^ 54 % n = 0 then 0 else 1 := by
    by_cases c : m * 2 ^ 54 % n = 0 <;> simp [c]
  rw [hs]
  generalize m * 2 ^ 54 % n = rem at *
  generalize m * 2 ^ 54 / n = t at *
  have near := div_near (G := 2 ^ 54) hD hlt (show n ≤ 2 * m by omega)
  generalize (2 * t + if rem = 0 then 0 else 1) = K at *
  -- times 2^(e + j)
  have scale : K * 2 ^ e * r * U = (K * n) * 2 ^ (e + j) := by
    rw [Nat.mul_assoc (K * 2 ^ e), ← v2, Nat.pow_add, swap4]
  have scale2 : p * U * U = (2 * (m * 2 ^ 54)) * 2 ^ (e + j) := by
    rw [← v1, show 2 * (m * 2 ^ 54) = m * 2 ^ 55 by omega, Nat.mul_assoc, Nat.mul_assoc, ← Nat.pow_add, U_def, ← Nat.pow_add, show i + UE = 55 + (e + j) by rw [UE_def]; omega]
  have hG := U_pos
  clear hi hj he e5 hD hlt hs v1 v2 hm hn hm1 hn1 hm2 hn2 lm ln big small hp hr
  generalize 2 * (m * 2 ^ 54) = M at *
  generalize 2 ^ (e + j) = E at *
  have n1 := Nat.mul_le_mul_right E near.1
  have n2 := Nat.mul_le_mul_right E near.2
  clear near
  rw [Nat.add_mul, Nat.mul_right_comm, Nat.mul_right_comm M, ← scale, ← scale2] at n1
  rw [Nat.add_mul, Nat.mul_right_comm, Nat.mul_right_comm (K * n), ← scale, ← scale2] at n2
  generalize K * 2 ^ e * r = X at *
  generalize p * U = Y at *
  generalize (2 : Nat) ^ 54 = T at *
  rw [Nat.mul_right_comm X, Nat.mul_right_comm Y, ← Nat.add_mul] at n1
  rw [Nat.mul_right_comm X, Nat.mul_right_comm Y, ← Nat.add_mul] at n2
  have n1' := Nat.le_of_mul_le_mul_right n1 hG
  have n2' := Nat.le_of_mul_le_mul_right n2 hG
  rw [Nat.mul_comm T X, Nat.mul_comm T Y]
  exact ⟨n1', n2'⟩

end Flt
end Go.Proofs.Ytepfdhfoobeoeaa
