/- Fix and Worth of package gain as functions of the bits: what they give, without a condition on the sizes but that they are int's. -/
import Derived.Test.YtepfdhfoobeoeaaFlo
namespace Go.Proofs.Ytepfdhfoobeoeaa
namespace Flt
open Ieee

theorem fmt : FloatKind.f64.format = Ieee.double := rfl

/-- Fix, on bits. -/
def fixB (x : Nat) : Nat :=
  if (FloatKind.f64.format.order x x != some .eq) = true then 4607182418800017408
  else if (FloatKind.f64.format.order x 4607182418800017408 == some .gt) = true then 4607182418800017408
  else if (FloatKind.f64.format.order x 0 == some .lt || FloatKind.f64.format.order x 0 == some .eq) = true then 0 else x

theorem beq_lt (a b : Nat) : (some (compare a b) == some Ordering.lt) = decide (a < b) := by
  rw [Bool.eq_iff_iff]; simp [Nat.compare_eq_lt]
theorem beq_eq (a b : Nat) : (some (compare a b) == some Ordering.eq) = decide (a = b) := by
  rw [Bool.eq_iff_iff]; simp
theorem beq_gt (a b : Nat) : (some (compare a b) == some Ordering.gt) = decide (b < a) := by
  rw [Bool.eq_iff_iff]; simp [Nat.compare_eq_gt]
theorem le_bool (a b : Nat) : (some (compare a b) == some Ordering.lt || some (compare a b) == some Ordering.eq) = decide (a ≤ b) := by
  rw [beq_lt, beq_eq, Bool.eq_iff_iff]; simp; omega
theorem ge_bool (a b : Nat) : (some (compare a b) == some Ordering.gt || some (compare a b) == some Ordering.eq) = decide (b ≤ a) := by
  rw [beq_gt, beq_eq, Bool.eq_iff_iff]; simp; omega

section
variable {x y : Nat} (hx : x < 2047 * 2 ^ 52) (hy : y < 2047 * 2 ^ 52)
include hx hy
theorem ord_le : (FloatKind.f64.format.order x y == some .lt || FloatKind.f64.format.order x y == some .eq) = decide (mval x ≤ mval y) := by rw [fmt, order_pos hx hy, le_bool]
theorem ord_ge : (FloatKind.f64.format.order x y == some .gt || FloatKind.f64.format.order x y == some .eq) = decide (mval y ≤ mval x) := by rw [fmt, order_pos hx hy, ge_bool]
theorem ord_lt : (FloatKind.f64.format.order x y == some .lt) = decide (mval x < mval y) := by rw [fmt, order_pos hx hy, beq_lt]
theorem ord_gt : (FloatKind.f64.format.order x y == some .gt) = decide (mval y < mval x) := by rw [fmt, order_pos hx hy, beq_gt]
theorem ord_eq : (FloatKind.f64.format.order x y == some .eq) = decide (mval x = mval y) := by rw [fmt, order_pos hx hy, beq_eq]
end
theorem ord_self {x : Nat} (hx : x < 2047 * 2 ^ 52) : (FloatKind.f64.format.order x x == some .eq) = true := by rw [ord_eq hx hx]; simp

theorem one_fin : 4607182418800017408 < 2047 * 2 ^ 52 := by decide
theorem zero_fin : 0 < 2047 * 2 ^ 52 := by decide
theorem mval_zero : mval 0 = 0 := rfl
theorem pow_U (a b : Nat) (h : a + b = UE) : 2 ^ a * 2 ^ b = U := by rw [U_def, ← h, Nat.pow_add]
theorem mval_one : mval 4607182418800017408 = U := by
  unfold mval
  rw [if_neg (by decide), show 4607182418800017408 % 2 ^ 52 = 0 by decide, show 4607182418800017408 / 2 ^ 52 - 1 = 1022 by decide, Nat.add_zero]
  exact pow_U 52 1022 rfl

/-- What is no number from 0 up is a NaN, above 1, or not above 0. -/
theorem kinds {x : Nat} (h : x < 2 ^ 64) : x < 2047 * 2 ^ 52 ∨ (FloatKind.f64.format.order x x != some .eq) = true ∨ (FloatKind.f64.format.order x 4607182418800017408 == some .gt) = true ∨ (FloatKind.f64.format.order x 0 == some .lt || FloatKind.f64.format.order x 0 == some .eq) = true := by
  by_cases c : x < 2047 * 2 ^ 52
  · exact .inl c
  right
  obtain ⟨m1, a1, r1, _⟩ := read_pos one_fin
  obtain ⟨m0, a0, r0, v0, _⟩ := read_pos zero_fin
  have hm0 : m0 = 0 := by
    rw [mval_zero] at v0
    have := two_pow_pos a0
    rcases Nat.eq_zero_or_pos m0 with h | h
    · exact h
    · have := Nat.mul_pos h this; omega
  subst hm0
  rw [fmt]
  unfold Format.order
  rw [r1, r0]
  unfold Format.read
  rw [signWeight_double, binade_double, infRung_double, leastPlace_double]
  dsimp only
  cases hneg : (x / 2 ^ 63 % 2 == 1)
  · have hr : x % 2 ^ 63 = x := by
      have : x / 2 ^ 63 % 2 ≠ 1 := by simpa using hneg
      omega
    rw [hr, if_neg (by omega), if_neg c]
    by_cases e : x = 2047 * 2 ^ 52
    · rw [if_pos e]; right; left; rfl
    · rw [if_neg e]; left; rfl
  · generalize x % 2 ^ 63 = q
    by_cases q1 : q < 2 ^ 52
    · rw [if_pos q1]; right; right
      simp only [Datum.order, signed_false, signed_true, Nat.zero_mul]
      generalize q * 2 ^ _ = z
      rcases Nat.eq_zero_or_pos z with h | h
      · subst h; rfl
      · rw [Int.compare_eq_lt.2 (by omega)]; rfl
    · rw [if_neg q1]
      by_cases q2 : q < 2047 * 2 ^ 52
      · rw [if_pos q2]; right; right
        simp only [Datum.order, signed_false, signed_true, Nat.zero_mul]
        generalize (2 ^ 52 + q % 2 ^ 52) * 2 ^ _ = z
        rcases Nat.eq_zero_or_pos z with h | h
        · subst h; rfl
        · rw [Int.compare_eq_lt.2 (by omega)]; rfl
      · rw [if_neg q2]
        by_cases e : q = 2047 * 2 ^ 52
        · rw [if_pos e]; right; right; rfl
        · rw [if_neg e]; left; rfl

theorem fixB_fin {x : Nat} (h : x < 2 ^ 64) : fixB x < 2047 * 2 ^ 52 ∧ mval (fixB x) ≤ U := by
  unfold fixB
  by_cases c1 : (FloatKind.f64.format.order x x != some .eq) = true
  · rw [if_pos c1]; exact ⟨one_fin, by rw [mval_one]; exact Nat.le_refl _⟩
  rw [if_neg c1]
  by_cases c2 : (FloatKind.f64.format.order x 4607182418800017408 == some .gt) = true
  · rw [if_pos c2]; exact ⟨one_fin, by rw [mval_one]; exact Nat.le_refl _⟩
  rw [if_neg c2]
  by_cases c3 : (FloatKind.f64.format.order x 0 == some .lt || FloatKind.f64.format.order x 0 == some .eq) = true
  · rw [if_pos c3]; exact ⟨zero_fin, by rw [mval_zero]; exact Nat.zero_le _⟩
  rw [if_neg c3]
  have hx : x < 2047 * 2 ^ 52 := by
    rcases kinds h with k | k | k | k
    · exact k
    · exact absurd k c1
    · exact absurd k c2
    · exact absurd k c3
  refine ⟨hx, ?_⟩
  rw [ord_gt hx one_fin, mval_one] at c2
  simp only [decide_eq_true_eq] at c2
  omega

theorem fixB_low {x : Nat} (hx : x < 2047 * 2 ^ 52) (h : mval x ≤ U) (h0 : mval x = 0 → x = 0) : fixB x = x := by
  unfold fixB
  rw [if_neg (by have := ord_self hx; simp only [bne, this]; decide), if_neg (by rw [ord_gt hx one_fin, mval_one]; simp only [decide_eq_true_eq]; omega)]
  by_cases c : (FloatKind.f64.format.order x 0 == some .lt || FloatKind.f64.format.order x 0 == some .eq) = true
  · rw [if_pos c]
    rw [ord_le hx zero_fin, mval_zero] at c
    exact (h0 (by simpa using c)).symm
  · rw [if_neg c]

theorem mval_pos {x : Nat} (h : mval x = 0) : x = 0 := by
  unfold mval at h
  by_cases c : x < 2 ^ 52
  · rwa [if_pos c] at h
  · rw [if_neg c] at h
    have := Nat.mul_pos (show 0 < 2 ^ 52 + x % 2 ^ 52 by omega) (two_pow_pos (x / 2 ^ 52 - 1))
    omega

theorem fixB_fixB {x : Nat} (h : x < 2 ^ 64) : fixB (fixB x) = fixB x :=
  fixB_low (fixB_fin h).1 (fixB_fin h).2 mval_pos

/-- The rounded product of the fixed threshold and a size. -/
def mostB (x : Nat) (r : Int) : Nat := (FloatKind.f64.format.mul (fixB x) (floatOfInt .f64 r)).getD 0

theorem near2 {n : Nat} (h : n < 2 ^ 64) : mval (rng 0 (n * U)) ≤ 2 * (n * U) := by
  have := (rng_near0 (by have := lt_2097 h (by decide); rwa [Nat.zero_add] at this)).1
  generalize n * U = A at *
  generalize mval (rng 0 A) = B at *
  omega

theorem prod_lt {a n : Nat} (ha : a ≤ U) (h : n < 2 ^ 64) : a * mval (rng 0 (n * U)) < 2 ^ (UE + 2097) := by
  have h1 := near2 h
  have h2 : a * mval (rng 0 (n * U)) ≤ U * (2 * (n * U)) := Nat.mul_le_mul ha h1
  refine Nat.lt_of_le_of_lt h2 ?_
  have h3 : n * U < 2 ^ (64 + UE) := lt_pow (u := UE) h (Nat.le_refl _)
  have h4 : 2 * (n * U) < 2 ^ (64 + UE + 1) := by rw [Nat.pow_succ, Nat.mul_comm]; exact Nat.mul_lt_mul_of_pos_right h3 (by decide)
  rw [Nat.mul_comm U]
  exact lt_pow (u := UE) h4 (by rw [UE_def]; decide)

theorem most_eq {x : Nat} (hx : x < 2 ^ 64) {r : Nat} (hr : r < 2 ^ 64) :
    FloatKind.f64.format.mul (fixB x) (floatOfInt .f64 (r : Int)) = some (mostB x r) ∧ mostB x r < 2047 * 2 ^ 52 ∧ mostB x r = rng UE (mval (fixB x) * mval (rng 0 (r * U))) := by
  have e : FloatKind.f64.format.mul (fixB x) (floatOfInt .f64 (r : Int)) = some (rng UE (mval (fixB x) * mval (rng 0 (r * U)))) := by
    rw [fmt, ofNat_eq]; exact mul_pos (fixB_fin hx).1 (fin_ofNat hr)
  have e2 : mostB x r = rng UE (mval (fixB x) * mval (rng 0 (r * U))) := by unfold mostB; rw [e, Option.getD_some]
  rw [e2]
  exact ⟨e, (mval_rng (prod_lt (fixB_fin hx).2 hr)).2, rfl⟩

/-- Worth, on bits and whole numbers. -/
def worthB (x : Nat) (p r : Int) : Bool :=
  !decide (p < 0) && (!decide (r ≤ 0) && (!decide (r ≤ p) && (FloatKind.f64.format.order (floatOfInt .f64 p) (mostB x r) == some .lt || FloatKind.f64.format.order (floatOfInt .f64 p) (mostB x r) == some .eq)))

theorem worth_nat {x : Nat} (hx : x < 2 ^ 64) {p r : Nat} (hr : r < 2 ^ 64) : worthB x p r = (decide (p < r) && decide (mval (rng 0 (p * U)) ≤ mval (mostB x r))) := by
  unfold worthB
  by_cases h : p < r
  · rw [ofNat_eq, ord_le (fin_ofNat (by omega)) (most_eq hx hr).2.1]
    have h1 : decide ((p : Int) < 0) = false := by simp
    have h2 : decide ((r : Int) ≤ 0) = false := by simp; omega
    have h3 : decide ((r : Int) ≤ p) = false := by simp; omega
    rw [h1, h2, h3]; simp [h]
  · have h3 : decide ((r : Int) ≤ p) = true := by simp; omega
    rw [h3]; simp [h]

theorem most_mono {x y : Nat} (hx : x < 2 ^ 64) (hy : y < 2 ^ 64) {r : Nat} (hr : r < 2 ^ 64) (h : mval (fixB x) ≤ mval (fixB y)) : mval (mostB x r) ≤ mval (mostB y r) := by
  rw [(most_eq hx hr).2.2, (most_eq hy hr).2.2]
  exact mval_rng_mono (Nat.mul_le_mul_right _ h) (prod_lt (fixB_fin hy).2 hr)

theorem worth_mono {x y : Nat} (hx : x < 2 ^ 64) (hy : y < 2 ^ 64) {p r : Nat} (hr : r < 2 ^ 64) (h : mval (fixB x) ≤ mval (fixB y)) (hw : worthB x p r = true) : worthB y p r = true := by
  rw [worth_nat hx hr] at hw
  rw [worth_nat hy hr]
  have := most_mono hx hy hr h
  simp only [Bool.and_eq_true, decide_eq_true_eq] at hw ⊢
  omega

theorem worth_less {x : Nat} (hx : x < 2 ^ 64) {p r : Nat} (hr : r < 2 ^ 64) (hw : worthB x ((p + 1 : Nat) : Int) r = true) : worthB x p r = true := by
  rw [worth_nat hx hr] at hw
  rw [worth_nat hx hr]
  simp only [Bool.and_eq_true, decide_eq_true_eq] at hw ⊢
  have : mval (rng 0 (p * U)) ≤ mval (rng 0 ((p + 1) * U)) := mval_rng_mono (Nat.mul_le_mul_right _ (by omega)) (lt_2097 (show p + 1 < 2 ^ 64 by omega) (by decide))
  omega

end Flt
end Go.Proofs.Ytepfdhfoobeoeaa
