/- What IEEE double arithmetic does with numbers that are not negative, said of whole numbers: no condition. Used by the proofs about package gain. Sums, products and quotients of doubles that are not negative, and Fix and Worth of package gain as functions of the bits. Used by the proofs about package gain. Fix and Worth of package gain as functions of the bits: what they give, without a condition on the sizes but that they are int's. What calls of Fix, Worth, IsNaN, Signbit and same do: their results as functions of the bits; memory stays as it is. -/
import Derived.Laws.FloatArith
import Derived.KernelRfl
import Derived.Test.YthdmghocfngfgaaRows
import Derived.WalkKit
import Derived.WalkSpells
import Derived.WalkLawsBesides
namespace Go.Proofs.Ythdmghocfngfgaa
namespace Flt
open Ieee

theorem two_pow_pos (d : Nat) : 0 < 2 ^ d := Nat.two_pow_pos d

/-- n / 2^d, rounded half to even. -/
def rhe (n d : Nat) : Nat := n / 2 ^ d + (decide (2 ^ d < 2 * (n % 2 ^ d)) || (2 ^ d == 2 * (n % 2 ^ d) && n / 2 ^ d % 2 == 1)).toNat

theorem cut_even (neg : Bool) (n d : Nat) : Toward.even.cut neg n d = rhe n d := by
  unfold Toward.cut rhe
  by_cases h : d ≤ n.log2 + 2
  · simp [Nat.min_eq_left h, Nat.one_shiftLeft]
  · have e : min d (n.log2 + 2) = n.log2 + 2 := by omega
    have l1 : n < 2 ^ (n.log2 + 1) := Nat.lt_log2_self
    have l2 : 2 ^ (n.log2 + 2) = 2 * 2 ^ (n.log2 + 1) := by rw [Nat.pow_succ]; omega
    have l3 : 2 ^ (n.log2 + 2) ≤ 2 ^ d := Nat.pow_le_pow_right (by omega) (by omega)
    have a1 : n / 2 ^ (n.log2 + 2) = 0 := Nat.div_eq_of_lt (by omega)
    have a2 : n / 2 ^ d = 0 := Nat.div_eq_of_lt (by omega)
    have a3 : n % 2 ^ (n.log2 + 2) = n := Nat.mod_eq_of_lt (by omega)
    have a4 : n % 2 ^ d = n := Nat.mod_eq_of_lt (by omega)
    simp only [e, Nat.one_shiftLeft, a1, a2, a3, a4]
    have b1 : decide (2 ^ (n.log2 + 2) < 2 * n) = false := by simp; omega
    have b2 : decide (2 ^ d < 2 * n) = false := by simp; omega
    simp [b1, b2]

theorem rhe_zero (d : Nat) : rhe 0 d = 0 := by
  unfold rhe
  have := two_pow_pos d
  simp

theorem rhe_none (n : Nat) : rhe n 0 = n := by
  unfold rhe
  simp [Nat.mod_one]

theorem toNat_le (b : Bool) : b.toNat ≤ 1 := by cases b <;> simp

theorem rhe_whole (a d : Nat) : rhe (a * 2 ^ d) d = a := by
  unfold rhe
  have := two_pow_pos d
  have h0 : 2 ^ d ≠ 0 := by omega
  have h1 : (2 ^ d == 0) = false := by simp
  simp [Nat.mul_div_cancel _ this]

theorem rhe_mono {n m : Nat} (d : Nat) (h : n ≤ m) : rhe n d ≤ rhe m d := by
  have hp := two_pow_pos d
  have hq : n / 2 ^ d ≤ m / 2 ^ d := Nat.div_le_div_right h
  by_cases e : n / 2 ^ d = m / 2 ^ d
  · have e1 := Nat.div_add_mod n (2 ^ d)
    have e2 := Nat.div_add_mod m (2 ^ d)
    rw [e] at e1
    have hr : n % 2 ^ d ≤ m % 2 ^ d := by omega
    unfold rhe
    rw [e]
    generalize n % 2 ^ d = r at *
    generalize m % 2 ^ d = s at *
    generalize m / 2 ^ d = q at *
    generalize 2 ^ d = g at *
    by_cases c1 : g < 2 * r
    · simp [c1, show g < 2 * s by omega]
    · by_cases c2 : g < 2 * s
      · simp [c2]; exact toNat_le _
      · by_cases c3 : g = 2 * r
        · have : r = s := by omega
          subst this; simp
        · have : (g == 2 * r) = false := by simp [c3]
          simp [c1, this]
  · unfold rhe
    have := toNat_le (decide (2 ^ d < 2 * (n % 2 ^ d)) || (2 ^ d == 2 * (n % 2 ^ d) && n / 2 ^ d % 2 == 1))
    omega

theorem rhe_ge {n a : Nat} (d : Nat) (h : a * 2 ^ d ≤ n) : a ≤ rhe n d := by
  have := rhe_mono d h; rwa [rhe_whole] at this
theorem rhe_le {n a : Nat} (d : Nat) (h : n ≤ a * 2 ^ d) : rhe n d ≤ a := by
  have := rhe_mono d h; rwa [rhe_whole] at this

/-- The rounded number times 2^d is at most half a unit away. -/
theorem rhe_near (n d : Nat) : 2 * (rhe n d * 2 ^ d) ≤ 2 * n + 2 ^ d ∧ 2 * n ≤ 2 * (rhe n d * 2 ^ d) + 2 ^ d := by
  have hp := two_pow_pos d
  have e1 := Nat.div_add_mod n (2 ^ d)
  have l := Nat.mod_lt n hp
  unfold rhe
  generalize n % 2 ^ d = r at *
  generalize n / 2 ^ d = q at *
  generalize 2 ^ d = g at *
  rw [Nat.add_mul, Nat.mul_comm q g]
  by_cases c1 : g < 2 * r
  · simp [c1]; omega
  · by_cases c2 : g = 2 * r
    · have h1 : (g == 2 * r) = true := by simp [c2]
      have h2 : decide (g < 2 * r) = false := by simp; omega
      rw [h1, h2]
      cases hb : (q % 2 == 1) <;> simp <;> omega
    · have : (g == 2 * r) = false := by simp [c2]
      simp [c1, this]; omega

theorem rhe_scale (n d k : Nat) : rhe (n * 2 ^ k) (d + k) = rhe n d := by
  have hp := two_pow_pos k
  unfold rhe
  rw [Nat.pow_add, Nat.mul_div_mul_right _ _ hp, Nat.mul_mod_mul_right]
  have e : 2 * (n % 2 ^ d * 2 ^ k) = (2 * (n % 2 ^ d)) * 2 ^ k := by rw [Nat.mul_assoc]
  rw [e]
  have a : (decide (2 ^ d * 2 ^ k < 2 * (n % 2 ^ d) * 2 ^ k)) = decide (2 ^ d < 2 * (n % 2 ^ d)) := by
    rw [decide_eq_decide]; exact Nat.mul_lt_mul_right hp
  have b : (2 ^ d * 2 ^ k == 2 * (n % 2 ^ d) * 2 ^ k) = (2 ^ d == 2 * (n % 2 ^ d)) := by
    rw [Bool.eq_iff_iff, beq_iff_eq, beq_iff_eq]
    exact ⟨fun h => Nat.eq_of_mul_eq_mul_right hp h, fun h => congrArg (· * 2 ^ k) h⟩
  rw [a, b]

/-- The exponent of the last digit that is kept of N, above d. -/
def lst (d N : Nat) : Nat := max (N.log2 - 52) d
/-- The rung of the double nearest to N * 2^(-1074 - d). -/
def rng (d N : Nat) : Nat := min ((lst d N - d) * 2 ^ 52 + rhe N (lst d N)) double.infRung

theorem rng_zero (d : Nat) : rng d 0 = 0 := by
  unfold rng lst
  have : max (Nat.log2 0 - 52) d = d := by simp [Nat.log2_zero]
  rw [this, rhe_zero]; simp

theorem log2_mul_pow (n k : Nat) (h : n ≠ 0) : (n * 2 ^ k).log2 = n.log2 + k := by
  have hp := two_pow_pos k
  have hn : n * 2 ^ k ≠ 0 := Nat.mul_ne_zero h (by omega)
  rw [Nat.log2_eq_iff hn, Nat.pow_add, show n.log2 + k + 1 = n.log2 + 1 + k by omega, Nat.pow_add]
  exact ⟨Nat.mul_le_mul_right _ (Nat.log2_self_le h), Nat.mul_lt_mul_of_pos_right Nat.lt_log2_self hp⟩

theorem leastPlace_double : double.leastPlace = -1074 := by decide
theorem binade_double : double.binade = 2 ^ 52 := by decide

/-- Rounding depends only on the number. -/
theorem nearest_eq (neg : Bool) (mag : Nat) (place : Int) (d : Nat) (hd : -1074 - (d : Int) ≤ place) :
    double.nearest neg mag place = double.word neg (rng d (mag * 2 ^ (place + 1074 + d).toNat)) := by
  unfold Format.nearest
  by_cases hm : mag = 0
  · subst hm; simp [rng_zero]
  rw [if_neg hm]
  dsimp only
  rw [leastPlace_double, binade_double]
  have hfb : ((double.fractionBits : Nat) : Int) = 52 := rfl
  rw [hfb]
  obtain ⟨k, hk⟩ : ∃ k : Nat, place + 1074 + d = k := ⟨(place + 1074 + d).toNat, by omega⟩
  have hlog := log2_mul_pow mag k hm
  rw [hk, Int.toNat_natCast]
  have hlast : max (place + (mag.log2 : Int) - 52) (-1074) = (lst d (mag * 2 ^ k) : Int) - 1074 - d := by
    unfold lst; rw [hlog]; omega
  rw [hlast]
  have hL : d ≤ lst d (mag * 2 ^ k) := by unfold lst; omega
  have hrhe : Toward.even.cut neg (mag <<< (place - ((lst d (mag * 2 ^ k) : Int) - 1074 - d)).toNat) (((lst d (mag * 2 ^ k) : Int) - 1074 - d) - place).toNat = rhe (mag * 2 ^ k) (lst d (mag * 2 ^ k)) := by
    rw [cut_even, Nat.shiftLeft_eq]
    generalize lst d (mag * 2 ^ k) = L at *
    by_cases c : L ≤ k
    · have e1 : (place - ((L : Int) - 1074 - d)).toNat = k - L := by omega
      have e2 : (((L : Int) - 1074 - d) - place).toNat = 0 := by omega
      rw [e1, e2, rhe_none]
      have : mag * 2 ^ k = mag * 2 ^ (k - L) * 2 ^ L := by rw [Nat.mul_assoc, ← Nat.pow_add]; congr 2; omega
      rw [this, rhe_whole]
    · have e1 : (place - ((L : Int) - 1074 - d)).toNat = 0 := by omega
      have e2 : (((L : Int) - 1074 - d) - place).toNat = L - k := by omega
      rw [e1, e2]
      have : L = (L - k) + k := by omega
      conv => rhs; rw [this]
      rw [rhe_scale]; simp
  rw [hrhe]
  unfold rng
  have e3 : ((lst d (mag * 2 ^ k) : Int) - 1074 - d - -1074).toNat = lst d (mag * 2 ^ k) - d := by omega
  rw [e3]

theorem rng_scale (d k N : Nat) : rng (d + k) (N * 2 ^ k) = rng d N := by
  by_cases h : N = 0
  · subst h; simp [rng_zero]
  unfold rng
  have : lst (d + k) (N * 2 ^ k) = lst d N + k := by
    unfold lst; rw [log2_mul_pow N k h]; omega
  rw [this, rhe_scale]
  congr 3; omega

/-- The number of a finite rung, in units of 2^-1074. -/
def mval (b : Nat) : Nat := if b < 2 ^ 52 then b else (2 ^ 52 + b % 2 ^ 52) * 2 ^ (b / 2 ^ 52 - 1)

theorem infRung_double : double.infRung = 2047 * 2 ^ 52 := by decide
theorem signWeight_double : double.signWeight = 2 ^ 63 := by decide

/-- What a finite word that is not negative stands for. -/
theorem read_pos {b : Nat} (h : b < 2047 * 2 ^ 52) :
    ∃ m a : Nat, double.read b = .number false m (-1074 + a) ∧ m * 2 ^ a = mval b ∧ m < 2 ^ 53 ∧ (2 ^ 52 ≤ b → 2 ^ 52 ≤ m) ∧ (b < 2 ^ 52 → a = 0) := by
  unfold Format.read
  have h1 : b / double.signWeight % 2 = 0 := by rw [signWeight_double, Nat.div_eq_of_lt (by omega)]
  have h2 : b % double.signWeight = b := by rw [signWeight_double]; exact Nat.mod_eq_of_lt (by omega)
  rw [h1, h2, binade_double, infRung_double, leastPlace_double]
  have h3 : ((0 : Nat) == 1) = false := rfl
  rw [h3]
  dsimp only
  by_cases c : b < 2 ^ 52
  · refine ⟨b, 0, by simp [c], by simp [mval, c], by omega, by omega, fun _ => rfl⟩
  · refine ⟨2 ^ 52 + b % 2 ^ 52, b / 2 ^ 52 - 1, by simp [c, h], by simp [mval, c], ?_, by omega, by omega⟩
    have := Nat.mod_lt b (two_pow_pos 52); omega

theorem signed_false (m k : Nat) : signed false m k = ((m * 2 ^ k : Nat) : Int) := by
  simp [signed, Nat.shiftLeft_eq]
theorem signed_true (m k : Nat) : signed true m k = -((m * 2 ^ k : Nat) : Int) := by
  simp [signed, Nat.shiftLeft_eq]

/-- Two finite words that are not negative stand to each other as their numbers do. -/
theorem order_pos {x y : Nat} (hx : x < 2047 * 2 ^ 52) (hy : y < 2047 * 2 ^ 52) : double.order x y = some (compare (mval x) (mval y)) := by
  obtain ⟨m, a, e1, v1, _⟩ := read_pos hx
  obtain ⟨n, c, e2, v2, _⟩ := read_pos hy
  unfold Format.order
  rw [e1, e2]
  simp only [Datum.order, signed_false]
  congr 1
  rw [← v1, ← v2]
  obtain ⟨g, hg⟩ : ∃ g : Nat, min (-1074 + (a : Int)) (-1074 + (c : Int)) = -1074 + g := ⟨min a c, by omega⟩
  rw [hg]
  have e3 : (-1074 + (a : Int) - (-1074 + g)).toNat = a - g := by omega
  have e4 : (-1074 + (c : Int) - (-1074 + g)).toNat = c - g := by omega
  rw [e3, e4]
  have e5 : m * 2 ^ a = m * 2 ^ (a - g) * 2 ^ g := by rw [Nat.mul_assoc, ← Nat.pow_add]; congr 2; omega
  have e6 : n * 2 ^ c = n * 2 ^ (c - g) * 2 ^ g := by rw [Nat.mul_assoc, ← Nat.pow_add]; congr 2; omega
  rw [e5, e6]
  have hp := two_pow_pos g
  generalize m * 2 ^ (a - g) = A
  generalize n * 2 ^ (c - g) = B
  rcases Nat.lt_trichotomy A B with h | h | h
  · rw [Nat.compare_eq_lt.2 (Nat.mul_lt_mul_of_pos_right h hp)]
    exact Int.compare_eq_lt.2 (by omega)
  · subst h; rw [Nat.compare_eq_eq.2 rfl]; exact Int.compare_eq_eq.2 rfl
  · rw [Nat.compare_eq_gt.2 (Nat.mul_lt_mul_of_pos_right h hp)]
    exact Int.compare_eq_gt.2 (by omega)

theorem log2_lt_pow {N k : Nat} (h : N < 2 ^ k) (h0 : N ≠ 0) : N.log2 < k := (Nat.log2_lt h0).2 h

theorem rhe_le_two53 (d N : Nat) : rhe N (lst d N) ≤ 2 ^ 53 := by
  refine rhe_le _ ?_
  have h1 : N < 2 ^ (N.log2 + 1) := Nat.lt_log2_self
  have h2 : N.log2 + 1 ≤ 53 + lst d N := by unfold lst; omega
  rw [← Nat.pow_add]
  have := Nat.pow_le_pow_right (n := 2) (by omega) h2
  omega

theorem rhe_ge_two52 {d N : Nat} (h : d < lst d N) : 2 ^ 52 ≤ rhe N (lst d N) := by
  have h1 : lst d N = N.log2 - 52 := by unfold lst at *; omega
  have h0 : N ≠ 0 := by rintro rfl; simp [lst, Nat.log2_zero] at h
  refine rhe_ge _ ?_
  rw [h1, ← Nat.pow_add, show 52 + (N.log2 - 52) = N.log2 by unfold lst at *; omega]
  exact Nat.log2_self_le h0

theorem fit (u K : Nat) (h : u ≤ 2044) (h2 : K ≤ 2 ^ 53) : u * 2 ^ 52 + K ≤ 2047 * 2 ^ 52 := by omega
theorem fits (u K : Nat) (h : u ≤ 2044) (h2 : K ≤ 2 ^ 53) : u * 2 ^ 52 + K < 2047 * 2 ^ 52 := by omega
/-- The rung's number is the rounded number. -/
theorem mval_rng {d N : Nat} (h : N < 2 ^ (d + 2097)) : mval (rng d N) * 2 ^ d = rhe N (lst d N) * 2 ^ lst d N ∧ rng d N < 2047 * 2 ^ 52 := by
  by_cases h0 : N = 0
  · subst h0; rw [rng_zero, rhe_zero]; simp [mval]
  have hl := log2_lt_pow h h0
  have hL : lst d N ≤ d + 2044 := by clear h; unfold lst; omega
  clear h
  have hLd : d ≤ lst d N := by unfold lst; omega
  have h53 := rhe_le_two53 d N
  have hr : rng d N = (lst d N - d) * 2 ^ 52 + rhe N (lst d N) := by
    unfold rng; rw [infRung_double]
    refine Nat.min_eq_left ?_
    exact fit _ _ (by omega) h53
  rw [hr]
  obtain ⟨u, hu⟩ : ∃ u, lst d N = d + u := ⟨lst d N - d, by omega⟩
  have h52 := @rhe_ge_two52 d N
  rw [hu] at h52 h53 ⊢
  generalize rhe N (d + u) = K at *
  rw [show d + u - d = u by omega]
  have hu2 : u ≤ 2044 := by omega
  refine ⟨?_, fits u K hu2 h53⟩
  rw [Nat.add_comm d u, Nat.pow_add, ← Nat.mul_assoc]
  congr 1
  unfold mval
  by_cases hu0 : u = 0
  · subst hu0
    simp only [Nat.zero_mul, Nat.zero_add, Nat.pow_zero, Nat.mul_one]
    by_cases c : K < 2 ^ 52
    · rw [if_pos c]
    · rw [if_neg c]
      by_cases c2 : K = 2 ^ 53
      · subst c2; decide +kernel
      · rw [show K / 2 ^ 52 = 1 by omega, show K % 2 ^ 52 = K - 2 ^ 52 by omega]; simp; omega
  · have hK := h52 (by omega)
    rw [if_neg (by omega)]
    by_cases c2 : K = 2 ^ 53
    · subst c2
      rw [show (u * 2 ^ 52 + 2 ^ 53) / 2 ^ 52 = u + 2 by omega, show (u * 2 ^ 52 + 2 ^ 53) % 2 ^ 52 = 0 by omega, show u + 2 - 1 = u + 1 by omega, Nat.pow_succ]
      omega
    · rw [show (u * 2 ^ 52 + K) / 2 ^ 52 = u + 1 by omega, show (u * 2 ^ 52 + K) % 2 ^ 52 = K - 2 ^ 52 by omega, show u + 1 - 1 = u by omega, show 2 ^ 52 + (K - 2 ^ 52) = K by omega]

/-- Rounding is monotone. -/
theorem rhe_lst_mono {d N M : Nat} (h : N ≤ M) : rhe N (lst d N) * 2 ^ lst d N ≤ rhe M (lst d M) * 2 ^ lst d M := by
  by_cases h0 : N = 0
  · subst h0; rw [rhe_zero]; omega
  have hl : N.log2 ≤ M.log2 := (Nat.le_log2 (by omega)).2 (Nat.le_trans (Nat.log2_self_le h0) h)
  have hL : lst d N ≤ lst d M := by unfold lst; omega
  by_cases e : lst d N = lst d M
  · rw [e]; exact Nat.mul_le_mul_right _ (rhe_mono _ h)
  · have h1 := rhe_le_two53 d N
    have h2 := @rhe_ge_two52 d M (by unfold lst at *; omega)
    calc rhe N (lst d N) * 2 ^ lst d N ≤ 2 ^ 53 * 2 ^ lst d N := Nat.mul_le_mul_right _ h1
      _ = 2 ^ (53 + lst d N) := by rw [Nat.pow_add]
      _ ≤ 2 ^ (52 + lst d M) := Nat.pow_le_pow_right (by omega) (by omega)
      _ = 2 ^ 52 * 2 ^ lst d M := by rw [Nat.pow_add]
      _ ≤ rhe M (lst d M) * 2 ^ lst d M := Nat.mul_le_mul_right _ h2

theorem mval_rng_mono {d N M : Nat} (h : N ≤ M) (hM : M < 2 ^ (d + 2097)) : mval (rng d N) ≤ mval (rng d M) := by
  have h1 := (mval_rng (d := d) (N := N) (by omega)).1
  have h2 := (mval_rng (d := d) (N := M) hM).1
  have := rhe_lst_mono (d := d) h
  rw [← h1, ← h2] at this
  exact Nat.le_of_mul_le_mul_right this (two_pow_pos d)

/-- How far rounding may go: a 2^53rd, and half a unit where the number is small. -/
theorem rng_near {d N : Nat} (h : N < 2 ^ (d + 2097)) :
    2 ^ 53 * (mval (rng d N) * 2 ^ d) ≤ 2 ^ 53 * N + N + 2 ^ 52 * 2 ^ d ∧ 2 ^ 53 * N ≤ 2 ^ 53 * (mval (rng d N) * 2 ^ d) + N + 2 ^ 52 * 2 ^ d := by
  rw [(mval_rng h).1]
  have hn := rhe_near N (lst d N)
  by_cases hL : d < lst d N
  · have h0 : N ≠ 0 := by rintro rfl; simp [lst, Nat.log2_zero] at hL
    have h1 : 2 ^ 52 * 2 ^ lst d N ≤ N := by
      rw [← Nat.pow_add, show 52 + lst d N = N.log2 by unfold lst at *; omega]
      exact Nat.log2_self_le h0
    omega
  · have e : lst d N = d := by unfold lst at *; omega
    rw [e] at hn ⊢
    omega

/-- The same where no unit is lost. -/
theorem rng_near0 {N : Nat} (h : N < 2 ^ 2097) : 2 ^ 53 * mval (rng 0 N) ≤ 2 ^ 53 * N + N ∧ 2 ^ 53 * N ≤ 2 ^ 53 * mval (rng 0 N) + N := by
  have hv := (mval_rng (d := 0) (by rw [Nat.zero_add]; exact h)).1
  rw [Nat.pow_zero, Nat.mul_one] at hv
  rw [hv]
  have hn := rhe_near N (lst 0 N)
  by_cases hL : 0 < lst 0 N
  · have h0 : N ≠ 0 := by rintro rfl; simp [lst, Nat.log2_zero] at hL
    have h1 : 2 ^ 52 * 2 ^ lst 0 N ≤ N := by
      rw [← Nat.pow_add, show 52 + lst 0 N = N.log2 by unfold lst at *; omega]
      exact Nat.log2_self_le h0
    omega
  · have e : lst 0 N = 0 := by omega
    rw [e, rhe_none]; omega

end Flt
end Go.Proofs.Ythdmghocfngfgaa

namespace Go.Proofs.Ythdmghocfngfgaa
namespace Flt
open Ieee

theorem write_number (neg : Bool) (m : Nat) (p : Int) : double.write (.number neg m p) = double.nearest neg m p := rfl
theorem word_false (n : Nat) : double.word false n = n := rfl

/-- One, in units of 2^-1074. -/
def UE : Nat := 1074
theorem UE_def : UE = 1074 := rfl
def U : Nat := 2 ^ UE
theorem U_def : U = 2 ^ UE := rfl
theorem U_pos : 0 < U := two_pow_pos UE

theorem lt_pow {n k u t : Nat} (h : n < 2 ^ k) (hk : k + u ≤ t) : n * 2 ^ u < 2 ^ t := by
  refine Nat.lt_of_lt_of_le (Nat.mul_lt_mul_of_pos_right h (two_pow_pos u)) ?_
  rw [← Nat.pow_add]
  exact Nat.pow_le_pow_right (by omega) hk
theorem exp_lo {m i p u : Nat} (h : m * 2 ^ i = p * 2 ^ u) (hm : m < 2 ^ 53) (p0 : 0 < p) : u < 53 + i := by
  have h1 : m * 2 ^ i < 2 ^ 53 * 2 ^ i := Nat.mul_lt_mul_of_pos_right hm (two_pow_pos _)
  have h2 : 1 * 2 ^ u ≤ p * 2 ^ u := Nat.mul_le_mul_right _ p0
  rw [h, ← Nat.pow_add] at h1
  exact (Nat.pow_lt_pow_iff_right (a := 2) (by omega)).1 (by omega)
theorem exp_hi {n j r u : Nat} (h : n * 2 ^ j = r * 2 ^ u) (hn : 2 ^ 52 ≤ n) (r1 : r ≤ 2 ^ 16) : 52 + j ≤ 16 + u := by
  have h1 : 2 ^ 52 * 2 ^ j ≤ n * 2 ^ j := Nat.mul_le_mul_right _ hn
  have h2 : r * 2 ^ u ≤ 2 ^ 16 * 2 ^ u := Nat.mul_le_mul_right _ r1
  rw [h] at h1
  rw [← Nat.pow_add] at h1 h2
  exact (Nat.pow_le_pow_iff_right (a := 2) (by omega)).1 (by omega)
theorem swap4 (a b c d : Nat) : a * b * (c * d) = a * c * (b * d) := Nat.mul_mul_mul_comm a b c d

/-- A whole number as a double. -/
theorem ofNat_eq (n : Nat) : floatOfInt .f64 (n : Int) = rng 0 (n * U) := by
  show double.nearest (decide ((n : Int) < 0)) ((n : Int).natAbs) 0 = _
  rw [nearest_eq _ _ _ 0 (by omega)]
  have : decide ((n : Int) < 0) = false := by simp
  rw [this, word_false, show ((0 : Int) + 1074 + ((0 : Nat) : Int)).toNat = UE by rfl, Int.natAbs_natCast, U_def]

theorem lt_2097 {n k : Nat} (h : n < 2 ^ k) (hk : k + 1074 ≤ 0 + 2097) : n * U < 2 ^ (0 + 2097) := by
  rw [U_def]
  have := lt_pow (n := n) (k := k) (u := UE) (t := 0 + 2097) h hk
  exact this

theorem exact_at {n L u : Nat} (h : L ≤ u) : rhe (n * 2 ^ u) L * 2 ^ L = n * 2 ^ u := by
  have e : n * 2 ^ u = n * 2 ^ (u - L) * 2 ^ L := by rw [Nat.mul_assoc, ← Nat.pow_add]; congr 2; omega
  rw [e, rhe_whole]

theorem lst_le {n u : Nat} (h : n < 2 ^ 53) (h0 : n ≠ 0) : lst 0 (n * 2 ^ u) ≤ u := by
  have hl := log2_lt_pow h h0
  unfold lst; rw [log2_mul_pow n _ h0]; omega

/-- It is exact below 2^53. -/
theorem mval_ofNat {n : Nat} (h : n < 2 ^ 53) : mval (rng 0 (n * U)) = n * U := by
  by_cases h0 : n = 0
  · subst h0; rw [Nat.zero_mul, rng_zero]; rfl
  have hv := (mval_rng (d := 0) (lt_2097 h (by decide))).1
  rw [Nat.pow_zero, Nat.mul_one] at hv
  rw [hv]
  rw [U_def]
  exact exact_at (lst_le h h0)

theorem fin_ofNat {n : Nat} (h : n < 2 ^ 64) : rng 0 (n * U) < 2047 * 2 ^ 52 := (mval_rng (lt_2097 h (by decide))).2

theorem mul_pos {a b : Nat} (ha : a < 2047 * 2 ^ 52) (hb : b < 2047 * 2 ^ 52) : double.mul a b = some (rng UE (mval a * mval b)) := by
  obtain ⟨m, i, e1, v1, _⟩ := read_pos ha
  obtain ⟨n, j, e2, v2, _⟩ := read_pos hb
  unfold Format.mul
  rw [e1, e2]
  show some (double.nearest false (m * n) (-1074 + (i : Int) + (-1074 + (j : Int)))) = _
  rw [nearest_eq _ _ _ UE (by rw [UE_def]; omega), word_false]
  have : (-1074 + (i : Int) + (-1074 + (j : Int)) + 1074 + (UE : Int)).toNat = i + j := by rw [UE_def]; omega
  rw [this, ← v1, ← v2, Nat.pow_add, swap4]

theorem mul_nat {a b r : Nat} (ha : a < 2047 * 2 ^ 52) (hb : b < 2047 * 2 ^ 52) (h : mval b = r * U) : double.mul a b = some (rng 0 (mval a * r)) := by
  rw [mul_pos ha hb, h, ← Nat.mul_assoc, U_def]
  have := rng_scale 0 UE (mval a * r)
  rw [Nat.zero_add] at this
  exact congrArg some this

theorem add_pos {a b : Nat} (ha : a < 2047 * 2 ^ 52) (hb : b < 2047 * 2 ^ 52) : double.add a b = some (rng 0 (mval a + mval b)) := by
  obtain ⟨m, i, e1, v1, _⟩ := read_pos ha
  obtain ⟨n, j, e2, v2, _⟩ := read_pos hb
  unfold Format.add
  rw [e1, e2]
  simp only [Datum.sum, signed_false, Option.map_some, write_number, Bool.and_self]
  obtain ⟨g, hg⟩ : ∃ g : Nat, min (-1074 + (i : Int)) (-1074 + (j : Int)) = -1074 + g ∧ g ≤ i ∧ g ≤ j := ⟨min i j, by omega, by omega, by omega⟩
  rw [hg.1]
  have e3 : (-1074 + (i : Int) - (-1074 + g)).toNat = i - g := by omega
  have e4 : (-1074 + (j : Int) - (-1074 + g)).toNat = j - g := by omega
  rw [e3, e4, nearest_eq _ _ _ 0 (by omega)]
  have e5 : (-1074 + (g : Int) + 1074 + ((0 : Nat) : Int)).toNat = g := by omega
  have e6 : ((((m * 2 ^ (i - g) : Nat) : Int) + ((n * 2 ^ (j - g) : Nat) : Int)).natAbs) = m * 2 ^ (i - g) + n * 2 ^ (j - g) := by omega
  have e7 : (if ((m * 2 ^ (i - g) : Nat) : Int) + ((n * 2 ^ (j - g) : Nat) : Int) = 0 then false else decide (((m * 2 ^ (i - g) : Nat) : Int) + ((n * 2 ^ (j - g) : Nat) : Int) < 0)) = false := by
    split
    · rfl
    · simp only [decide_eq_false_iff_not]; omega
  rw [e5, e6, e7, word_false, Nat.add_mul, Nat.mul_assoc, Nat.mul_assoc, ← Nat.pow_add, ← Nat.pow_add, show i - g + g = i by omega, show j - g + g = j by omega, v1, v2]

theorem sub_pos {a b : Nat} (ha : a < 2047 * 2 ^ 52) (hb : b < 2047 * 2 ^ 52) (h : mval b < mval a) : double.sub a b = some (rng 0 (mval a - mval b)) := by
  obtain ⟨m, i, e1, v1, _⟩ := read_pos ha
  obtain ⟨n, j, e2, v2, _⟩ := read_pos hb
  unfold Format.sub
  rw [e1, e2]
  simp only [Datum.sum, Datum.opposite, Bool.not_false, signed_false, signed_true, Option.map_some, write_number, Bool.and_true]
  obtain ⟨g, hg⟩ : ∃ g : Nat, min (-1074 + (i : Int)) (-1074 + (j : Int)) = -1074 + g ∧ g ≤ i ∧ g ≤ j := ⟨min i j, by omega, by omega, by omega⟩
  rw [hg.1]
  have e3 : (-1074 + (i : Int) - (-1074 + g)).toNat = i - g := by omega
  have e4 : (-1074 + (j : Int) - (-1074 + g)).toNat = j - g := by omega
  have w1 : m * 2 ^ (i - g) * 2 ^ g = mval a := by rw [← v1, Nat.mul_assoc, ← Nat.pow_add, show i - g + g = i by omega]
  have w2 : n * 2 ^ (j - g) * 2 ^ g = mval b := by rw [← v2, Nat.mul_assoc, ← Nat.pow_add, show j - g + g = j by omega]
  have hlt : n * 2 ^ (j - g) < m * 2 ^ (i - g) := by
    refine Nat.lt_of_mul_lt_mul_right (a := 2 ^ g) ?_
    rw [w1, w2]; exact h
  rw [e3, e4, nearest_eq _ _ _ 0 (by omega)]
  have e5 : (-1074 + (g : Int) + 1074 + ((0 : Nat) : Int)).toNat = g := by omega
  have e6 : ((((m * 2 ^ (i - g) : Nat) : Int) + -((n * 2 ^ (j - g) : Nat) : Int)).natAbs) = m * 2 ^ (i - g) - n * 2 ^ (j - g) := by omega
  have e7 : (if ((m * 2 ^ (i - g) : Nat) : Int) + -((n * 2 ^ (j - g) : Nat) : Int) = 0 then false else decide (((m * 2 ^ (i - g) : Nat) : Int) + -((n * 2 ^ (j - g) : Nat) : Int) < 0)) = false := by
    split
    · rfl
    · simp only [decide_eq_false_iff_not]; omega
  rw [e5, e6, e7, word_false, Nat.sub_mul, w1, w2]

/-- The quotient with its last digit, times n, against the dividend. -/
theorem div_near {n t rem m G : Nat} (hD : n * t + rem = m * G) (hlt : rem < n) (hn : n ≤ 2 * m) :
    ((2 * t + if rem = 0 then 0 else 1) * n) * G ≤ (2 * (m * G)) * G + 2 * (m * G) ∧ (2 * (m * G)) * G ≤ ((2 * t + if rem = 0 then 0 else 1) * n) * G + 2 * (m * G) := by
  have q : (2 * t + if rem = 0 then 0 else 1) * n = 2 * (n * t) + (if rem = 0 then 0 else n) := by
    rw [Nat.add_mul, Nat.mul_assoc, Nat.mul_comm t n]
    split <;> simp
  have h1 : n * G ≤ 2 * (m * G) := by rw [← Nat.mul_assoc]; exact Nat.mul_le_mul_right _ hn
  rw [q]
  have h2 : 2 * (n * t) + (if rem = 0 then 0 else n) ≤ 2 * (m * G) + n := by split <;> omega
  have h3 : 2 * (m * G) ≤ 2 * (n * t) + (if rem = 0 then 0 else n) + n := by split <;> omega
  have h4 := Nat.mul_le_mul_right G h2
  have h5 := Nat.mul_le_mul_right G h3
  rw [Nat.add_mul (2 * (m * G)) n] at h4
  rw [Nat.add_mul (2 * (n * t) + (if rem = 0 then 0 else n)) n] at h5
  omega

/-- A quotient of whole numbers: the rounded quotient of N and 2^1074, where N is within a 2^54th of it. -/
theorem div_nat {a b p r : Nat} (ha : a < 2047 * 2 ^ 52) (hb : b < 2047 * 2 ^ 52) (hp : mval a = p * U) (hr : mval b = r * U) (p0 : 0 < p) (r0 : 0 < r) (r1 : r ≤ 2 ^ 16) :
    ∃ N, double.div a b = some (rng 0 N) ∧ 2 ^ 54 * (N * r) ≤ 2 ^ 54 * (p * U) + p * U ∧ 2 ^ 54 * (p * U) ≤ 2 ^ 54 * (N * r) + p * U := by
  have big : (2 : Nat) ^ 52 ≤ U := by rw [U_def]; exact Nat.pow_le_pow_right (by omega) (by decide)
  have small (x y : Nat) (hx : mval x = y * U) (y0 : 0 < y) : 2 ^ 52 ≤ x := by
    by_cases c : x < 2 ^ 52
    · exfalso
      have h1 : mval x = x := by simp [mval, c]
      have h2 : 1 * U ≤ y * U := Nat.mul_le_mul_right _ y0
      omega
    · omega
  obtain ⟨m, i, e1, v1, hm1, hm2, _⟩ := read_pos ha
  obtain ⟨n, j, e2, v2, hn1, hn2, _⟩ := read_pos hb
  have hm := hm2 (small a p hp p0)
  have hn := hn2 (small b r hr r0)
  rw [hp] at v1
  rw [hr] at v2
  have lm : m.log2 = 52 := (Nat.log2_eq_iff (by omega)).2 ⟨hm, hm1⟩
  have ln : n.log2 = 52 := (Nat.log2_eq_iff (by omega)).2 ⟨hn, hn1⟩
  have v1' := v1
  have v2' := v2
  rw [U_def] at v1' v2'
  have hi := exp_lo v1' hm1 p0
  have hj := exp_hi v2' hn r1
  clear v1' v2'
  unfold Format.div
  rw [e1, e2]
  have hfb : double.fractionBits = 52 := rfl
  have n0 : n ≠ 0 := by omega
  simp only [Datum.quotient, hfb, lm, ln, n0, if_false, Option.map_some, write_number, Nat.shiftLeft_eq]
  obtain ⟨e, he⟩ : ∃ e : Nat, i + 1019 = j + e := ⟨i + 1019 - j, by rw [UE_def] at hi hj; omega⟩
  rw [show 52 + 2 + 52 - 52 = 54 by rfl, nearest_eq _ _ _ 0 (by omega)]
  have e5 : (-1074 + (i : Int) - (-1074 + (j : Int)) - ((54 : Nat) : Int) - 1 + 1074 + ((0 : Nat) : Int)).toNat = e := by omega
  rw [e5, show (false ^^ false) = false by rfl, word_false]
  refine ⟨_, rfl, ?_⟩
  have hD := Nat.div_add_mod (m * 2 ^ 54) n
  have hlt := Nat.mod_lt (m * 2 ^ 54) (show 0 < n by omega)
  have hs : (m * 2 ^ 54 % n != 0).toNat = if m * 2 ^ 54 % n = 0 then 0 else 1 := by
    by_cases c : m * 2 ^ 54 % n = 0 <;> simp [c]
  rw [hs]
  generalize m * 2 ^ 54 % n = rem at *
  generalize m * 2 ^ 54 / n = t at *
  have near := div_near (G := 2 ^ 54) hD hlt (show n ≤ 2 * m by omega)
  generalize (2 * t + if rem = 0 then 0 else 1) = K at *
  -- times 2^(e + j)
  have scale : K * 2 ^ e * r * U = (K * n) * 2 ^ (e + j) := by
    rw [Nat.mul_assoc (K * 2 ^ e), ← v2, Nat.pow_add, swap4]
  have scale2 : p * U * U = (2 * (m * 2 ^ 54)) * 2 ^ (e + j) := by
    rw [← v1, show 2 * (m * 2 ^ 54) = m * 2 ^ 55 by omega, Nat.mul_assoc, Nat.mul_assoc, ← Nat.pow_add, U_def, ← Nat.pow_add, show i + UE = 55 + (e + j) by rw [UE_def]; omega]
  have hG := U_pos
  clear hi hj he e5 hD hlt hs v1 v2 hm hn hm1 hn1 hm2 hn2 lm ln big small hp hr
  generalize 2 * (m * 2 ^ 54) = M at *
  generalize 2 ^ (e + j) = E at *
  have n1 := Nat.mul_le_mul_right E near.1
  have n2 := Nat.mul_le_mul_right E near.2
  clear near
  rw [Nat.add_mul, Nat.mul_right_comm, Nat.mul_right_comm M, ← scale, ← scale2] at n1
  rw [Nat.add_mul, Nat.mul_right_comm, Nat.mul_right_comm (K * n), ← scale, ← scale2] at n2
  generalize K * 2 ^ e * r = X at *
  generalize p * U = Y at *
  generalize (2 : Nat) ^ 54 = T at *
  rw [Nat.mul_right_comm X, Nat.mul_right_comm Y, ← Nat.add_mul] at n1
  rw [Nat.mul_right_comm X, Nat.mul_right_comm Y, ← Nat.add_mul] at n2
  have n1' := Nat.le_of_mul_le_mul_right n1 hG
  have n2' := Nat.le_of_mul_le_mul_right n2 hG
  rw [Nat.mul_comm T X, Nat.mul_comm T Y]
  exact ⟨n1', n2'⟩

end Flt
end Go.Proofs.Ythdmghocfngfgaa

namespace Go.Proofs.Ythdmghocfngfgaa
namespace Flt
open Ieee

theorem fmt : FloatKind.f64.format = Ieee.double := rfl

/-- Fix, on bits. -/
def fixB (x : Nat) : Nat :=
  if (FloatKind.f64.format.order x x != some .eq) = true then 4607182418800017408
  else if (FloatKind.f64.format.order x 4607182418800017408 == some .gt) = true then 4607182418800017408
  else if (FloatKind.f64.format.order x 0 == some .lt || FloatKind.f64.format.order x 0 == some .eq) = true then 0 else x

theorem beq_lt (a b : Nat) : (some (compare a b) == some Ordering.lt) = decide (a < b) := by
  rw [Bool.eq_iff_iff]; simp [Nat.compare_eq_lt]
theorem beq_eq (a b : Nat) : (some (compare a b) == some Ordering.eq) = decide (a = b) := by
  rw [Bool.eq_iff_iff]; simp
theorem beq_gt (a b : Nat) : (some (compare a b) == some Ordering.gt) = decide (b < a) := by
  rw [Bool.eq_iff_iff]; simp [Nat.compare_eq_gt]
theorem le_bool (a b : Nat) : (some (compare a b) == some Ordering.lt || some (compare a b) == some Ordering.eq) = decide (a ≤ b) := by
  rw [beq_lt, beq_eq, Bool.eq_iff_iff]; simp; omega
theorem ge_bool (a b : Nat) : (some (compare a b) == some Ordering.gt || some (compare a b) == some Ordering.eq) = decide (b ≤ a) := by
  rw [beq_gt, beq_eq, Bool.eq_iff_iff]; simp; omega

section
variable {x y : Nat} (hx : x < 2047 * 2 ^ 52) (hy : y < 2047 * 2 ^ 52)
include hx hy
theorem ord_le : (FloatKind.f64.format.order x y == some .lt || FloatKind.f64.format.order x y == some .eq) = decide (mval x ≤ mval y) := by rw [fmt, order_pos hx hy, le_bool]
theorem ord_ge : (FloatKind.f64.format.order x y == some .gt || FloatKind.f64.format.order x y == some .eq) = decide (mval y ≤ mval x) := by rw [fmt, order_pos hx hy, ge_bool]
theorem ord_lt : (FloatKind.f64.format.order x y == some .lt) = decide (mval x < mval y) := by rw [fmt, order_pos hx hy, beq_lt]
theorem ord_gt : (FloatKind.f64.format.order x y == some .gt) = decide (mval y < mval x) := by rw [fmt, order_pos hx hy, beq_gt]
theorem ord_eq : (FloatKind.f64.format.order x y == some .eq) = decide (mval x = mval y) := by rw [fmt, order_pos hx hy, beq_eq]
end
theorem ord_self {x : Nat} (hx : x < 2047 * 2 ^ 52) : (FloatKind.f64.format.order x x == some .eq) = true := by rw [ord_eq hx hx]; simp

theorem one_fin : 4607182418800017408 < 2047 * 2 ^ 52 := by decide
theorem zero_fin : 0 < 2047 * 2 ^ 52 := by decide
theorem mval_zero : mval 0 = 0 := rfl
theorem pow_U (a b : Nat) (h : a + b = UE) : 2 ^ a * 2 ^ b = U := by rw [U_def, ← h, Nat.pow_add]
theorem mval_one : mval 4607182418800017408 = U := by
  unfold mval
  rw [if_neg (by decide), show 4607182418800017408 % 2 ^ 52 = 0 by decide, show 4607182418800017408 / 2 ^ 52 - 1 = 1022 by decide, Nat.add_zero]
  exact pow_U 52 1022 rfl

/-- What is no number from 0 up is a NaN, above 1, or not above 0. -/
theorem kinds {x : Nat} (h : x < 2 ^ 64) : x < 2047 * 2 ^ 52 ∨ (FloatKind.f64.format.order x x != some .eq) = true ∨ (FloatKind.f64.format.order x 4607182418800017408 == some .gt) = true ∨ (FloatKind.f64.format.order x 0 == some .lt || FloatKind.f64.format.order x 0 == some .eq) = true := by
  by_cases c : x < 2047 * 2 ^ 52
  · exact .inl c
  right
  obtain ⟨m1, a1, r1, _⟩ := read_pos one_fin
  obtain ⟨m0, a0, r0, v0, _⟩ := read_pos zero_fin
  have hm0 : m0 = 0 := by
    rw [mval_zero] at v0
    have := two_pow_pos a0
    rcases Nat.eq_zero_or_pos m0 with h | h
    · exact h
    · have := Nat.mul_pos h this; omega
  subst hm0
  rw [fmt]
  unfold Format.order
  rw [r1, r0]
  unfold Format.read
  rw [signWeight_double, binade_double, infRung_double, leastPlace_double]
  dsimp only
  cases hneg : (x / 2 ^ 63 % 2 == 1)
  · have hr : x % 2 ^ 63 = x := by
      have : x / 2 ^ 63 % 2 ≠ 1 := by simpa using hneg
      omega
    rw [hr, if_neg (by omega), if_neg c]
    by_cases e : x = 2047 * 2 ^ 52
    · rw [if_pos e]; right; left; rfl
    · rw [if_neg e]; left; rfl
  · generalize x % 2 ^ 63 = q
    by_cases q1 : q < 2 ^ 52
    · rw [if_pos q1]; right; right
      simp only [Datum.order, signed_false, signed_true, Nat.zero_mul]
      generalize q * 2 ^ _ = z
      rcases Nat.eq_zero_or_pos z with h | h
      · subst h; rfl
      · rw [Int.compare_eq_lt.2 (by omega)]; rfl
    · rw [if_neg q1]
      by_cases q2 : q < 2047 * 2 ^ 52
      · rw [if_pos q2]; right; right
        simp only [Datum.order, signed_false, signed_true, Nat.zero_mul]
        generalize (2 ^ 52 + q % 2 ^ 52) * 2 ^ _ = z
        rcases Nat.eq_zero_or_pos z with h | h
        · subst h; rfl
        · rw [Int.compare_eq_lt.2 (by omega)]; rfl
      · rw [if_neg q2]
        by_cases e : q = 2047 * 2 ^ 52
        · rw [if_pos e]; right; right; rfl
        · rw [if_neg e]; left; rfl

theorem fixB_fin {x : Nat} (h : x < 2 ^ 64) : fixB x < 2047 * 2 ^ 52 ∧ mval (fixB x) ≤ U := by
  unfold fixB
  by_cases c1 : (FloatKind.f64.format.order x x != some .eq) = true
  · rw [if_pos c1]; exact ⟨one_fin, by rw [mval_one]; exact Nat.le_refl _⟩
  rw [if_neg c1]
  by_cases c2 : (FloatKind.f64.format.order x 4607182418800017408 == some .gt) = true
  · rw [if_pos c2]; exact ⟨one_fin, by rw [mval_one]; exact Nat.le_refl _⟩
  rw [if_neg c2]
  by_cases c3 : (FloatKind.f64.format.order x 0 == some .lt || FloatKind.f64.format.order x 0 == some .eq) = true
  · rw [if_pos c3]; exact ⟨zero_fin, by rw [mval_zero]; exact Nat.zero_le _⟩
  rw [if_neg c3]
  have hx : x < 2047 * 2 ^ 52 := by
    rcases kinds h with k | k | k | k
    · exact k
    · exact absurd k c1
    · exact absurd k c2
    · exact absurd k c3
  refine ⟨hx, ?_⟩
  rw [ord_gt hx one_fin, mval_one] at c2
  simp only [decide_eq_true_eq] at c2
  omega

theorem fixB_low {x : Nat} (hx : x < 2047 * 2 ^ 52) (h : mval x ≤ U) (h0 : mval x = 0 → x = 0) : fixB x = x := by
  unfold fixB
  rw [if_neg (by have := ord_self hx; simp only [bne, this]; decide), if_neg (by rw [ord_gt hx one_fin, mval_one]; simp only [decide_eq_true_eq]; omega)]
  by_cases c : (FloatKind.f64.format.order x 0 == some .lt || FloatKind.f64.format.order x 0 == some .eq) = true
  · rw [if_pos c]
    rw [ord_le hx zero_fin, mval_zero] at c
    exact (h0 (by simpa using c)).symm
  · rw [if_neg c]

theorem mval_pos {x : Nat} (h : mval x = 0) : x = 0 := by
  unfold mval at h
  by_cases c : x < 2 ^ 52
  · rwa [if_pos c] at h
  · rw [if_neg c] at h
    have := Nat.mul_pos (show 0 < 2 ^ 52 + x % 2 ^ 52 by omega) (two_pow_pos (x / 2 ^ 52 - 1))
    omega

theorem fixB_fixB {x : Nat} (h : x < 2 ^ 64) : fixB (fixB x) = fixB x :=
  fixB_low (fixB_fin h).1 (fixB_fin h).2 mval_pos

/-- The rounded product of the fixed threshold and a size. -/
def mostB (x : Nat) (r : Int) : Nat := (FloatKind.f64.format.mul (fixB x) (floatOfInt .f64 r)).getD 0

theorem near2 {n : Nat} (h : n < 2 ^ 64) : mval (rng 0 (n * U)) ≤ 2 * (n * U) := by
  have := (rng_near0 (by have := lt_2097 h (by decide); rwa [Nat.zero_add] at this)).1
  generalize n * U = A at *
  generalize mval (rng 0 A) = B at *
  omega

theorem prod_lt {a n : Nat} (ha : a ≤ U) (h : n < 2 ^ 64) : a * mval (rng 0 (n * U)) < 2 ^ (UE + 2097) := by
  have h1 := near2 h
  have h2 : a * mval (rng 0 (n * U)) ≤ U * (2 * (n * U)) := Nat.mul_le_mul ha h1
  refine Nat.lt_of_le_of_lt h2 ?_
  have h3 : n * U < 2 ^ (64 + UE) := lt_pow (u := UE) h (Nat.le_refl _)
  have h4 : 2 * (n * U) < 2 ^ (64 + UE + 1) := by rw [Nat.pow_succ, Nat.mul_comm]; exact Nat.mul_lt_mul_of_pos_right h3 (by decide)
  rw [Nat.mul_comm U]
  exact lt_pow (u := UE) h4 (by rw [UE_def]; decide)

theorem most_eq {x : Nat} (hx : x < 2 ^ 64) {r : Nat} (hr : r < 2 ^ 64) :
    FloatKind.f64.format.mul (fixB x) (floatOfInt .f64 (r : Int)) = some (mostB x r) ∧ mostB x r < 2047 * 2 ^ 52 ∧ mostB x r = rng UE (mval (fixB x) * mval (rng 0 (r * U))) := by
  have e : FloatKind.f64.format.mul (fixB x) (floatOfInt .f64 (r : Int)) = some (rng UE (mval (fixB x) * mval (rng 0 (r * U)))) := by
    rw [fmt, ofNat_eq]; exact mul_pos (fixB_fin hx).1 (fin_ofNat hr)
  have e2 : mostB x r = rng UE (mval (fixB x) * mval (rng 0 (r * U))) := by unfold mostB; rw [e, Option.getD_some]
  rw [e2]
  exact ⟨e, (mval_rng (prod_lt (fixB_fin hx).2 hr)).2, rfl⟩

/-- Worth, on bits and whole numbers. -/
def worthB (x : Nat) (p r : Int) : Bool :=
  !decide (p < 0) && (!decide (r ≤ 0) && (!decide (r ≤ p) && (FloatKind.f64.format.order (floatOfInt .f64 p) (mostB x r) == some .lt || FloatKind.f64.format.order (floatOfInt .f64 p) (mostB x r) == some .eq)))

theorem worth_nat {x : Nat} (hx : x < 2 ^ 64) {p r : Nat} (hr : r < 2 ^ 64) : worthB x p r = (decide (p < r) && decide (mval (rng 0 (p * U)) ≤ mval (mostB x r))) := by
  unfold worthB
  by_cases h : p < r
  · rw [ofNat_eq, ord_le (fin_ofNat (by omega)) (most_eq hx hr).2.1]
    have h1 : decide ((p : Int) < 0) = false := by simp
    have h2 : decide ((r : Int) ≤ 0) = false := by simp; omega
    have h3 : decide ((r : Int) ≤ p) = false := by simp; omega
    rw [h1, h2, h3]; simp [h]
  · have h3 : decide ((r : Int) ≤ p) = true := by simp; omega
    rw [h3]; simp [h]

theorem most_mono {x y : Nat} (hx : x < 2 ^ 64) (hy : y < 2 ^ 64) {r : Nat} (hr : r < 2 ^ 64) (h : mval (fixB x) ≤ mval (fixB y)) : mval (mostB x r) ≤ mval (mostB y r) := by
  rw [(most_eq hx hr).2.2, (most_eq hy hr).2.2]
  exact mval_rng_mono (Nat.mul_le_mul_right _ h) (prod_lt (fixB_fin hy).2 hr)

theorem worth_mono {x y : Nat} (hx : x < 2 ^ 64) (hy : y < 2 ^ 64) {p r : Nat} (hr : r < 2 ^ 64) (h : mval (fixB x) ≤ mval (fixB y)) (hw : worthB x p r = true) : worthB y p r = true := by
  rw [worth_nat hx hr] at hw
  rw [worth_nat hy hr]
  have := most_mono hx hy hr h
  simp only [Bool.and_eq_true, decide_eq_true_eq] at hw ⊢
  omega

theorem worth_less {x : Nat} (hx : x < 2 ^ 64) {p r : Nat} (hr : r < 2 ^ 64) (hw : worthB x ((p + 1 : Nat) : Int) r = true) : worthB x p r = true := by
  rw [worth_nat hx hr] at hw
  rw [worth_nat hx hr]
  simp only [Bool.and_eq_true, decide_eq_true_eq] at hw ⊢
  have : mval (rng 0 (p * U)) ≤ mval (rng 0 ((p + 1) * U)) := mval_rng_mono (Nat.mul_le_mul_right _ (by omega)) (lt_2097 (show p + 1 < 2 ^ 64 by omega) (by decide))
  omega

end Flt
end Go.Proofs.Ythdmghocfngfgaa

namespace Go.Proofs.Ythdmghocfngfgaa
open Go.RowKit Flt

set_option maxHeartbeats 400000 in
theorem isnan_any (x : Nat) (w : World) :
    Calls Try.prog 39 #[.float .f64 x] w fun e w' => e = .returned (.bool (FloatKind.f64.format.order x x != some .eq)) ∧ w = w' := by
  go_enter Try.func39, Try.ntmps39
  go_wp2
  go_ret
  exact ⟨rfl, rfl⟩

set_option maxHeartbeats 400000 in
theorem fix_any (x : Nat) (w : World) :
    Calls Try.prog 24 #[.float .f64 x] w fun e w' => e = .returned (.float .f64 (fixB x)) ∧ w = w' := by
  unfold fixB
  cases c1 : (FloatKind.f64.format.order x x != some .eq)
  · cases c2 : (FloatKind.f64.format.order x 4607182418800017408 == some .gt)
    · cases c3 : (FloatKind.f64.format.order x 0 == some .lt || FloatKind.f64.format.order x 0 == some .eq)
      all_goals
        go_enter Try.func24, Try.ntmps24
        go_wp2_with (go_at_call 39; refine (isnan_any _ _).mono ?_; rintro e w' ⟨rfl, rfl⟩)
        go_ret
        exact ⟨rfl, rfl⟩
    · go_enter Try.func24, Try.ntmps24
      go_wp2_with (go_at_call 39; refine (isnan_any _ _).mono ?_; rintro e w' ⟨rfl, rfl⟩)
      go_ret
      exact ⟨rfl, rfl⟩
  · go_enter Try.func24, Try.ntmps24
    go_wp2_with (go_at_call 39; refine (isnan_any _ _).mono ?_; rintro e w' ⟨rfl, rfl⟩)
    go_ret
    exact ⟨rfl, rfl⟩

theorem worth_neg {x : Nat} {p r : Int} (h : p < 0) : worthB x p r = false := by unfold worthB; rw [decide_eq_true h]; rfl
theorem worth_low {x : Nat} {p r : Int} (h : r ≤ 0) : worthB x p r = false := by unfold worthB; rw [decide_eq_true h]; simp
theorem worth_high {x : Nat} {p r : Int} (h : r ≤ p) : worthB x p r = false := by unfold worthB; rw [decide_eq_true h]; simp
theorem worth_mid {x : Nat} {p r : Int} (h1 : ¬ p < 0) (h2 : ¬ r ≤ 0) (h3 : ¬ r ≤ p) : worthB x p r = (FloatKind.f64.format.order (floatOfInt .f64 p) (mostB x r) == some .lt || FloatKind.f64.format.order (floatOfInt .f64 p) (mostB x r) == some .eq) := by
  unfold worthB; rw [decide_eq_false h1, decide_eq_false h2, decide_eq_false h3]; simp

theorem run_most {x : Nat} (hx : x < 2 ^ 64) {r : Int} (h0 : 0 < r) (h1 : r < 2 ^ 63) (w : World) :
    (binOp .mul 22 (.float .f64 (fixB x)) (.float .f64 (floatOfInt .f64 r))).run Try.prog w = .ok (.float .f64 (mostB x r)) w := by
  obtain ⟨n, rfl⟩ : ∃ n : Nat, r = n := ⟨r.toNat, by omega⟩
  exact run_float_arith w .mul _ .f64 _ _ _ (most_eq hx (show n < 2 ^ 64 by omega)).1

end Go.Proofs.Ythdmghocfngfgaa
