/- What IEEE double arithmetic does with numbers that are not negative, said of whole numbers: no condition. Used by the proofs about package gain. -/
import Derived.Laws.FloatArith
namespace Go.Proofs.Ytepfdhfoobeoeaa
namespace Flt
open Ieee

theorem two_pow_pos (d : Nat) : 0 < 2 ^ d := Nat.two_pow_pos d

/-- n / 2^d, rounded half to even. -/
def rhe (n d : Nat) : Nat := n / 2 ^ d + (decide (2 ^ d < 2 * (n % 2 ^ d)) || (2 ^ d == 2 * (n % 2 ^ d) && n / 2 ^ d % 2 == 1)).toNat

theorem cut_even (neg : Bool) (n d : Nat) : Toward.even.cut neg n d = rhe n d := by
  unfold Toward.cut rhe
  by_cases h : d ≤ n.log2 + 2
  · simp [Nat.min_eq_left h, Nat.one_shiftLeft]
  · have e : min d (n.log2 + 2) = n.log2 + 2 := by omega
    have l1 : n < 2 ^ (n.log2 + 1) := Nat.lt_log2_self
    have l2 : 2 ^ (n.log2 + 2) = 2 * 2 ^ (n.log2 + 1) := by rw [Nat.pow_succ]; omega
    have l3 : 2 ^ (n.log2 + 2) ≤ 2 ^ d := Nat.pow_le_pow_right (by omega) (by omega)
    have a1 : n / 2 ^ (n.log2 + 2) = 0 := Nat.div_eq_of_lt (by omega)
    have a2 : n / 2 ^ d = 0 := Nat.div_eq_of_lt (by omega)
    have a3 : n % 2 ^ (n.log2 + 2) = n := Nat.mod_eq_of_lt (by omega)
    have a4 : n % 2 ^ d = n := Nat.mod_eq_of_lt (by omega)
    simp only [e, Nat.one_shiftLeft, a1, a2, a3, a4]
    have b1 : decide (2 ^ (n.log2 + 2) < 2 * n) = false := by simp; omega
    have b2 : decide (2 ^ d < 2 * n) = false := by simp; omega
    simp [b1, b2]

theorem rhe_zero (d : Nat) : rhe 0 d = 0 := by
  unfold rhe
  have := two_pow_pos d
  simp

theorem rhe_none (n : Nat) : rhe n 0 = n := by
  unfold rhe
  simp [Nat.mod_one]

theorem toNat_le (b : Bool) : b.toNat ≤ 1 := by cases b <;> simp

theorem rhe_whole (a d : Nat) : rhe (a * 2 ^ d) d = a := by
  unfold rhe
  have := two_pow_pos d
  have h0 : 2 ^ d ≠ 0 := by omega
  have h1 : (2 ^ d == 0) = false := by simp
  simp [Nat.mul_div_cancel _ this]

theorem rhe_mono {n m : Nat} (d : Nat) (h : n ≤ m) : rhe n d ≤ rhe m d := by
  have hp := two_pow_pos d
  have hq : n / 2 ^ d ≤ m / 2 ^ d := Nat.div_le_div_right h
  by_cases e : n / 2 ^ d = m / 2 ^ d
  · have e1 := Nat.div_add_mod n (2 ^ d)
    have e2 := Nat.div_add_mod m (2 ^ d)
    rw [e] at e1
    have hr : n % 2 ^ d ≤ m % 2 ^ d := by omega
    unfold rhe
    rw [e]
    generalize n % 2 ^ d = r at *
    generalize m % 2 ^ d = s at *
    generalize m / 2 ^ d = q at *
    generalize 2 ^ d = g at *
    by_cases c1 : g < 2 * r
    · simp [c1, show g < 2 * s by omega]
    · by_cases c2 : g < 2 * s
      · simp [c2]; exact toNat_le _
      · by_cases c3 : g = 2 * r
        · have : r = s := by omega
          subst this; simp
        · have : (g == 2 * r) = false := by simp [c3]
          simp [c1, this]
  · unfold rhe
    have := toNat_le (decide (2 ^ d < 2 * (n % 2 ^ d)) || (2 ^ d == 2 * (n % 2 ^ d) && n / 2 ^ d % 2 == 1))
    omega

theorem rhe_ge {n a : Nat} (d : Nat) (h : a * 2 ^ d ≤ n) : a ≤ rhe n d := by
  have := rhe_mono d h; rwa [rhe_whole] at this
theorem rhe_le {n a : Nat} (d : Nat) (h : n ≤ a * 2 ^ d) : rhe n d ≤ a := by
  have := rhe_mono d h; rwa [rhe_whole] at this

/-- The rounded number times 2^d is at most half a unit away. -/
theorem rhe_near (n d : Nat) : 2 * (rhe n d * 2 ^ d) ≤ 2 * n + 2 ^ d ∧ 2 * n ≤ 2 * (rhe n d * 2 ^ d) + 2 ^ d := by
  have hp := two_pow_pos d
  have e1 := Nat.div_add_mod n (2 ^ d)
  have l := Nat.mod_lt n hp
  unfold rhe
  generalize n % 2 ^ d = r at *
  generalize n / 2 ^ d = q at *
  generalize 2 ^ d = g at *
  rw [Nat.add_mul, Nat.mul_comm q g]
  by_cases c1 : g < 2 * r
  · simp [c1]; omega
  · by_cases c2 : g = 2 * r
    · have h1 : (g == 2 * r) = true := by simp [c2]
      have h2 : decide (g < 2 * r) = false := by simp; omega
      rw [h1, h2]
      cases hb : (q % 2 == 1) <;> simp <;> omega
    · have : (g == 2 * r) = false := by simp [c2]
      simp [c1, this]; omega

theorem rhe_scale (n d k : Nat) : rhe (n * 2 ^ k) (d + k) = rhe n d := by
  have hp := two_pow_pos k
  unfold rhe
  rw [Nat.pow_add, Nat.mul_div_mul_right _ _ hp, Nat.mul_mod_mul_right]
  have e : 2 * (n % 2 ^ d * 2 ^ k) = (2 * (n % 2 ^ d)) * 2 ^ k := by rw [Nat.mul_assoc]
  rw [e]
  have a : (decide (2 ^ d * 2 ^ k < 2 * (n % 2 ^ d) * 2 ^ k)) = decide (2 ^ d < 2 * (n % 2 ^ d)) := by
    rw [decide_eq_decide]; exact Nat.mul_lt_mul_right hp
  have b : (2 ^ d * 2 ^ k == 2 * (n % 2 ^ d) * 2 ^ k) = (2 ^ d == 2 * (n % 2 ^ d)) := by
    rw [Bool.eq_iff_iff, beq_iff_eq, beq_iff_eq]
    exact ⟨fun h => Nat.eq_of_mul_eq_mul_right hp h, fun h => congrArg (· * 2 ^ k) h⟩
  rw [a, b]

/-- The exponent of the last digit that is kept of N, above d. -/
def lst (d N : Nat) : Nat := max (N.log2 - 52) d
/-- The rung of the double nearest to N * 2^(-1074 - d). -/
def rng (d N : Nat) : Nat := min ((lst d N - d) * 2 ^ 52 + rhe N (lst d N)) double.infRung

theorem rng_zero (d : Nat) : rng d 0 = 0 := by
  unfold rng lst
  have : max (Nat.log2 0 - 52) d = d := by simp [Nat.log2_zero]
  rw [this, rhe_zero]; simp

theorem log2_mul_pow (n k : Nat) (h : n ≠ 0) : (n * 2 ^ k).log2 = n.log2 + k := by
  have hp := two_pow_pos k
  have hn : n * 2 ^ k ≠ 0 := Nat.mul_ne_zero h (by omega)
  rw [Nat.log2_eq_iff hn, Nat.pow_add, show n.log2 + k + 1 = n.log2 + 1 + k by omega, Nat.pow_add]
  exact ⟨Nat.mul_le_mul_right _ (Nat.log2_self_le h), Nat.mul_lt_mul_of_pos_right Nat.lt_log2_self hp⟩

theorem leastPlace_double : double.leastPlace = -1074 := by decide
theorem binade_double : double.binade = 2 ^ 52 := by decide

/-- Rounding depends only on the number. -/
theorem nearest_eq (neg : Bool) (mag : Nat) (place : Int) (d : Nat) (hd : -1074 - (d : Int) ≤ place) :
    double.nearest neg mag place = double.word neg (rng d (mag * 2 ^ (place + 1074 + d).toNat)) := by
  unfold Format.nearest
  by_cases hm : mag = 0
  · subst hm; simp [rng_zero]
  rw [if_neg hm]
  dsimp only
  rw [leastPlace_double, binade_double]
  have hfb : ((double.fractionBits : Nat) : Int) = 52 := rfl
  rw [hfb]
  obtain ⟨k, hk⟩ : ∃ k : Nat, place + 1074 + d = k := ⟨(place + 1074 + d).toNat, by omega⟩
  have hlog := log2_mul_pow mag k hm
  rw [hk, Int.toNat_natCast]
  have hlast : max (place + (mag.log2 : Int) - 52) (-1074) = (lst d (mag * 2 ^ k) : Int) - 1074 - d := by
    unfold lst; rw [hlog]; omega
  rw [hlast]
  have hL : d ≤ lst d (mag * 2 ^ k) := by unfold lst; omega
  have hrhe : Toward.even.cut neg (mag <<< (place - ((lst d (mag * 2 ^ k) : Int) - 1074 - d)).toNat) (((lst d (mag * 2 ^ k) : Int) - 1074 - d) - place).toNat = rhe (mag * 2 ^ k) (lst d (mag * 2 ^ k)) := by
    rw [cut_even, Nat.shiftLeft_eq]
    generalize lst d (mag * 2 ^ k) = L at *
    by_cases c : L ≤ k
    · have e1 : (place - ((L : Int) - 1074 - d)).toNat = k - L := by omega
      have e2 : (((L : Int) - 1074 - d) - place).toNat = 0 := by omega
      rw [e1, e2, rhe_none]
      have : mag * 2 ^ k = mag * 2 ^ (k - L) * 2 ^ L := by rw [Nat.mul_assoc, ← Nat.pow_add]; congr 2; omega
      rw [this, rhe_whole]
    · have e1 : (place - ((L : Int) - 1074 - d)).toNat = 0 := by omega
      have e2 : (((L : Int) - 1074 - d) - place).toNat = L - k := by omega
      rw [e1, e2]
      have : L = (L - k) + k := by omega
      conv => rhs; rw [this]
      rw [rhe_scale]; simp
  rw [hrhe]
  unfold rng
  have e3 : ((lst d (mag * 2 ^ k) : Int) - 1074 - d - -1074).toNat = lst d (mag * 2 ^ k) - d := by omega
  rw [e3]

theorem rng_scale (d k N : Nat) : rng (d + k) (N * 2 ^ k) = rng d N := by
  by_cases h : N = 0
  · subst h; simp [rng_zero]
  unfold rng
  have : lst (d + k) (N * 2 ^ k) = lst d N + k := by
    unfold lst; rw [log2_mul_pow N k h]; omega
  rw [this, rhe_scale]
  congr 3; omega

/-- The number of a finite rung, in units of 2^-1074. -/
def mval (b : Nat) : Nat := if b < 2 ^ 52 then b else (2 ^ 52 + b % 2 ^ 52) * 2 ^ (b / 2 ^ 52 - 1)

theorem infRung_double : double.infRung = 2047 * 2 ^ 52 := by decide
theorem signWeight_double : double.signWeight = 2 ^ 63 := by decide

/-- What a finite word that is not negative stands for. -/
theorem read_pos {b : Nat} (h : b < 2047 * 2 ^ 52) :
    ∃ m a : Nat, double.read b = .number false m (-1074 + a) ∧ m * 2 ^ a = mval b ∧ m < 2 ^ 53 ∧ (2 ^ 52 ≤ b → 2 ^ 52 ≤ m) ∧ (b < 2 ^ 52 → a = 0) := by
  unfold Format.read
  have h1 : b / double.signWeight % 2 = 0 := by rw [signWeight_double, Nat.div_eq_of_lt (by omega)]
  have h2 : b % double.signWeight = b := by rw [signWeight_double]; exact Nat.mod_eq_of_lt (by omega)
  rw [h1, h2, binade_double, infRung_double, leastPlace_double]
  have h3 : ((0 : Nat) == 1) = false := rfl
  rw [h3]
  dsimp only
  by_cases c : b < 2 ^ 52
  · refine ⟨b, 0, by simp [c], by simp [mval, c], by omega, by omega, fun _ => rfl⟩
  · refine ⟨2 ^ 52 + b % 2 ^ 52, b / 2 ^ 52 - 1, by simp [c, h], by simp [mval, c], ?_, by omega, by omega⟩
    have := Nat.mod_lt b (two_pow_pos 52); omega

theorem signed_false (m k : Nat) : signed false m k = ((m * 2 ^ k : Nat) : Int) := by
  simp [signed, Nat.shiftLeft_eq]
theorem signed_true (m k : Nat) : signed true m k = -((m * 2 ^ k : Nat) : Int) := by
  simp [signed, Nat.shiftLeft_eq]

/-- Two finite words that are not negative stand to each other as their numbers do. -/
theorem order_pos {x y : Nat} (hx : x < 2047 * 2 ^ 52) (hy : y < 2047 * 2 ^ 52) : double.order x y = some (compare (mval x) (mval y)) := by
  obtain ⟨m, a, e1, v1, _⟩ := read_pos hx
  obtain ⟨n, c, e2, v2, _⟩ := read_pos hy
  unfold Format.order
  rw [e1, e2]
  simp only [Datum.order, signed_false]
  congr 1
  rw [← v1, ← v2]
  obtain ⟨g, hg⟩ : ∃ g : Nat, min (-1074 + (a : Int)) (-1074 + (c : Int)) = -1074 + g := ⟨min a c, by omega⟩
  rw [hg]
  have e3 : (-1074 + (a : Int) - (-1074 + g)).toNat = a - g := by omega
  have e4 : (-1074 + (c : Int) - (-1074 + g)).toNat = c - g := by omega
  rw [e3, e4]
  have e5 : m * 2 ^ a = m * 2 ^ (a - g) * 2 ^ g := by rw [Nat.mul_assoc, ← Nat.pow_add]; congr 2; omega
  have e6 : n * 2 ^ c = n * 2 ^ (c - g) * 2 ^ g := by rw [Nat.mul_assoc, ← Nat.pow_add]; congr 2; omega
  rw [e5, e6]
  have hp := two_pow_pos g
  generalize m * 2 ^ (a - g) = A
  generalize n * 2 ^ (c - g) = B
  rcases Nat.lt_trichotomy A B with h | h | h
  · rw [Nat.compare_eq_lt.2 (Nat.mul_lt_mul_of_pos_right h hp)]
    exact Int.compare_eq_lt.2 (by omega)
  · subst h; rw [Nat.compare_eq_eq.2 rfl]; exact Int.compare_eq_eq.2 rfl
  · rw [Nat.compare_eq_gt.2 (Nat.mul_lt_mul_of_pos_right h hp)]
    exact Int.compare_eq_gt.2 (by omega)

theorem log2_lt_pow {N k : Nat} (h : N < 2 ^ k) (h0 : N ≠ 0) : N.log2 < k := (Nat.log2_lt h0).2 h

theorem rhe_le_two53 (d N : Nat) : rhe N (lst d N) ≤ 2 ^ 53 := by
  refine rhe_le _ ?_
  have h1 : N < 2 ^ (N.log2 + 1) := Nat.lt_log2_self
  have h2 : N.log2 + 1 ≤ 53 + lst d N := by unfold lst; omega
  rw [← Nat.pow_add]
  have := Nat.pow_le_pow_right (n := 2) (by omega) h2
  omega

theorem rhe_ge_two52 {d N : Nat} (h : d < lst d N) : 2 ^ 52 ≤ rhe N (lst d N) := by
  have h1 : lst d N = N.log2 - 52 := by unfold lst at *; omega
  have h0 : N ≠ 0 := by rintro rfl; simp [lst, Nat.log2_zero] at h
  refine rhe_ge _ ?_
  rw [h1, ← Nat.pow_add, show 52 + (N.log2 - 52) = N.log2 by unfold lst at *; omega]
  exact Nat.log2_self_le h0

theorem fit (u K : Nat) (h : u ≤ 2044) (h2 : K ≤ 2 ^ 53) : u * 2 ^ 52 + K ≤ 2047 * 2 ^ 52 := by omega
theorem fits (u K : Nat) (h : u ≤ 2044) (h2 : K ≤ 2 ^ 53) : u * 2 ^ 52 + K < 2047 * 2 ^ 52 := by omega
/-- The rung's number is the rounded number. -/
theorem mval_rng {d N : Nat} (h : N < 2 ^ (d + 2097)) : mval (rng d N) * 2 ^ d = rhe N (lst d N) * 2 ^ lst d N ∧ rng d N < 2047 * 2 ^ 52 := by
  by_cases h0 : N = 0
  · subst h0; rw [rng_zero, rhe_zero]; simp [mval]
  have hl := log2_lt_pow h h0
  have hL : lst d N ≤ d + 2044 := by clear h; unfold lst; omega
  clear h
  have hLd : d ≤ lst d N := by unfold lst; omega
  have h53 := rhe_le_two53 d N
  have hr : rng d N = (lst d N - d) * 2 ^ 52 + rhe N (lst d N) := by
    unfold rng; rw [infRung_double]
    refine Nat.min_eq_left ?_
    exact fit _ _ (by omega) h53
  rw [hr]
  obtain ⟨u, hu⟩ : ∃ u, lst d N = d + u := ⟨lst d N - d, by omega⟩
  have h52 := @rhe_ge_two52 d N
  rw [hu] at h52 h53 ⊢
  generalize rhe N (d + u) = K at *
  rw [show d + u - d = u by omega]
  have hu2 : u ≤ 2044 := by omega
  refine ⟨?_, fits u K hu2 h53⟩
  rw [Nat.add_comm d u, Nat.pow_add, ← Nat.mul_assoc]
  congr 1
  unfold mval
  by_cases hu0 : u = 0
  · subst hu0
    simp only [Nat.zero_mul, Nat.zero_add, Nat.pow_zero, Nat.mul_one]
    by_cases c : K < 2 ^ 52
    · rw [if_pos c]
    · rw [if_neg c]
      by_cases c2 : K = 2 ^ 53
      · subst c2; decide +kernel
      · rw [show K / 2 ^ 52 = 1 by omega, show K % 2 ^ 52 = K - 2 ^ 52 by omega]; simp; omega
  · have hK := h52 (by omega)
    rw [if_neg (by omega)]
    by_cases c2 : K = 2 ^ 53
    · subst c2
      rw [show (u * 2 ^ 52 + 2 ^ 53) / 2 ^ 52 = u + 2 by omega, show (u * 2 ^ 52 + 2 ^ 53) % 2 ^ 52 = 0 by omega, show u + 2 - 1 = u + 1 by omega, Nat.pow_succ]
      omega
    · rw [show (u * 2 ^ 52 + K) / 2 ^ 52 = u + 1 by omega, show (u * 2 ^ 52 + K) % 2 ^ 52 = K - 2 ^ 52 by omega, show u + 1 - 1 = u by omega, show 2 ^ 52 + (K - 2 ^ 52) = K by omega]

/-- Rounding is monotone. -/
theorem rhe_lst_mono {d N M : Nat} (h : N ≤ M) : rhe N (lst d N) * 2 ^ lst d N ≤ rhe M (lst d M) * 2 ^ lst d M := by
  by_cases h0 : N = 0
  · subst h0; rw [rhe_zero]; omega
  have hl : N.log2 ≤ M.log2 := (Nat.le_log2 (by omega)).2 (Nat.le_trans (Nat.log2_self_le h0) h)
  have hL : lst d N ≤ lst d M := by unfold lst; omega
  by_cases e : lst d N = lst d M
  · rw [e]; exact Nat.mul_le_mul_right _ (rhe_mono _ h)
  · have h1 := rhe_le_two53 d N
    have h2 := @rhe_ge_two52 d M (by unfold lst at *; omega)
    calc rhe N (lst d N) * 2 ^ lst d N ≤ 2 ^ 53 * 2 ^ lst d N := Nat.mul_le_mul_right _ h1
      _ = 2 ^ (53 + lst d N) := by rw [Nat.pow_add]
      _ ≤ 2 ^ (52 + lst d M) := Nat.pow_le_pow_right (by omega) (by omega)
      _ = 2 ^ 52 * 2 ^ lst d M := by rw [Nat.pow_add]
      _ ≤ rhe M (lst d M) * 2 ^ lst d M := Nat.mul_le_mul_right _ h2

theorem mval_rng_mono {d N M : Nat} (h : N ≤ M) (hM : M < 2 ^ (d + 2097)) : mval (rng d N) ≤ mval (rng d M) := by
  have h1 := (mval_rng (d := d) (N := N) (by omega)).1
  have h2 := (mval_rng (d := d) (N := M) hM).1
  have := rhe_lst_mono (d := d) h
  rw [← h1, ← h2] at this
  exact Nat.le_of_mul_le_mul_right this (two_pow_pos d)

/-- How far rounding may go: a 2^53rd, and half a unit where the number is small. -/
theorem rng_near {d N : Nat} (h : N < 2 ^ (d + 2097)) :
    2 ^ 53 * (mval (rng d N) * 2 ^ d) ≤ 2 ^ 53 * N + N + 2 ^ 52 * 2 ^ d ∧ 2 ^ 53 * N ≤ 2 ^ 53 * (mval (rng d N) * 2 ^ d) + N + 2 ^ 52 * 2 ^ d := by
  rw [(mval_rng h).1]
  have hn := rhe_near N (lst d N)
  by_cases hL : d < lst d N
  · have h0 : N ≠ 0 := by rintro rfl; simp [lst, Nat.log2_zero] at hL
    have h1 : 2 ^ 52 * 2 ^ lst d N ≤ N := by
      rw [← Nat.pow_add, show 52 + lst d N = N.log2 by unfold lst at *; omega]
      exact Nat.log2_self_le h0
    omega
  · have e : lst d N = d := by unfold lst at *; omega
    rw [e] at hn ⊢
    omega

/-- The same where no unit is lost. -/
theorem rng_near0 {N : Nat} (h : N < 2 ^ 2097) : 2 ^ 53 * mval (rng 0 N) ≤ 2 ^ 53 * N + N ∧ 2 ^ 53 * N ≤ 2 ^ 53 * mval (rng 0 N) + N := by
  have hv := (mval_rng (d := 0) (by rw [Nat.zero_add]; exact h)).1
  rw [Nat.pow_zero, Nat.mul_one] at hv
  rw [hv]
  have hn := rhe_near N (lst 0 N)
  by_cases hL : 0 < lst 0 N
  · have h0 : N ≠ 0 := by rintro rfl; simp [lst, Nat.log2_zero] at hL
    have h1 : 2 ^ 52 * 2 ^ lst 0 N ≤ N := by
      rw [← Nat.pow_add, show 52 + lst 0 N = N.log2 by unfold lst at *; omega]
      exact Nat.log2_self_le h0
    omega
  · have e : lst 0 N = 0 := by omega
    rw [e, rhe_none]; omega

end Flt
end Go.Proofs.Ytepfdhfoobeoeaa
