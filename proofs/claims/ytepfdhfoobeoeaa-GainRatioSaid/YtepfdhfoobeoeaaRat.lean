/- How near the double quotient of two sizes up to 65536 is to the quotient, and what follows for the statement GainRatio. -/
import Derived.Test.YtepfdhfoobeoeaaFix
namespace Go.Proofs.Ytepfdhfoobeoeaa
namespace Flt
open Ieee

theorem near_mul {Y N P r : Nat} (h1 : 2 ^ 53 * Y ≤ 2 ^ 53 * N + N) (h2 : 2 ^ 53 * N ≤ 2 ^ 53 * Y + N) (h3 : 2 ^ 54 * (N * r) ≤ 2 ^ 54 * P + P) (h4 : 2 ^ 54 * P ≤ 2 ^ 54 * (N * r) + P) :
    2 ^ 52 * (Y * r) ≤ 2 ^ 52 * P + P ∧ 2 ^ 52 * P ≤ 2 ^ 52 * (Y * r) + P := by
  have g1 : 2 ^ 53 * (Y * r) ≤ 2 ^ 53 * (N * r) + N * r := by
    have := Nat.mul_le_mul_right r h1
    rw [Nat.add_mul, Nat.mul_assoc, Nat.mul_assoc] at this; exact this
  have g2 : 2 ^ 53 * (N * r) ≤ 2 ^ 53 * (Y * r) + N * r := by
    have := Nat.mul_le_mul_right r h2
    rw [Nat.add_mul, Nat.mul_assoc, Nat.mul_assoc] at this; exact this
  generalize Y * r = A at *
  generalize N * r = B at *
  omega

theorem lt_of_le_two {N P : Nat} (h : 2 ^ 54 * N ≤ 2 ^ 54 * P + P) : N ≤ 2 * P := by omega

theorem fl_fin {n : Nat} (h : n ≤ 65536) : floatOfInt .f64 (n : Int) < 2047 * 2 ^ 52 ∧ mval (floatOfInt .f64 (n : Int)) = n * U := by
  rw [ofNat_eq]
  exact ⟨fin_ofNat (by omega), mval_ofNat (by omega)⟩

theorem read_zero : double.read 0 = .number false 0 (-1074) := by
  unfold Format.read
  rw [signWeight_double, binade_double, leastPlace_double]
  rfl

theorem div_zero {b : Nat} (hb : b < 2047 * 2 ^ 52) (h : mval b ≠ 0) : double.div 0 b = some 0 := by
  obtain ⟨n, j, e2, v2, _⟩ := read_pos hb
  have n0 : n ≠ 0 := by rintro rfl; rw [Nat.zero_mul] at v2; exact h v2.symm
  unfold Format.div
  rw [e2, read_zero]
  simp only [Datum.quotient, n0, if_false, Nat.shiftLeft_eq, Nat.zero_mul, Nat.zero_div, Nat.zero_mod, Option.map_some, write_number]
  unfold Format.nearest
  rfl

/-- The quotient of two sizes: finite, and near. -/
theorem ratio_near {p r : Nat} (hp : p ≤ 65535) (r0 : 0 < r) (hr : r ≤ 65536) :
    ∃ q, FloatKind.f64.format.div (floatOfInt .f64 (p : Int)) (floatOfInt .f64 (r : Int)) = some q ∧ q < 2047 * 2 ^ 52 ∧ 2 ^ 52 * (mval q * r) ≤ 2 ^ 52 * (p * U) + p * U ∧ 2 ^ 52 * (p * U) ≤ 2 ^ 52 * (mval q * r) + p * U := by
  obtain ⟨f1, v1⟩ := fl_fin (show p ≤ 65536 by omega)
  obtain ⟨f2, v2⟩ := fl_fin hr
  rw [fmt]
  by_cases p0 : p = 0
  · subst p0
    have e : floatOfInt .f64 ((0 : Nat) : Int) = 0 := by rw [ofNat_eq, Nat.zero_mul, rng_zero]
    refine ⟨0, ?_, zero_fin, by rw [mval_zero]; simp, by simp⟩
    rw [e]
    refine div_zero f2 ?_
    rw [v2]
    have := Nat.mul_pos r0 U_pos
    omega
  obtain ⟨N, e, h3, h4⟩ := div_nat f1 f2 v1 v2 (by omega) r0 (by omega)
  have hN : N ≤ 2 * (p * U) := by
    have := lt_of_le_two h3
    exact Nat.le_trans (Nat.le_mul_of_pos_right N r0) this
  have hlt : N < 2 ^ 2097 := by
    refine Nat.lt_of_le_of_lt hN ?_
    rw [← Nat.mul_assoc]
    have := lt_2097 (n := 2 * p) (k := 18) (by omega) (by decide)
    rwa [Nat.zero_add] at this
  obtain ⟨h1, h2⟩ := rng_near0 hlt
  have hf := (mval_rng (d := 0) (N := N) (by rw [Nat.zero_add]; exact hlt)).2
  clear hlt hN
  exact ⟨_, e, hf, near_mul h1 h2 h3 h4⟩

theorem near_twice {Z Y P : Nat} (h1 : 2 ^ 53 * Z ≤ 2 ^ 53 * Y + Y) (h2 : 2 ^ 53 * Y ≤ 2 ^ 53 * Z + Y) (h3 : 2 ^ 52 * Y ≤ 2 ^ 52 * P + P) (h4 : 2 ^ 52 * P ≤ 2 ^ 52 * Y + P) :
    2 ^ 51 * Z ≤ 2 ^ 51 * P + P ∧ 2 ^ 51 * P ≤ 2 ^ 51 * Z + P := by omega

theorem small_lt {Y P : Nat} (h : Y ≤ 2 * P) {p : Nat} (hP : P = p * U) (hp : p ≤ 65536) : Y < 2 ^ 2097 := by
  refine Nat.lt_of_le_of_lt h ?_
  rw [hP, ← Nat.mul_assoc]
  have := lt_2097 (n := 2 * p) (k := 18) (by omega) (by decide)
  rwa [Nat.zero_add] at this

/-- The ratio times the size: near. -/
theorem back_near {p r q : Nat} (hp : p ≤ 65535) (hr : r ≤ 65536) (hq : q < 2047 * 2 ^ 52) (h3 : 2 ^ 52 * (mval q * r) ≤ 2 ^ 52 * (p * U) + p * U) (h4 : 2 ^ 52 * (p * U) ≤ 2 ^ 52 * (mval q * r) + p * U) :
    ∃ z, FloatKind.f64.format.mul q (floatOfInt .f64 (r : Int)) = some z ∧ z < 2047 * 2 ^ 52 ∧ 2 ^ 51 * mval z ≤ 2 ^ 51 * (p * U) + p * U ∧ 2 ^ 51 * (p * U) ≤ 2 ^ 51 * mval z + p * U := by
  obtain ⟨f2, v2⟩ := fl_fin hr
  have hlt : mval q * r < 2 ^ 2097 := small_lt (P := p * U) (by generalize mval q * r = A at *; generalize p * U = B at *; omega) rfl (by omega)
  obtain ⟨h1, h2⟩ := rng_near0 hlt
  have hf := (mval_rng (d := 0) (N := mval q * r) (by rw [Nat.zero_add]; exact hlt)).2
  clear hlt
  refine ⟨_, by rw [fmt]; exact mul_nat hq f2 v2, hf, ?_⟩
  exact near_twice h1 h2 h3 h4

/-- A half, in units of 2^-1074. -/
def HE : Nat := 1073
def HU : Nat := 2 ^ HE
theorem half_fin : 4602678819172646912 < 2047 * 2 ^ 52 := by decide
theorem pow_two_mul (a b : Nat) (h : a + 1 = b) : 2 * 2 ^ a = 2 ^ b := by rw [← h, Nat.pow_succ, Nat.mul_comm]
theorem HU_two : 2 * HU = U := by
  have := pow_two_mul HE UE rfl
  unfold HU U
  exact this
theorem pow_HU (a b c : Nat) (h : a + b = c) : 2 ^ a * 2 ^ b = 2 ^ c := by rw [← h, Nat.pow_add]
theorem mval_half : mval 4602678819172646912 = HU := by
  unfold mval
  rw [if_neg (by decide), show 4602678819172646912 % 2 ^ 52 = 0 by decide, show 4602678819172646912 / 2 ^ 52 - 1 = 1021 by decide, Nat.add_zero]
  exact pow_HU 52 1021 HE rfl

theorem below_lin {Z V P H : Nat} (h1 : 2 ^ 51 * P ≤ 2 ^ 51 * Z + P) (h2 : 2 ^ 53 * V ≤ 2 ^ 53 * (P - H) + (P - H)) (hP : P ≤ 131070 * H) (h0 : H ≤ P) : V ≤ Z := by omega
theorem above_lin {Z V P H : Nat} (h1 : 2 ^ 51 * Z ≤ 2 ^ 51 * P + P) (h2 : 2 ^ 53 * (P + H) ≤ 2 ^ 53 * V + (P + H)) (hP : P ≤ 131070 * H) : Z ≤ V := by omega

theorem p_half {p : Nat} (hp : p ≤ 65535) : p * U ≤ 131070 * HU := by
  have := Nat.mul_le_mul_right U hp
  rw [← HU_two] at this ⊢
  omega

/-- It is not below the number less a half. -/
theorem not_below {p z : Nat} (hp : p ≤ 65535) (hz : z < 2047 * 2 ^ 52) (h1 : 2 ^ 51 * mval z ≤ 2 ^ 51 * (p * U) + p * U) (h2 : 2 ^ 51 * (p * U) ≤ 2 ^ 51 * mval z + p * U) :
    ∃ u, FloatKind.f64.format.sub (floatOfInt .f64 (p : Int)) 4602678819172646912 = some u ∧ (FloatKind.f64.format.order z u == some .lt) = false := by
  obtain ⟨f1, v1⟩ := fl_fin (show p ≤ 65536 by omega)
  by_cases p0 : p = 0
  · subst p0
    have e : floatOfInt .f64 ((0 : Nat) : Int) = 0 := by rw [ofNat_eq, Nat.zero_mul, rng_zero]
    have z0 : z = 0 := by
      refine mval_pos ?_
      rw [Nat.zero_mul] at h1
      omega
    subst z0
    exact ⟨13826050856027422720, by rw [e]; decide +kernel, by decide +kernel⟩
  have hU : 1 * U ≤ p * U := Nat.mul_le_mul_right U (by omega)
  have hH := HU_two
  have hp0 := U_pos
  have hlt : mval 4602678819172646912 < mval (floatOfInt .f64 (p : Int)) := by rw [mval_half, v1]; omega
  have es := sub_pos f1 half_fin hlt
  rw [v1, mval_half] at es
  have hb : p * U - HU < 2 ^ 2097 := small_lt (P := p * U) (by generalize p * U = B at *; omega) rfl (by omega)
  obtain ⟨g1, g2⟩ := rng_near0 hb
  have hf := (mval_rng (d := 0) (N := p * U - HU) (by rw [Nat.zero_add]; exact hb)).2
  refine ⟨_, es, ?_⟩
  rw [ord_lt hz hf]
  have := below_lin h2 g1 (p_half hp) (by omega)
  simp only [decide_eq_false_iff_not]
  omega

/-- It is not above the number and a half. -/
theorem not_above {p z : Nat} (hp : p ≤ 65535) (hz : z < 2047 * 2 ^ 52) (h1 : 2 ^ 51 * mval z ≤ 2 ^ 51 * (p * U) + p * U) :
    ∃ u, FloatKind.f64.format.add (floatOfInt .f64 (p : Int)) 4602678819172646912 = some u ∧ (FloatKind.f64.format.order z u == some .gt) = false := by
  obtain ⟨f1, v1⟩ := fl_fin (show p ≤ 65536 by omega)
  have es := add_pos f1 half_fin
  rw [v1, mval_half] at es
  have hH := HU_two
  have hb : p * U + HU < 2 ^ 2097 := by
    refine small_lt (P := (p + 1) * U) (p := p + 1) ?_ rfl (by omega)
    rw [Nat.add_mul]; generalize p * U = B at *; omega

  obtain ⟨g1, g2⟩ := rng_near0 hb
  have hf := (mval_rng (d := 0) (N := p * U + HU) (by rw [Nat.zero_add]; exact hb)).2
  refine ⟨_, es, ?_⟩
  rw [ord_gt hz hf]
  have := above_lin h1 g2 (p_half hp)
  simp only [decide_eq_false_iff_not]
  omega

/-- 1 + 1e-12, in units of 2^-1074. -/
def KE : Nat := 1022
theorem eps_fin : 4607182418800021912 < 2047 * 2 ^ 52 := by decide
theorem mval_eps : mval 4607182418800021912 = (2 ^ 52 + 4504) * 2 ^ KE := by
  unfold mval
  rw [if_neg (by decide), show 4607182418800021912 % 2 ^ 52 = 4504 by decide, show 4607182418800021912 / 2 ^ 52 - 1 = 1022 by decide, KE]
theorem U_KE : U = 2 ^ 52 * 2 ^ KE := (pow_U 52 KE rfl).symm

theorem cancel_eps {C X G : Nat} (hG : 0 < G) (h : 2 ^ 53 * (X * ((2 ^ 52 + 4504) * G)) ≤ 2 ^ 53 * (C * (2 ^ 52 * G)) + X * ((2 ^ 52 + 4504) * G) + 2 ^ 52 * (2 ^ 52 * G)) :
    2 ^ 53 * (4503599627374999 * X + X) ≤ 2 ^ 105 * C + (4503599627374999 * X + X) + 2 ^ 104 := by
  have e1 : X * ((2 ^ 52 + 4504) * G) = (4503599627374999 * X + X) * G := by rw [← Nat.mul_assoc]; congr 1; omega
  have e2 : C * (2 ^ 52 * G) = (2 ^ 52 * C) * G := by rw [← Nat.mul_assoc, Nat.mul_comm C]
  rw [e1, e2] at h
  refine Nat.le_of_mul_le_mul_right (c := G) ?_ hG
  generalize 4503599627374999 * X + X = A at *
  rw [Nat.add_mul, Nat.add_mul, Nat.mul_assoc, show 2 ^ 105 * C * G = 2 ^ 53 * (2 ^ 52 * C * G) by rw [← Nat.mul_assoc, ← Nat.mul_assoc]]
  rw [show 2 ^ 52 * (2 ^ 52 * G) = 2 ^ 104 * G by rw [← Nat.mul_assoc]] at h
  exact h

theorem final_lin {Y X C : Nat} (h1 : 2 ^ 105 * Y ≤ (2 ^ 105 + 2 ^ 53 + 2 ^ 52 + 1) * X) (h2 : 2 ^ 53 * (4503599627374999 * X + X) ≤ 2 ^ 105 * C + (4503599627374999 * X + X) + 2 ^ 104) : Y ≤ C := by omega

theorem times_r {Y X P r : Nat} (h1 : 2 ^ 52 * (Y * r) ≤ 2 ^ 52 * P + P) (h2 : 2 ^ 53 * P ≤ 2 ^ 53 * (X * r) + X * r) (r0 : 0 < r) : 2 ^ 105 * Y ≤ (2 ^ 105 + 2 ^ 53 + 2 ^ 52 + 1) * X := by
  refine Nat.le_of_mul_le_mul_right (c := r) ?_ r0
  rw [Nat.mul_assoc, Nat.mul_assoc]
  generalize Y * r = A at *
  generalize X * r = B at *
  omega

theorem lt_huge {X : Nat} (h : X ≤ U) : X * ((2 ^ 52 + 4504) * 2 ^ KE) < 2 ^ (UE + 2097) := by
  have h1 : X * ((2 ^ 52 + 4504) * 2 ^ KE) ≤ U * ((2 ^ 52 + 4504) * 2 ^ KE) := Nat.mul_le_mul_right _ h
  refine Nat.lt_of_le_of_lt h1 ?_
  rw [Nat.mul_comm U]
  have h2 : (2 ^ 52 + 4504) * 2 ^ KE < 2 ^ (53 + KE) := lt_pow (n := 2 ^ 52 + 4504) (k := 53) (u := KE) (t := 53 + KE) (by decide) (Nat.le_refl _)
  have h3 := lt_pow (n := (2 ^ 52 + 4504) * 2 ^ KE) (k := 53 + KE) (u := UE) (t := UE + 2097) h2 (by rw [UE_def, KE]; decide)
  rw [U_def]
  exact h3

/-- The threshold times 1 + 1e-12 is defined; where packing is worth it, the ratio is not above it. -/
theorem under_eps {x p r q : Nat} (hx : x < 2 ^ 64) (hp : p ≤ 65535) (r0 : 0 < r) (hr : r ≤ 65536) (hq : q < 2047 * 2 ^ 52) (h1 : 2 ^ 52 * (mval q * r) ≤ 2 ^ 52 * (p * U) + p * U) :
    ∃ c, FloatKind.f64.format.mul (fixB x) 4607182418800021912 = some c ∧ (worthB x p r = true → (FloatKind.f64.format.order q c == some .lt || FloatKind.f64.format.order q c == some .eq) = true) := by
  obtain ⟨fx, hX⟩ := fixB_fin hx
  have hr64 : r < 2 ^ 64 := by omega
  have hp53 : p < 2 ^ 53 := by omega
  have e := mul_pos fx eps_fin
  rw [mval_eps] at e
  have hlt := lt_huge hX
  have hf := (mval_rng hlt).2
  refine ⟨_, e, fun hw => ?_⟩
  rw [ord_le hq hf, decide_eq_true_eq]
  by_cases p0 : p = 0
  · subst p0
    have : mval q * r = 0 := by rw [Nat.zero_mul] at h1; omega
    have : mval q = 0 := by
      rcases Nat.mul_eq_zero.1 this with h | h
      · exact h
      · omega
    omega
  have n := (rng_near hlt).2
  rw [← U_def] at n
  generalize hC : mval (rng UE (mval (fixB x) * ((2 ^ 52 + 4504) * 2 ^ KE))) = C at *
  rw [U_KE] at n
  have hc := cancel_eps (two_pow_pos KE) n
  rw [worth_nat hx hr64] at hw
  simp only [Bool.and_eq_true, decide_eq_true_eq] at hw
  have hm : mostB x r = rng 0 (mval (fixB x) * r) := by
    obtain ⟨f2, v2⟩ := fl_fin hr
    have := mul_nat fx f2 v2
    rw [← fmt, (most_eq hx hr64).1] at this
    exact Option.some.inj this
  have hb : mval (fixB x) * r < 2 ^ 2097 := by
    have h5 := Nat.mul_le_mul hX hr
    rw [Nat.mul_comm U] at h5
    exact small_lt (P := 65536 * U) (p := 65536) (Nat.le_trans h5 (Nat.le_mul_of_pos_left _ (by decide))) rfl (Nat.le_refl _)
  clear hlt n
  have g := (rng_near0 hb).1
  rw [hm, mval_ofNat hp53] at hw
  have h2 : 2 ^ 53 * (p * U) ≤ 2 ^ 53 * (mval (fixB x) * r) + mval (fixB x) * r := Nat.le_trans (Nat.mul_le_mul_left _ hw.2) g
  exact final_lin (times_r h1 h2 r0) hc

theorem most_fin : 4679239875398991872 < 2047 * 2 ^ 52 := by decide
theorem mval_most : mval 4679239875398991872 = 65535 * U := by
  have e : floatOfInt .f64 ((65535 : Nat) : Int) = 4679239875398991872 := by decide +kernel
  rw [← e]; exact (fl_fin (by omega)).2

theorem lin_one {Y V p r : Nat} (h1 : 2 ^ 52 * (Y * r) ≤ 2 ^ 52 * (p * V) + p * V) (hp : p ≤ 65535) (hr : p ≤ 65534 ∧ 0 < r ∨ 2 ≤ r) : Y ≤ 65535 * V := by
  rcases hr with ⟨hp, h0⟩ | hr
  · have h3 : p * V ≤ 65534 * V := Nat.mul_le_mul_right V hp
    have h4 : Y * 1 ≤ Y * r := Nat.mul_le_mul_left Y h0
    generalize Y * r = A at *
    generalize p * V = B at *
    omega
  · have h3 : p * V ≤ 65535 * V := Nat.mul_le_mul_right V hp
    have h4 : Y * 2 ≤ Y * r := Nat.mul_le_mul_left Y hr
    generalize Y * r = A at *
    generalize p * V = B at *
    omega

/-- The ratio is at most 65535. -/
theorem under_most {p r q : Nat} (hp : p ≤ 65535) (r0 : 0 < r) (hq : q < 2047 * 2 ^ 52) (hd : FloatKind.f64.format.div (floatOfInt .f64 (p : Int)) (floatOfInt .f64 (r : Int)) = some q) (h1 : 2 ^ 52 * (mval q * r) ≤ 2 ^ 52 * (p * U) + p * U) :
    (FloatKind.f64.format.order q 4679239875398991872 == some .lt || FloatKind.f64.format.order q 4679239875398991872 == some .eq) = true := by
  rw [ord_le hq most_fin, decide_eq_true_eq, mval_most]
  by_cases c : p ≤ 65534 ∧ 0 < r ∨ 2 ≤ r
  · exact lin_one h1 hp c
  · obtain rfl : p = 65535 := by omega
    obtain rfl : r = 1 := by omega
    have : FloatKind.f64.format.div (floatOfInt .f64 ((65535 : Nat) : Int)) (floatOfInt .f64 ((1 : Nat) : Int)) = some 4679239875398991872 := by decide +kernel
    rw [this] at hd
    rw [← Option.some.inj hd, mval_most]
    exact Nat.le_refl _

end Flt
end Go.Proofs.Ytepfdhfoobeoeaa
