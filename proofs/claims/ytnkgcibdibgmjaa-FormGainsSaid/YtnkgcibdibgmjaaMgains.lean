/- FormGains: a greater gain never makes it longer; no gain, and it is as it was; whatever is no number is the greatest. -/
import Derived.Test.YtnkgcibdibgmjaaMoc
import Derived.Test.YtnkgcibdibgmjaaNan
namespace Go.Proofs.Ytnkgcibdibgmjaa
open Go.RowKit Flt

theorem mle_fix {x y : Nat} (hx : x < 2 ^ 64) (hy : y < 2 ^ 64) :
    (FloatKind.f64.format.order (fixB x) (fixB y) == some .lt || FloatKind.f64.format.order (fixB x) (fixB y) == some .eq) = decide (mval (fixB x) ≤ mval (fixB y)) := ord_le (fixB_fin hx).1 (fixB_fin hy).1
theorem fix_nan : fixB 9221120237041090561 = fixB 4607182418800017408 := by kernel_rfl
theorem fix_one {x : Nat} (hx : x < 2 ^ 64) : mval (fixB x) ≤ mval (fixB 4607182418800017408) := by
  rw [show fixB 4607182418800017408 = 4607182418800017408 from by kernel_rfl, mval_one]
  exact (fixB_fin hx).2

set_option maxRecDepth 10000 in
set_option maxHeartbeats 8000000 in
theorem mgains_any {P1 P2 : List Nat → List Nat} (hB : BestC P1 P2) (hM : MoOk P1 P2) {w : World} {A : Option Addr} {c : Nat} {l : List Nat} (hsl : Sl w w.heap.size A (byts l)) (hl : ∀ x ∈ l, x < 256) (hc : l.length ≤ c) (hA : A = none → c = 0) {x y : Nat} (hx : x < 2 ^ 64) (hy : y < 2 ^ 64) :
    Calls Try.prog 5 #[.slice A l.length c, .float .f64 x, .float .f64 y] w fun e w' => e = .returned (.bool true) ∧ Below w.heap.size w w' := by
  have AW := Lib.hid (fun w => mawake_any hB hM w)
  by_cases h5 : 1000 < l.length
  · have q1 : decide (1000 < (l.length : Int)) = true := by simp; omega
    have q2 : decide (1000 < l.length) = true := by simpa using h5
    clear hsl hl hA hc h5
    generalize l.length = n at *
    go_enter Try.func5, Try.ntmps5
    go_wp2_with fail
    refine (AW.out _).mono ?_
    rintro e w1 ⟨rfl, hb⟩
    go_wp2_with fail
    go_ret
    exact ⟨rfl, hb⟩
  have HY := Lib.hid (show By w A c l from ⟨hsl, hl, hc, hA, by omega⟩)
  have hzero := Mo.zero hM hl (by omega)
  have hnan : Mo.best P1 P2 9221120237041090561 l = Mo.best P1 P2 4607182418800017408 l := Mo.best_fix fix_nan
  have m1 : mval (fixB x) ≤ mval (fixB y) → _ := fun h => Mo.best_mono (P1 := P1) (P2 := P2) (b := l) hx hy (by omega) h
  have m2 : mval (fixB y) ≤ mval (fixB x) → _ := fun h => Mo.best_mono (P1 := P1) (P2 := P2) (b := l) hy hx (by omega) h
  have m3 := Mo.best_mono (P1 := P1) (P2 := P2) (b := l) hx (y := 4607182418800017408) (by decide) (by omega) (fix_one hx)
  have NB := Lib.hid (fun v W A' c' (h : By W A' c' l) (hv : v < 2 ^ 64) => hB W A' c' l v l.length h (by omega) rfl hv)
  have NX := Lib.hid (fun W A' c' h => NB.out x W A' c' h hx)
  have NY := Lib.hid (fun W A' c' h => NB.out y W A' c' h hy)
  have N0 := Lib.hid (fun W A' c' h => NB.out 0 W A' c' h (by decide))
  have NN := Lib.hid (fun W A' c' h => NB.out 9221120237041090561 W A' c' h (by decide))
  have N1 := Lib.hid (fun W A' c' h => NB.out 4607182418800017408 W A' c' h (by decide))
  rw [hzero] at N0
  rw [hnan] at NN
  generalize hZ : Mo.best P1 P2 x l = Z at *
  generalize hV : Mo.best P1 P2 y l = V at *
  generalize hO : Mo.best P1 P2 4607182418800017408 l = O at *
  have le1 := mle_fix hx hy
  have le2 := mle_fix hy hx
  obtain ⟨m, hm⟩ : ∃ m, m = l.length := ⟨_, rfl⟩
  rw [← hm] at NX NY N0 NN N1 h5 hc ⊢
  have q1 : decide (1000 < (m : Int)) = false := by rw [decide_eq_false_iff_not]; omega
  have q2 : decide (1000 < m) = false := by rw [decide_eq_false_iff_not]; omega
  obtain ⟨zn, hzn⟩ : ∃ zn, zn = Z.2.length := ⟨_, rfl⟩
  obtain ⟨vn, hvn⟩ : ∃ vn, vn = V.2.length := ⟨_, rfl⟩
  obtain ⟨on, hon⟩ : ∃ on, on = O.2.length := ⟨_, rfl⟩
  rw [← hzn] at NX m1 m2 m3
  rw [← hvn] at NY m1 m2
  rw [← hon] at NN N1 m3
  obtain ⟨o, ho⟩ : ∃ o, o = O.2 := ⟨_, rfl⟩
  obtain ⟨kx, hkx⟩ : ∃ k, k = Z.1 := ⟨_, rfl⟩
  obtain ⟨ky, hky⟩ : ∃ k, k = V.1 := ⟨_, rfl⟩
  obtain ⟨ko, hko⟩ : ∃ k, k = O.1 := ⟨_, rfl⟩
  rw [← hkx] at NX
  rw [← hky] at NY
  rw [← hko, ← ho] at NN N1
  rw [← ho] at hon
  have Hm := Lib.hid hm
  have Hon := Lib.hid hon
  obtain ⟨a, ha⟩ : ∃ a, a = mval (fixB x) := ⟨_, rfl⟩
  obtain ⟨b, hb⟩ : ∃ b, b = mval (fixB y) := ⟨_, rfl⟩
  rw [← ha, ← hb] at le1 le2 m1 m2
  have Le1 := Lib.hid le1
  have Le2 := Lib.hid le2
  have M1 := Lib.hid m1
  have M2 := Lib.hid m2
  have q5 : decide ((on : Int) ≤ (zn : Int)) = true := by rw [decide_eq_true_eq]; omega
  have q5' : decide (on ≤ zn) = true := by rw [decide_eq_true_eq]; exact m3
  clear hB hM hsl hl hA h5 hzero hnan m1 m2 m3 NB hZ hV hO hm hzn hvn hon ho hkx hky hko ha hb le1 le2 hx hy
  go_enter Try.func5, Try.ntmps5
  go_wp2_with fail
  refine (AW.out _).mono ?_
  rintro e w1 ⟨rfl, hb⟩
  have HB1 := Lib.hid hb
  have X := Lib.hid (HY.out.below hb)
  clear hb HY AW
  go_wp2_with fail
  refine (NX.out _ _ _ X.out).mono ?_
  rintro e w2 ⟨A2, c2, rfl, y2, b2⟩
  have HB2 := Lib.hid (HB1.out.trans (b2.mono HB1.out.size))
  have X2 := Lib.hid (X.out.below b2)
  clear y2 b2 HB1 X NX
  go_wp2_with fail
  refine (NY.out _ _ _ X2.out).mono ?_
  rintro e w3 ⟨A3, c3, rfl, y3, b3⟩
  have HB3 := Lib.hid (HB2.out.trans (b3.mono HB2.out.size))
  have X3 := Lib.hid (X2.out.below b3)
  clear y3 b3 HB2 X2 NY
  go_wp2_with fail
  refine (N0.out _ _ _ X3.out).mono ?_
  rintro e w4 ⟨A4, c4, rfl, y4, b4⟩
  have HB4 := Lib.hid (HB3.out.trans (b4.mono HB3.out.size))
  have X4 := Lib.hid (X3.out.below b4)
  have Z4 := Lib.hid y4
  clear y4 b4 HB3 X3 N0
  go_wp2_with (go_at_call 14; ((with_reducible refine (nan_any _).mono ?_); rintro e w' ⟨rfl, rfl⟩))
  refine (NN.out _ _ _ X4.out).mono ?_
  rintro e w5 ⟨A5, c5, rfl, y5, b5⟩
  have HB5 := Lib.hid (HB4.out.trans (b5.mono HB4.out.size))
  have X5 := Lib.hid (X4.out.below b5)
  have Z5 := Lib.hid (Z4.out.below b5)
  have O5 := Lib.hid y5
  clear y5 b5 HB4 X4 Z4 NN
  go_wp2_with fail
  refine (N1.out _ _ _ X5.out).mono ?_
  rintro e w6 ⟨A6, c6, rfl, y6, b6⟩
  have HB6 := Lib.hid (HB5.out.trans (b6.mono HB5.out.size))
  have X6 := X5.out.below b6
  have Z6 := Z5.out.below b6
  have O6 := O5.out.below b6
  obtain ⟨st, hst⟩ : ∃ st, st = bstr l := ⟨_, rfl⟩
  obtain ⟨os, hos⟩ : ∃ st, st = bstr o := ⟨_, rfl⟩
  have k1 := conv_b (cap := c4) Z6.sl
  have k2 := conv_b (cap := c) X6.sl
  have k3 := conv_b (cap := c5) O6.sl
  have k4 := conv_b (cap := c6) y6.sl
  rw [← Hm.out, ← hst] at k1 k2
  rw [← Hon.out, ← hos] at k3 k4
  clear y6 b6 HB5 X5 Z5 O5 X6 Z6 O6 hst hos N1
  go_upto_region 10 with fail
  by_cases h1 : a ≤ b
  · have v1 := M1.out h1
    have z1 : decide ((zn : Int) < (vn : Int)) = false := by rw [decide_eq_false_iff_not]; omega
    have z1' : decide (zn < vn) = false := by rw [decide_eq_false_iff_not]; omega
    have n1 := Le1.out
    rw [show decide (a ≤ b) = true by rw [decide_eq_true_eq]; exact h1] at n1
    by_cases h2 : b ≤ a
    · have v2 := M2.out h2
      have z2 : decide ((vn : Int) < (zn : Int)) = false := by rw [decide_eq_false_iff_not]; omega
      have z2' : decide (vn < zn) = false := by rw [decide_eq_false_iff_not]; omega
      have n2 := Le2.out
      rw [show decide (b ≤ a) = true by rw [decide_eq_true_eq]; exact h2] at n2
      clear h1 h2 v1 v2
      go_wp2_with (go_at_call 15; ((with_reducible refine (fix_any _ _).mono ?_); rintro e w' ⟨rfl, rfl⟩))
      go_ret
      exact ⟨rfl, HB6.out⟩
    · have n2 := Le2.out
      rw [show decide (b ≤ a) = false by rw [decide_eq_false_iff_not]; exact h2] at n2
      clear h1 h2 v1
      go_wp2_with (go_at_call 15; ((with_reducible refine (fix_any _ _).mono ?_); rintro e w' ⟨rfl, rfl⟩))
      go_ret
      exact ⟨rfl, HB6.out⟩
  · have v2 := M2.out (by omega)
    have z2 : decide ((vn : Int) < (zn : Int)) = false := by rw [decide_eq_false_iff_not]; omega
    have z2' : decide (vn < zn) = false := by rw [decide_eq_false_iff_not]; omega
    have n1 := Le1.out
    rw [show decide (a ≤ b) = false by rw [decide_eq_false_iff_not]; exact h1] at n1
    have n2 := Le2.out
    rw [show decide (b ≤ a) = true by rw [decide_eq_true_eq]; omega] at n2
    clear h1 v2
    go_wp2_with (go_at_call 15; ((with_reducible refine (fix_any _ _).mono ?_); rintro e w' ⟨rfl, rfl⟩))
    go_ret
    exact ⟨rfl, HB6.out⟩
end Go.Proofs.Ytnkgcibdibgmjaa
