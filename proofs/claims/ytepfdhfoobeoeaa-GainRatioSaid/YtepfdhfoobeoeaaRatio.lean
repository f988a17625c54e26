/- GainRatio returns true for all sizes and floats; the memory that was there stays as it is. -/
import Derived.Test.YtepfdhfoobeoeaaAwake
import Derived.Test.YtepfdhfoobeoeaaRat
namespace Go.Proofs.Ytepfdhfoobeoeaa
open Go.RowKit Flt

theorem worth_order {x p r : Nat} (h : p < r) : (FloatKind.f64.format.order (floatOfInt .f64 (p : Int)) (mostB x (r : Int)) == some .lt || FloatKind.f64.format.order (floatOfInt .f64 (p : Int)) (mostB x (r : Int)) == some .eq) = worthB x p r :=
  (worth_mid (by omega) (by omega) (by omega)).symm

theorem worth_lt1 {x a b : Nat} (hx : x < 2 ^ 64) (hb : b < 2 ^ 64) (h : worthB x a b = true) : a < b := by
  rw [worth_nat hx hb] at h
  simp only [Bool.and_eq_true, decide_eq_true_eq] at h
  exact h.1

set_option maxHeartbeats 1000000 in
theorem ratio_law {x : Nat} (hx : x < 2 ^ 64) (p n : Nat) (hp : p ≤ 65535) (hn : n ≤ 65535) (w : World) :
    Calls Try.prog 6 #[.int .u16 (p : Int), .int .u16 (n : Int), .float .f64 x] w fun e w' => e = .returned (.bool true) ∧ Grown w w' := by
  have er : ((1 + n : Nat) : Int) = 1 + (n : Int) := by omega
  obtain ⟨q, d1, d2, d3, d4⟩ := ratio_near hp (show 0 < 1 + n by omega) (by omega)
  obtain ⟨z, m1, m2, m3, m4⟩ := back_near hp (show 1 + n ≤ 65536 by omega) d2 d3 d4
  obtain ⟨u, s1, s2⟩ := not_below hp m2 m3 m4
  obtain ⟨v, a1, a2⟩ := not_above hp m2 m3
  obtain ⟨c, c1, c2⟩ := under_eps hx hp (show 0 < 1 + n by omega) (by omega) d2 d3
  have t1 := under_most hp (show 0 < 1 + n by omega) d2 d1 d3
  have t0 : (FloatKind.f64.format.order q 0 == some .gt || FloatKind.f64.format.order q 0 == some .eq) = true := by rw [ord_ge d2 zero_fin, mval_zero]; simp
  have wo := @worth_order x p (1 + n)
  have wl := fun h => @worth_lt1 x p (1 + n) hx (by omega) h
  have wm := run_most hx (show (0 : Int) < 1 + (n : Int) by omega) (by omega)
  rw [er] at d1 m1 c2 wo wl
  have rm := fun (w : World) => run_float_arith (P := Try.prog) w .mul 22 .f64 _ _ _ m1
  have rs := fun (w : World) => run_float_arith (P := Try.prog) w .sub 22 .f64 _ _ _ s1
  have ra := fun (w : World) => run_float_arith (P := Try.prog) w .add 22 .f64 _ _ _ a1
  have rc := fun (w : World) => run_float_arith (P := Try.prog) w .mul 22 .f64 _ _ _ c1
  have Hx := Lib.hid hx
  have D := Lib.hid d1
  clear hx d1 m1 s1 a1 c1 d2 d3 d4 m2 m3 m4 er
  cases hA : worthB x p (1 + (n : Int))
  · by_cases hlt : p < 1 + n
    · have wo := (wo hlt).trans hA
      clear wl c2
      go_enter Try.func6, Try.ntmps6
      go_wp2_with fail
      refine (awake_any _).mono ?_
      rintro e w1 ⟨rfl, hg, hl⟩
      go_wp2_with (first
        | (go_at_call 9; refine (ratio_some _ _ _ D.out _).mono ?_; rintro e w' ⟨rfl, rfl⟩)
        | (go_at_call 13; refine (worth_any Hx.out _ _ (by omega) _).mono ?_; rintro e w' ⟨rfl, rfl⟩)
        | (go_at_call 8; refine (fix_any _ _).mono ?_; rintro e w' ⟨rfl, rfl⟩))
      go_ret
      exact ⟨rfl, hg⟩
    · clear wo wl c2
      go_enter Try.func6, Try.ntmps6
      go_wp2_with fail
      refine (awake_any _).mono ?_
      rintro e w1 ⟨rfl, hg, hl⟩
      go_wp2_with (first
        | (go_at_call 9; refine (ratio_some _ _ _ D.out _).mono ?_; rintro e w' ⟨rfl, rfl⟩)
        | (go_at_call 13; refine (worth_any Hx.out _ _ (by omega) _).mono ?_; rintro e w' ⟨rfl, rfl⟩)
        | (go_at_call 8; refine (fix_any _ _).mono ?_; rintro e w' ⟨rfl, rfl⟩))
      go_ret
      exact ⟨rfl, hg⟩
  · have hlt := wl hA
    have wo := (wo hlt).trans hA
    have c2 := c2 hA
    clear wl
    go_enter Try.func6, Try.ntmps6
    go_wp2_with fail
    refine (awake_any _).mono ?_
    rintro e w1 ⟨rfl, hg, hl⟩
    go_wp2_with (first
      | (go_at_call 9; refine (ratio_some _ _ _ D.out _).mono ?_; rintro e w' ⟨rfl, rfl⟩)
      | (go_at_call 13; refine (worth_any Hx.out _ _ (by omega) _).mono ?_; rintro e w' ⟨rfl, rfl⟩)
      | (go_at_call 8; refine (fix_any _ _).mono ?_; rintro e w' ⟨rfl, rfl⟩))
    go_ret
    exact ⟨rfl, hg⟩

end Go.Proofs.Ytepfdhfoobeoeaa
