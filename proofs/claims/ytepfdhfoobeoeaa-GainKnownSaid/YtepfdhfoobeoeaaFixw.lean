/- What calls of Fix, Worth, IsNaN, Signbit and same do: their results as functions of the bits; memory stays as it is. -/
import Derived.Test.YtepfdhfoobeoeaaRows
import Derived.Test.YtepfdhfoobeoeaaFix
import Derived.WalkKit
import Derived.WalkSpells
import Derived.WalkLawsBesides
namespace Go.Proofs.Ytepfdhfoobeoeaa
open Go.RowKit Flt

set_option maxHeartbeats 400000 in
theorem isnan_any (x : Nat) (w : World) :
    Calls Try.prog 19 #[.float .f64 x] w fun e w' => e = .returned (.bool (FloatKind.f64.format.order x x != some .eq)) ∧ w = w' := by
  go_enter Try.func19, Try.ntmps19
  go_wp2
  go_ret
  exact ⟨rfl, rfl⟩

set_option maxHeartbeats 400000 in
theorem fix_any (x : Nat) (w : World) :
    Calls Try.prog 8 #[.float .f64 x] w fun e w' => e = .returned (.float .f64 (fixB x)) ∧ w = w' := by
  unfold fixB
  cases c1 : (FloatKind.f64.format.order x x != some .eq)
  · cases c2 : (FloatKind.f64.format.order x 4607182418800017408 == some .gt)
    · cases c3 : (FloatKind.f64.format.order x 0 == some .lt || FloatKind.f64.format.order x 0 == some .eq)
      all_goals
        go_enter Try.func8, Try.ntmps8
        go_wp2_with (go_at_call 19; refine (isnan_any _ _).mono ?_; rintro e w' ⟨rfl, rfl⟩)
        go_ret
        exact ⟨rfl, rfl⟩
    · go_enter Try.func8, Try.ntmps8
      go_wp2_with (go_at_call 19; refine (isnan_any _ _).mono ?_; rintro e w' ⟨rfl, rfl⟩)
      go_ret
      exact ⟨rfl, rfl⟩
  · go_enter Try.func8, Try.ntmps8
    go_wp2_with (go_at_call 19; refine (isnan_any _ _).mono ?_; rintro e w' ⟨rfl, rfl⟩)
    go_ret
    exact ⟨rfl, rfl⟩

set_option maxHeartbeats 400000 in
theorem rfix_any (x : Nat) (w : World) :
    Calls Try.prog 11 #[.float .f64 x] w fun e w' => e = .returned (.float .f64 (fixB x)) ∧ w = w' := by
  unfold fixB
  cases c1 : (FloatKind.f64.format.order x x != some .eq)
  · cases c2 : (FloatKind.f64.format.order x 4607182418800017408 == some .gt)
    · cases c3 : (FloatKind.f64.format.order x 0 == some .lt || FloatKind.f64.format.order x 0 == some .eq)
      all_goals
        go_enter Try.func11, Try.ntmps11
        go_wp2
        go_ret
        exact ⟨rfl, rfl⟩
    · go_enter Try.func11, Try.ntmps11
      go_wp2
      go_ret
      exact ⟨rfl, rfl⟩
  · go_enter Try.func11, Try.ntmps11
    go_wp2
    go_ret
    exact ⟨rfl, rfl⟩

theorem worth_neg {x : Nat} {p r : Int} (h : p < 0) : worthB x p r = false := by unfold worthB; rw [decide_eq_true h]; rfl
theorem worth_low {x : Nat} {p r : Int} (h : r ≤ 0) : worthB x p r = false := by unfold worthB; rw [decide_eq_true h]; simp
theorem worth_high {x : Nat} {p r : Int} (h : r ≤ p) : worthB x p r = false := by unfold worthB; rw [decide_eq_true h]; simp
theorem worth_mid {x : Nat} {p r : Int} (h1 : ¬ p < 0) (h2 : ¬ r ≤ 0) (h3 : ¬ r ≤ p) : worthB x p r = (FloatKind.f64.format.order (floatOfInt .f64 p) (mostB x r) == some .lt || FloatKind.f64.format.order (floatOfInt .f64 p) (mostB x r) == some .eq) := by
  unfold worthB; rw [decide_eq_false h1, decide_eq_false h2, decide_eq_false h3]; simp

theorem run_most {x : Nat} (hx : x < 2 ^ 64) {r : Int} (h0 : 0 < r) (h1 : r < 2 ^ 63) (w : World) :
    (binOp .mul 22 (.float .f64 (fixB x)) (.float .f64 (floatOfInt .f64 r))).run Try.prog w = .ok (.float .f64 (mostB x r)) w := by
  obtain ⟨n, rfl⟩ : ∃ n : Nat, r = n := ⟨r.toNat, by omega⟩
  exact run_float_arith w .mul _ .f64 _ _ _ (most_eq hx (show n < 2 ^ 64 by omega)).1

set_option maxHeartbeats 400000 in
theorem worth_any {x : Nat} (hx : x < 2 ^ 64) (p r : Int) (h1 : r < 2 ^ 63) (w : World) :
    Calls Try.prog 13 #[.float .f64 x, .int .i64 p, .int .i64 r] w fun e w' => e = .returned (.bool (worthB x p r)) ∧ w = w' := by
  by_cases c1 : p < 0
  · rw [worth_neg c1]
    go_enter Try.func13, Try.ntmps13
    go_wp2
    go_ret
    exact ⟨rfl, rfl⟩
  by_cases c2 : r ≤ 0
  · rw [worth_low c2]
    go_enter Try.func13, Try.ntmps13
    go_wp2
    go_ret
    exact ⟨rfl, rfl⟩
  by_cases c3 : r ≤ p
  · rw [worth_high c3]
    go_enter Try.func13, Try.ntmps13
    go_wp2
    go_ret
    exact ⟨rfl, rfl⟩
  have hm := run_most hx (show 0 < r by omega) h1 w
  rw [worth_mid c1 c2 c3]
  generalize mostB x r = y at *
  clear hx
  go_enter Try.func13, Try.ntmps13
  go_wp2_with (go_at_call 8; refine (fix_any _ _).mono ?_; rintro e w' ⟨rfl, rfl⟩)
  go_ret
  exact ⟨rfl, rfl⟩

end Go.Proofs.Ytepfdhfoobeoeaa
