/- What calls of Signbit, same, finite, Abs, IsInf, NaN do. -/
import Derived.Test.YtepfdhfoobeoeaaFixw
import Derived.Handy
import Derived.Lib.Hide
namespace Go.Proofs.Ytepfdhfoobeoeaa
open Go.RowKit Flt

set_option maxHeartbeats 400000 in
theorem rworth_any {x : Nat} (hx : x < 2 ^ 64) (p r : Int) (h1 : r < 2 ^ 63) (w : World) :
    Calls Try.prog 14 #[.float .f64 x, .int .i64 p, .int .i64 r] w fun e w' => e = .returned (.bool (worthB x p r)) ∧ w = w' := by
  by_cases c1 : p < 0
  · rw [worth_neg c1]
    go_enter Try.func14, Try.ntmps14
    go_wp2
    go_ret
    exact ⟨rfl, rfl⟩
  by_cases c2 : r ≤ 0
  · rw [worth_low c2]
    go_enter Try.func14, Try.ntmps14
    go_wp2
    go_ret
    exact ⟨rfl, rfl⟩
  by_cases c3 : r ≤ p
  · rw [worth_high c3]
    go_enter Try.func14, Try.ntmps14
    go_wp2
    go_ret
    exact ⟨rfl, rfl⟩
  have hm := run_most hx (show 0 < r by omega) h1 w
  rw [worth_mid c1 c2 c3]
  generalize mostB x r = y at *
  clear hx
  go_enter Try.func14, Try.ntmps14
  go_wp2_with (go_at_call 11; refine (rfix_any _ _).mono ?_; rintro e w' ⟨rfl, rfl⟩)
  go_ret
  exact ⟨rfl, rfl⟩

theorem run_bits (x : Nat) (w : World) : (callFunc 20 #[.float .f64 x]).run Try.prog w = .ok (.value (.int .u64 x)) w := by
  rw [run_callFunc_extern Try.func20 (by kernel_rfl) (by kernel_rfl) (by kernel_rfl) (e := Extern.MathFloatBits.float64bits) (by kernel_rfl)]
  rfl
theorem run_frombits (n : Int) (w : World) : (callFunc 21 #[.int .u64 n]).run Try.prog w = .ok (.value (.float .f64 n.toNat)) w := by
  rw [run_callFunc_extern Try.func21 (by kernel_rfl) (by kernel_rfl) (by kernel_rfl) (e := Extern.MathFloatBits.float64frombits) (by kernel_rfl)]
  rfl

def signB (x : Nat) : Bool := decide (wrap64 x < 0)
set_option maxHeartbeats 400000 in
theorem signbit_any (x : Nat) (w : World) :
    Calls Try.prog 12 #[.float .f64 x] w fun e w' => e = .returned (.bool (signB x)) ∧ w = w' := by
  have h := run_bits x w
  go_enter Try.func12, Try.ntmps12
  go_wp2
  go_ret
  exact ⟨rfl, rfl⟩

def absB (x : Nat) : Nat := (bits BinOp.andNot IntKind.u64 x 9223372036854775808).toNat
set_option maxHeartbeats 400000 in
theorem abs_any (x : Nat) (w : World) :
    Calls Try.prog 24 #[.float .f64 x] w fun e w' => e = .returned (.float .f64 (absB x)) ∧ w = w' := by
  have h := run_bits x w
  have h2 := fun n => run_frombits n w
  go_enter Try.func24, Try.ntmps24
  go_wp2
  go_ret
  exact ⟨rfl, rfl⟩

def infB (x : Nat) : Bool := FloatKind.f64.format.order (absB x) 9218868437227405311 == some .gt
set_option maxHeartbeats 400000 in
theorem isinf_any (x : Nat) (w : World) :
    Calls Try.prog 23 #[.float .f64 x, .int .i64 0] w fun e w' => e = .returned (.bool (infB x)) ∧ w = w' := by
  go_enter Try.func23, Try.ntmps23
  go_wp2_with (go_at_call 24; refine (abs_any _ _).mono ?_; rintro e w' ⟨rfl, rfl⟩)
  go_ret
  exact ⟨rfl, rfl⟩

def finB (x : Nat) : Bool := !(FloatKind.f64.format.order x x != some .eq) && !infB x
set_option maxHeartbeats 400000 in
theorem finite_any (x : Nat) (w : World) :
    Calls Try.prog 22 #[.float .f64 x] w fun e w' => e = .returned (.bool (finB x)) ∧ w = w' := by
  unfold finB
  cases c : (FloatKind.f64.format.order x x != some .eq)
  · go_enter Try.func22, Try.ntmps22
    go_wp2_with (first | (go_at_call 19; refine (isnan_any _ _).mono ?_; rintro e w' ⟨rfl, rfl⟩) | (go_at_call 23; refine (isinf_any _ _).mono ?_; rintro e w' ⟨rfl, rfl⟩))
    go_ret
    exact ⟨rfl, rfl⟩
  · go_enter Try.func22, Try.ntmps22
    go_wp2_with (first | (go_at_call 19; refine (isnan_any _ _).mono ?_; rintro e w' ⟨rfl, rfl⟩) | (go_at_call 23; refine (isinf_any _ _).mono ?_; rintro e w' ⟨rfl, rfl⟩))
    go_ret
    exact ⟨rfl, rfl⟩

set_option maxHeartbeats 400000 in
theorem nan_any (w : World) :
    Calls Try.prog 16 #[] w fun e w' => e = .returned (.float .f64 9221120237041090561) ∧ w = w' := by
  have h := run_frombits 9221120237041090561 w
  go_enter Try.func16, Try.ntmps16
  go_wp2
  go_ret
  exact ⟨rfl, rfl⟩

set_option maxHeartbeats 400000 in
theorem same_self (x : Nat) (h : (FloatKind.f64.format.order x x == some .eq) = true) (w : World) :
    Calls Try.prog 10 #[.float .f64 x, .float .f64 x] w fun e w' => e = .returned (.bool true) ∧ w = w' := by
  go_enter Try.func10, Try.ntmps10
  go_wp2_with (go_at_call 12; refine (signbit_any _ _).mono ?_; rintro e w' ⟨rfl, rfl⟩)
  go_ret
  exact ⟨rfl, rfl⟩

set_option maxHeartbeats 400000 in
theorem same_nans (x y : Nat) (h : (FloatKind.f64.format.order x y == some .eq) = false) (h1 : (FloatKind.f64.format.order x x != some .eq) = true) (h2 : (FloatKind.f64.format.order y y != some .eq) = true) (w : World) :
    Calls Try.prog 10 #[.float .f64 x, .float .f64 y] w fun e w' => e = .returned (.bool true) ∧ w = w' := by
  go_enter Try.func10, Try.ntmps10
  go_wp2_with (go_at_call 12; refine (signbit_any _ _).mono ?_; rintro e w' ⟨rfl, rfl⟩)
  go_ret
  exact ⟨rfl, rfl⟩

theorem fin_one : finB 4607182418800017408 = true := by kernel_rfl
theorem fin_three : finB 4613937818241073152 = true := by kernel_rfl
theorem fin_four : finB 4616189618054758400 = true := by kernel_rfl
theorem fin_nan : finB 9221120237041090561 = false := by kernel_rfl
theorem add_four (w : World) : (binOp .add 22 (.float .f64 4607182418800017408) (.float .f64 4613937818241073152)).run Try.prog w = .ok (.float .f64 4616189618054758400) w := run_float_arith w .add _ .f64 _ _ _ (by kernel_rfl)
theorem two_of : floatOfInt .f64 2 = 4611686018427387904 := by kernel_rfl
theorem quo_two (w : World) : (binOp .quo 22 (.float .f64 4616189618054758400) (.float .f64 4611686018427387904)).run Try.prog w = .ok (.float .f64 4611686018427387904) w := run_float_arith w .quo _ .f64 _ _ _ (by kernel_rfl)

set_option maxHeartbeats 1000000 in
theorem mean_awake (b : Nat) (w : World) (c0 : w.cell? ⟨b, 0, none⟩ = some (.float .f64 4607182418800017408)) (c1 : w.cell? ⟨b, 1, none⟩ = some (.float .f64 9221120237041090561)) (c2 : w.cell? ⟨b, 2, none⟩ = some (.float .f64 4613937818241073152)) :
    Calls Try.prog 18 #[.slice (some ⟨b, 0, none⟩) 3 3] w fun e w' => e = .returned (.tuple #[.float .f64 4611686018427387904, .bool true]) ∧ w = w' := by
  have f1 := fin_one
  have f2 := fin_three
  have f3 := fin_four
  have f4 := fin_nan
  have a1 := add_four w
  have a2 := two_of
  have a3 := quo_two w
  go_enter Try.func18, Try.ntmps18
  go_wp2
  refine wp_loop_rounds 4 ?_
  repeat any_goals (rw [rounds_succ]; go_wp2_with (go_at_call 22; refine (finite_any _ _).mono ?_; rintro e w' ⟨rfl, rfl⟩))
  all_goals
    go_ret2
    exact ⟨rfl, rfl⟩

end Go.Proofs.Ytepfdhfoobeoeaa
