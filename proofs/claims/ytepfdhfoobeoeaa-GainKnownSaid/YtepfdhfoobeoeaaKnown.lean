/- GainKnown returns true; the memory that was there stays as it is. -/
import Derived.Test.YtepfdhfoobeoeaaAwake
import Derived.BigQuiet
import Derived.Deep.QuietTactic
namespace Go.Proofs.Ytepfdhfoobeoeaa
open Go.RowKit Flt

set_option maxHeartbeats 400000 in
theorem inf_any (w : World) :
    Calls Try.prog 15 #[.int .i64 1] w fun e w' => e = .returned (.float .f64 9218868437227405312) ∧ w = w' := by
  have h := run_frombits 9218868437227405312 w
  go_enter Try.func15, Try.ntmps15
  go_wp2
  go_ret
  exact ⟨rfl, rfl⟩

theorem sign_bits : bits BinOp.or IntKind.u64 (bits BinOp.andNot IntKind.u64 (0 : Int) 9223372036854775808) (bits BinOp.and IntKind.u64 (13830554455654793216 : Int) 9223372036854775808) = 9223372036854775808 := by kernel_rfl
set_option maxHeartbeats 400000 in
theorem copysign_any (w : World) :
    Calls Try.prog 17 #[.float .f64 0, .float .f64 13830554455654793216] w fun e w' => e = .returned (.float .f64 9223372036854775808) ∧ w = w' := by
  have h := run_bits 0 w
  have h1 := run_bits 13830554455654793216 w
  have h2 := fun n => run_frombits n w
  have h3 := sign_bits
  go_enter Try.func17, Try.ntmps17
  go_wp2
  go_ret
  exact ⟨rfl, rfl⟩

theorem fin_inf : finB 9218868437227405312 = false := by kernel_rfl
theorem fin_max : finB 9218868437227405311 = true := by kernel_rfl
theorem add_max (w : World) : (binOp .add 22 (.float .f64 9218868437227405311) (.float .f64 9218868437227405311)).run Try.prog w = .ok (.float .f64 9218868437227405312) w := run_float_arith w .add _ .f64 _ _ _ (by kernel_rfl)

set_option maxHeartbeats 1000000 in
theorem mean_nil (w : World) :
    Calls Try.prog 18 #[.slice none 0 0] w fun e w' => e = .returned (.tuple #[.float .f64 0, .bool false]) ∧ w = w' := by
  go_enter Try.func18, Try.ntmps18
  go_wp2
  refine wp_loop_rounds 1 ?_
  repeat any_goals (rw [rounds_succ]; go_wp2_with (go_at_call 22; refine (finite_any _ _).mono ?_; rintro e w' ⟨rfl, rfl⟩))
  all_goals
    go_ret2
    exact ⟨rfl, rfl⟩

set_option maxHeartbeats 1000000 in
theorem mean_none (b : Nat) (w : World) (c0 : w.cell? ⟨b, 0, none⟩ = some (.float .f64 9221120237041090561)) (c1 : w.cell? ⟨b, 1, none⟩ = some (.float .f64 9218868437227405312)) :
    Calls Try.prog 18 #[.slice (some ⟨b, 0, none⟩) 2 2] w fun e w' => e = .returned (.tuple #[.float .f64 0, .bool false]) ∧ w = w' := by
  have f1 := fin_inf
  have f4 := fin_nan
  go_enter Try.func18, Try.ntmps18
  go_wp2
  refine wp_loop_rounds 3 ?_
  repeat any_goals (rw [rounds_succ]; go_wp2_with (go_at_call 22; refine (finite_any _ _).mono ?_; rintro e w' ⟨rfl, rfl⟩))
  all_goals
    go_ret2
    exact ⟨rfl, rfl⟩

set_option maxHeartbeats 1000000 in
theorem mean_max (b : Nat) (w : World) (c0 : w.cell? ⟨b, 0, none⟩ = some (.float .f64 9218868437227405311)) (c1 : w.cell? ⟨b, 1, none⟩ = some (.float .f64 9218868437227405311)) :
    Calls Try.prog 18 #[.slice (some ⟨b, 0, none⟩) 2 2] w fun e w' => e = .returned (.tuple #[.float .f64 0, .bool false]) ∧ w = w' := by
  have f1 := fin_inf
  have f4 := fin_max
  have f5 := add_max w
  go_enter Try.func18, Try.ntmps18
  go_wp2
  refine wp_loop_rounds 3 ?_
  repeat any_goals (rw [rounds_succ]; go_wp2_with (go_at_call 22; refine (finite_any _ _).mono ?_; rintro e w' ⟨rfl, rfl⟩))
  all_goals
    go_ret2
    exact ⟨rfl, rfl⟩

theorem neg_inf : Op.unary .neg (.float .f64 9218868437227405312) = (pure (.float .f64 18442240474082181120) : Sem Value) := by
  have : Op.negFloat .f64 9218868437227405312 = 18442240474082181120 := by decide +kernel
  show (pure (.float .f64 (Op.negFloat .f64 9218868437227405312)) : Sem Value) = _
  rw [this]

theorem quiet_fix (x : Nat) (w : World) (n : Nat) : Calls Try.prog 8 #[.float .f64 x] (w.drewN n) fun e w'' => e = .returned (.float .f64 (fixB x)) ∧ ∃ m, w'' = w.drewN m :=
  (fix_any x _).mono fun _ _ ⟨he, hm⟩ => ⟨he, n, hm.symm⟩
theorem quiet_same (x y : Nat) (h : fixB x = y) (h2 : (FloatKind.f64.format.order y y == some .eq) = true) (w : World) (n : Nat) :
    Calls Try.prog 10 #[.float .f64 (fixB x), .float .f64 y] (w.drewN n) fun e w'' => e = .returned (.bool true) ∧ ∃ m, w'' = w.drewN m := by
  rw [h]
  exact (same_self y h2 _).mono fun _ _ ⟨he, hm⟩ => ⟨he, n, hm.symm⟩

theorem quiet_fix2 (x : Nat) (w : World) (a n : Nat) : Calls Try.prog 8 #[.float .f64 x] (w.drewN (a + n)) fun e w'' => e = .returned (.float .f64 (fixB x)) ∧ ∃ m, w'' = w.drewN (a + m) :=
  (fix_any x _).mono fun _ _ ⟨he, hm⟩ => ⟨he, n, hm.symm⟩
theorem quiet_same2 (x y : Nat) (h : fixB x = y) (h2 : (FloatKind.f64.format.order y y == some .eq) = true) (w : World) (a n : Nat) :
    Calls Try.prog 10 #[.float .f64 (fixB x), .float .f64 y] (w.drewN (a + n)) fun e w'' => e = .returned (.bool true) ∧ ∃ m, w'' = w.drewN (a + m) := by
  rw [h]
  exact (same_self y h2 _).mono fun _ _ ⟨he, hm⟩ => ⟨he, n, hm.symm⟩

theorem grown_drewN {a b : World} (h : Grown a b) (n : Nat) : Grown a (b.drewN n) := h
theorem div_inf : FloatKind.f64.format.div (floatOfInt .f64 5) (floatOfInt .f64 0) = some 9218868437227405312 := by kernel_rfl
theorem div_ninf : FloatKind.f64.format.div (floatOfInt .f64 (-5)) (floatOfInt .f64 0) = some 18442240474082181120 := by kernel_rfl
theorem div_none : FloatKind.f64.format.div (floatOfInt .f64 0) (floatOfInt .f64 0) = none := by kernel_rfl
theorem inf_inf : (FloatKind.f64.format.order 9218868437227405312 9218868437227405312 == some .eq) = true := by kernel_rfl
theorem ninf_ninf : (FloatKind.f64.format.order 18442240474082181120 18442240474082181120 == some .eq) = true := by kernel_rfl
theorem worth_a : worthB 9221120237041090561 0 1 = true := by kernel_rfl
theorem worth_b : worthB 0 1 9 = false := by kernel_rfl
theorem worth_c : worthB 0 0 9 = true := by kernel_rfl

set_option maxHeartbeats 4000000 in
theorem known_any (w : World) :
    Calls Try.prog 5 #[] w fun e w' => e = .returned (.bool true) ∧ Grown w w' := by
  have hn := neg_inf
  go_enter Try.func5, Try.ntmps5
  go_wp2_with fail
  refine (awake_any _).mono ?_
  rintro e w1 ⟨rfl, hg, hl⟩
  go_wp2_with (first
    | (go_at_call 16; refine (nan_any _).mono ?_; rintro e w' ⟨rfl, rfl⟩))
  go_wp2_with (first
    | (go_at_call 15; refine (inf_any _).mono ?_; rintro e w' ⟨rfl, rfl⟩)
    | (go_at_call 16; refine (nan_any _).mono ?_; rintro e w' ⟨rfl, rfl⟩)
    | (go_at_call 17; refine (copysign_any _).mono ?_; rintro e w' ⟨rfl, rfl⟩))
  refine wp_loop_rounds 11 ?_
  iterate 10
    rw [rounds_succ]
    go_wp2_with fail
    go_quiet ((first | (go_at_call 8; first | exact quiet_fix _ _ _ | exact quiet_fix2 _ _ _ _) | (go_at_call 10; first | exact quiet_same _ _ (by kernel_rfl) (by kernel_rfl) _ _ | exact quiet_same2 _ _ (by kernel_rfl) (by kernel_rfl) _ _ _)))
    go_wp2_with fail
  rw [rounds_succ]
  have h1 := inf_inf
  have h2 := ninf_ninf
  have h3 := worth_a
  have h4 := worth_b
  have h5 := worth_c
  have hnn := fun a b w z => (nanAt_nan a b w z).1
  go_wp2_with (first
    | (go_at_call 18; ((with_reducible refine (mean_nil _).mono ?_); rintro e w' ⟨rfl, rfl⟩))
    | (go_at_call 18; ((with_reducible refine (mean_none _ _ (by go_cell) (by go_cell)).mono ?_); rintro e w' ⟨rfl, rfl⟩))
    | (go_at_call 18; ((with_reducible refine (mean_max _ _ (by go_cell) (by go_cell)).mono ?_); rintro e w' ⟨rfl, rfl⟩))
    | (go_at_call 9; ((with_reducible refine (ratio_none 0 0 div_none _).mono ?_); rintro e w' ⟨rfl, rfl⟩))
    | (go_at_call 9; ((with_reducible refine (ratio_some 5 0 _ div_inf _).mono ?_); rintro e w' ⟨rfl, rfl⟩))
    | (go_at_call 9; ((with_reducible refine (ratio_some (-5) 0 _ div_ninf _).mono ?_); rintro e w' ⟨rfl, rfl⟩))
    | (go_at_call 13; ((with_reducible refine (worth_any (by decide) _ _ (by decide) _).mono ?_); rintro e w' ⟨rfl, rfl⟩)))
  go_ret
  refine ⟨rfl, ?_⟩
  repeat (first | exact hg | refine grown_drewN ?_ _ | refine Grown.drew ?_ | refine Grown.alloc ?_ _ _)

end Go.Proofs.Ytepfdhfoobeoeaa
