/- The statements' own check that the program is awake holds, at whatever memory; Ratio's result. -/
import Derived.Test.YtepfdhfoobeoeaaMean
namespace Go.Proofs.Ytepfdhfoobeoeaa
open Go.RowKit Flt

theorem worth_half64 : worthB 4602678819172646912 64 128 = true := by kernel_rfl
theorem worth_half65 : worthB 4602678819172646912 65 128 = false := by kernel_rfl
theorem fix_seven : fixB 4619567317775286272 = 4607182418800017408 := by kernel_rfl
theorem one_one : (FloatKind.f64.format.order 4607182418800017408 4607182418800017408 == some .eq) = true := by kernel_rfl
theorem two_two : (FloatKind.f64.format.order 4611686018427387904 4611686018427387904 == some .eq) = true := by kernel_rfl

set_option maxHeartbeats 1000000 in
theorem awake_any (w : World) :
    Calls Try.prog 7 #[] w fun e w' => e = .returned (.bool true) ∧ Grown w w' ∧ Below w.heap.size w w' := by
  have h1 := worth_half64
  have h2 := worth_half65
  have h3 := fix_seven
  have h4 := one_one
  have h5 := two_two
  go_enter Try.func7, Try.ntmps7
  go_wp2_with (first
    | (go_at_call 16; refine (nan_any _).mono ?_; rintro e w' ⟨rfl, rfl⟩)
    | (go_at_call 18; refine (mean_awake _ _ (by go_cell) (by go_cell) (by go_cell)).mono ?_; rintro e w' ⟨rfl, rfl⟩)
    | (go_at_call 13; refine (worth_any (by decide) _ _ (by decide) _).mono ?_; rintro e w' ⟨rfl, rfl⟩)
    | (go_at_call 8; refine (fix_any _ _).mono ?_; rintro e w' ⟨rfl, rfl⟩))
  go_ret
  exact ⟨rfl, by go_grown, by go_grown⟩

theorem grown_on {a b c : World} (h : Grown a b) (k : Grown b c) : Grown a c :=
  ⟨World.keptBut_trans h.1 k.1, fun x => (k.2.1 x).trans (h.2.1 x), Nat.le_trans h.2.2 k.2.2⟩

set_option maxHeartbeats 400000 in
theorem ratio_some (p r : Int) (q : Nat) (h : FloatKind.f64.format.div (floatOfInt .f64 p) (floatOfInt .f64 r) = some q) (w : World) :
    Calls Try.prog 9 #[.int .i64 p, .int .i64 r] w fun e w' => e = .returned (.float .f64 q) ∧ w = w' := by
  have hq := fun (w : World) => run_float_arith (P := Try.prog) w .quo 22 .f64 _ _ _ h
  clear h
  go_enter Try.func9, Try.ntmps9
  go_wp2
  go_ret
  exact ⟨rfl, rfl⟩

def nanAt (x y : Nat) (w : World) : Nat := (Question.nanBits .f64 x y).cut (w.tape w.drawn (.nanBits .f64 x y))
theorem run_quo_none {x y : Nat} (h : FloatKind.f64.format.div x y = none) (w : World) :
    (binOp .quo 22 (.float .f64 x) (.float .f64 y)).run Try.prog w = .ok (.float .f64 (nanAt x y w)) w.drew := by
  simp [binOp, Op.floatArith, h, nanAt, Question.forced]

theorem nanAt_nan (x y : Nat) (w : World) (z : Nat) : FloatKind.f64.format.order (nanAt x y w) z = none ∧ FloatKind.f64.format.order z (nanAt x y w) = none := by
  have e : ∃ s t, FloatKind.f64.format.read (nanAt x y w) = .nan s t := by
    unfold nanAt
    simp only [Question.cut]
    generalize w.tape w.drawn (.nanBits .f64 x y) = t
    rw [fmt]
    unfold Ieee.Format.read
    rw [signWeight_double, binade_double, infRung_double, leastPlace_double]
    dsimp only
    have h1 := Nat.mod_lt (t / 2) (show 0 < 2 ^ 52 - 1 by decide)
    have h2 : ((t % 2) * 2 ^ 63 + 0x7ff0000000000000 + 1 + t / 2 % (2 ^ 52 - 1)) % 2 ^ 63 = 0x7ff0000000000000 + 1 + t / 2 % (2 ^ 52 - 1) := by
      generalize t / 2 % (2 ^ 52 - 1) = z at *
      omega
    rw [h2]
    generalize t / 2 % (2 ^ 52 - 1) = z at *
    rw [if_neg (by omega), if_neg (by omega), if_neg (by omega)]
    exact ⟨_, _, rfl⟩
  obtain ⟨s, t, e⟩ := e
  unfold Ieee.Format.order
  rw [e]
  constructor
  · rfl
  · cases FloatKind.f64.format.read z <;> rfl

set_option maxHeartbeats 400000 in
theorem ratio_none (p r : Int) (h : FloatKind.f64.format.div (floatOfInt .f64 p) (floatOfInt .f64 r) = none) (w : World) :
    Calls Try.prog 9 #[.int .i64 p, .int .i64 r] w fun e w' => e = .returned (.float .f64 (nanAt (floatOfInt .f64 p) (floatOfInt .f64 r) w)) ∧ w' = w.drew := by
  have hq := fun (w : World) => run_quo_none h w
  clear h
  go_enter Try.func9, Try.ntmps9
  go_wp2
  go_ret
  exact ⟨rfl, rfl⟩

end Go.Proofs.Ytepfdhfoobeoeaa
