/- GainFixes returns true for every float and all sizes; the memory that was there stays as it is. -/
import Derived.Test.YtepfdhfoobeoeaaAwake
namespace Go.Proofs.Ytepfdhfoobeoeaa
open Go.RowKit Flt

namespace Flt
open Ieee
theorem self_of {a : Nat} (h : ∀ s t, double.read a ≠ .nan s t) : (double.order a a == some .eq) = true := by
  unfold Format.order
  cases e : double.read a with
  | nan s t => exact absurd e (h s t)
  | infinity s => cases s <;> rfl
  | number s m i => simp [Datum.order]

theorem read_word (neg : Bool) {r : Nat} (h : r ≤ 2047 * 2 ^ 52) : ∀ s t, double.read (double.word neg r) ≠ .nan s t := by
  intro s t
  unfold Format.read
  have h2 : double.word neg r % double.signWeight = r := by
    rw [signWeight_double]; unfold Format.word; rw [signWeight_double]
    split <;> omega
  rw [h2, binade_double, infRung_double]
  dsimp only
  split
  · simp
  · split
    · simp
    · rw [if_pos (by omega)]; simp

theorem write_self {d : Datum} (h : ∀ s t, d ≠ .nan s t) : (double.order (double.write d) (double.write d) == some .eq) = true := by
  refine self_of ?_
  cases d with
  | nan s t => exact absurd rfl (h s t)
  | infinity s => exact read_word s (Nat.le_of_eq infRung_double)
  | number s m i =>
    rw [write_number]
    unfold Format.nearest
    split
    · exact read_word s (Nat.zero_le _)
    · exact read_word s (by rw [← infRung_double]; exact Nat.min_le_right ..)

theorem quotient_not (k : Nat) (a b d : Datum) (h : a.quotient k b = some d) : ∀ s t, d ≠ .nan s t := by
  intro s t
  unfold Datum.quotient at h
  split at h
  · cases h
  · cases h
  · cases h
  · cases h; simp
  · cases h; simp
  · split at h
    · split at h
      · cases h
      · cases h; simp
    · cases h; simp

theorem div_self {a b q : Nat} (h : FloatKind.f64.format.div a b = some q) : (FloatKind.f64.format.order q q == some .eq) = true := by
  rw [fmt] at *
  unfold Format.div at h
  cases e : (double.read a).quotient (double.fractionBits + 2) (double.read b) with
  | none => rw [e] at h; cases h
  | some d =>
    rw [e] at h
    cases h
    exact write_self (quotient_not _ _ _ _ e)
end Flt

theorem sign_low {y : Nat} (h : y < 2047 * 2 ^ 52) : signB y = false := by
  unfold signB wrap64
  simp only [decide_eq_false_iff_not]
  omega

set_option maxHeartbeats 1000000 in
theorem fixes_some {x : Nat} (hx : x < 2 ^ 64) (p r : Int) (hr : r < 2 ^ 63) (q : Nat) (h : FloatKind.f64.format.div (floatOfInt .f64 p) (floatOfInt .f64 r) = some q) (w : World) :
    Calls Try.prog 3 #[.float .f64 x, .int .i64 p, .int .i64 r] w fun e w' => e = .returned (.bool true) ∧ Grown w w' := by
  have hf := fixB_fin hx
  have hs := sign_low hf.1
  have ho := ord_self hf.1
  have g0 : (FloatKind.f64.format.order (fixB x) 0 == some .gt || FloatKind.f64.format.order (fixB x) 0 == some .eq) = true := by
    rw [ord_ge hf.1 zero_fin, mval_zero]; simp
  have g1 : (FloatKind.f64.format.order (fixB x) 4607182418800017408 == some .lt || FloatKind.f64.format.order (fixB x) 4607182418800017408 == some .eq) = true := by
    rw [ord_le hf.1 one_fin, mval_one]; simp [hf.2]
  have ff := fixB_fixB hx
  have hq := fun (w : World) => run_float_arith (P := Try.prog) w .quo 22 .f64 _ _ _ h
  have hqq := div_self h
  have Hx := Lib.hid hx
  have Hr := Lib.hid hr
  have H := Lib.hid h
  clear hx hr h hf
  go_enter Try.func3, Try.ntmps3
  go_wp2_with fail
  refine (awake_any _).mono ?_
  rintro e w1 ⟨rfl, hb, _⟩
  go_wp2_with (first
    | (go_at_call 8; refine (fix_any _ _).mono ?_; rintro e w' ⟨rfl, rfl⟩)
    | (go_at_call 9; refine (ratio_some _ _ _ H.out _).mono ?_; rintro e w' ⟨rfl, rfl⟩)
    | (go_at_call 11; refine (rfix_any _ _).mono ?_; rintro e w' ⟨rfl, rfl⟩)
    | (go_at_call 10; refine (same_self _ (by assumption) _).mono ?_; rintro e w' ⟨rfl, rfl⟩)
    | (go_at_call 12; refine (signbit_any _ _).mono ?_; rintro e w' ⟨rfl, rfl⟩)
    | (go_at_call 13; refine (worth_any Hx.out _ _ Hr.out _).mono ?_; rintro e w' ⟨rfl, rfl⟩)
    | (go_at_call 14; refine (rworth_any Hx.out _ _ Hr.out _).mono ?_; rintro e w' ⟨rfl, rfl⟩))
  go_ret
  exact ⟨rfl, hb⟩

theorem nans_same (a b c d : Nat) (w1 w2 w : World) :
    Calls Try.prog 10 #[.float .f64 (nanAt a b w1), .float .f64 (nanAt c d w2)] w fun e w' => e = .returned (.bool true) ∧ w = w' :=
  same_nans _ _ (by rw [(nanAt_nan a b w1 _).1]; rfl) (by rw [(nanAt_nan a b w1 _).1]; rfl) (by rw [(nanAt_nan c d w2 _).1]; rfl) w

set_option maxHeartbeats 1000000 in
theorem fixes_none {x : Nat} (hx : x < 2 ^ 64) (p r : Int) (hr : r < 2 ^ 63) (h : FloatKind.f64.format.div (floatOfInt .f64 p) (floatOfInt .f64 r) = none) (w : World) :
    Calls Try.prog 3 #[.float .f64 x, .int .i64 p, .int .i64 r] w fun e w' => e = .returned (.bool true) ∧ Grown w w' := by
  have hf := fixB_fin hx
  have hs := sign_low hf.1
  have ho := ord_self hf.1
  have g0 : (FloatKind.f64.format.order (fixB x) 0 == some .gt || FloatKind.f64.format.order (fixB x) 0 == some .eq) = true := by
    rw [ord_ge hf.1 zero_fin, mval_zero]; simp
  have g1 : (FloatKind.f64.format.order (fixB x) 4607182418800017408 == some .lt || FloatKind.f64.format.order (fixB x) 4607182418800017408 == some .eq) = true := by
    rw [ord_le hf.1 one_fin, mval_one]; simp [hf.2]
  have ff := fixB_fixB hx
  have hq := fun (w : World) => run_quo_none h w
  have Hx := Lib.hid hx
  have Hr := Lib.hid hr
  have H := Lib.hid h
  clear hx hr h hf
  go_enter Try.func3, Try.ntmps3
  go_wp2_with fail
  refine (awake_any _).mono ?_
  rintro e w1 ⟨rfl, hb, _⟩
  go_wp2_with (first
    | (go_at_call 8; refine (fix_any _ _).mono ?_; rintro e w' ⟨rfl, rfl⟩)
    | (go_at_call 9; refine (ratio_none _ _ H.out _).mono ?_; rintro e w' ⟨rfl, rfl⟩)
    | (go_at_call 11; refine (rfix_any _ _).mono ?_; rintro e w' ⟨rfl, rfl⟩)
    | (go_at_call 10; ((with_reducible refine (nans_same _ _ _ _ _ _ _).mono ?_); rintro e w' ⟨rfl, rfl⟩))
    | (go_at_call 10; refine (same_self _ (by assumption) _).mono ?_; rintro e w' ⟨rfl, rfl⟩)
    | (go_at_call 12; refine (signbit_any _ _).mono ?_; rintro e w' ⟨rfl, rfl⟩)
    | (go_at_call 13; refine (worth_any Hx.out _ _ Hr.out _).mono ?_; rintro e w' ⟨rfl, rfl⟩)
    | (go_at_call 14; refine (rworth_any Hx.out _ _ Hr.out _).mono ?_; rintro e w' ⟨rfl, rfl⟩))
  go_ret
  exact ⟨rfl, hb.drew.drew⟩

theorem fixes_any {x : Nat} (hx : x < 2 ^ 64) (p r : Int) (hr : r < 2 ^ 63) (w : World) :
    Calls Try.prog 3 #[.float .f64 x, .int .i64 p, .int .i64 r] w fun e w' => e = .returned (.bool true) ∧ Grown w w' := by
  cases h : FloatKind.f64.format.div (floatOfInt .f64 p) (floatOfInt .f64 r) with
  | none => exact fixes_none hx p r hr h w
  | some q => exact fixes_some hx p r hr q h w

end Go.Proofs.Ytepfdhfoobeoeaa
