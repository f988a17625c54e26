/- GainOrder returns true for all floats and sizes; the memory that was there stays as it is. -/
import Derived.Test.YtepfdhfoobeoeaaAwake
import Derived.BigQuiet
import Derived.Deep.QuietTactic
namespace Go.Proofs.Ytepfdhfoobeoeaa
open Go.RowKit Flt

theorem le_fix {x y : Nat} (hx : x < 2 ^ 64) (hy : y < 2 ^ 64) :
    (FloatKind.f64.format.order (fixB x) (fixB y) == some .lt || FloatKind.f64.format.order (fixB x) (fixB y) == some .eq) = decide (mval (fixB x) ≤ mval (fixB y)) := ord_le (fixB_fin hx).1 (fixB_fin hy).1

theorem no_le {x y a b : Nat} (hx : x < 2 ^ 64) (hy : y < 2 ^ 64) (hb : b < 2 ^ 64) (h1 : worthB x a b = true) (h2 : worthB y a b = false) :
    (FloatKind.f64.format.order (fixB x) (fixB y) == some .lt || FloatKind.f64.format.order (fixB x) (fixB y) == some .eq) = false := by
  rw [le_fix hx hy]
  simp only [decide_eq_false_iff_not]
  intro h
  rw [worth_mono hx hy hb h h1] at h2
  cases h2

theorem worth_lt {x a b : Nat} (hx : x < 2 ^ 64) (hb : b < 2 ^ 64) (h : worthB x a b = true) : a < b := by
  rw [worth_nat hx hb] at h
  simp only [Bool.and_eq_true, decide_eq_true_eq] at h
  exact h.1

theorem worth_pred {x a b : Nat} (hx : x < 2 ^ 64) (hb : b < 2 ^ 64) (h0 : a ≠ 0) (h : worthB x a b = true) : worthB x ((a : Int) - 1) b = true := by
  obtain ⟨k, rfl⟩ : ∃ k, a = k + 1 := ⟨a - 1, by omega⟩
  rw [show (((k + 1 : Nat) : Int) - 1) = (k : Int) by omega]
  exact worth_less hx hb h

set_option maxHeartbeats 1000000 in
theorem order_any {x y : Nat} (hx : x < 2 ^ 64) (hy : y < 2 ^ 64) (a b : Nat) (ha : a ≤ 65535) (hb : b ≤ 65535) (w : World) :
    Calls Try.prog 4 #[.float .f64 x, .float .f64 y, .agg #[.int .u16 (a : Int), .int .u16 (b : Int)]] w fun e w' => e = .returned (.bool true) ∧ Grown w w' := by
  have n1 : worthB x b b = false := worth_high (Int.le_refl _)
  have n2 : worthB x (-1) b = false := worth_neg (by decide)
  have Hx := Lib.hid hx
  have Hy := Lib.hid hy
  cases hA : worthB x a b
  · cases hB : worthB y a b
    · clear hx hy
      go_enter Try.func4, Try.ntmps4
      go_wp2_with fail
      refine (awake_any _).mono ?_
      rintro e w1 ⟨rfl, hg, hl⟩
      have c0 : w1.cell? ⟨w.heap.size, 0, none⟩ = some (.int .u16 (a : Int)) := by rw [hl.cell (p := ⟨w.heap.size, 0, none⟩) (by simp)]; go_cell
      have c1 : w1.cell? ⟨w.heap.size, 1, none⟩ = some (.int .u16 (b : Int)) := by rw [hl.cell (p := ⟨w.heap.size, 1, none⟩) (by simp)]; go_cell
      go_wp2_with fail
      go_quiet (fail)
      go_wp2_with (first
        | (go_at_call 13; refine (worth_any (by first | exact Hx.out | exact Hy.out) _ _ (by omega) _).mono ?_; rintro e w' ⟨rfl, rfl⟩)
        | (go_at_call 8; refine (fix_any _ _).mono ?_; rintro e w' ⟨rfl, rfl⟩))
      go_ret
      exact ⟨rfl, grown_on ((Grown.refl w).alloc _ _) hg⟩
    · have n3 := no_le hy hx (by omega) hB hA
      clear hx hy
      go_enter Try.func4, Try.ntmps4
      go_wp2_with fail
      refine (awake_any _).mono ?_
      rintro e w1 ⟨rfl, hg, hl⟩
      have c0 : w1.cell? ⟨w.heap.size, 0, none⟩ = some (.int .u16 (a : Int)) := by rw [hl.cell (p := ⟨w.heap.size, 0, none⟩) (by simp)]; go_cell
      have c1 : w1.cell? ⟨w.heap.size, 1, none⟩ = some (.int .u16 (b : Int)) := by rw [hl.cell (p := ⟨w.heap.size, 1, none⟩) (by simp)]; go_cell
      go_wp2_with fail
      go_quiet (fail)
      go_wp2_with (first
        | (go_at_call 13; refine (worth_any (by first | exact Hx.out | exact Hy.out) _ _ (by omega) _).mono ?_; rintro e w' ⟨rfl, rfl⟩)
        | (go_at_call 8; refine (fix_any _ _).mono ?_; rintro e w' ⟨rfl, rfl⟩))
      go_ret
      exact ⟨rfl, grown_on ((Grown.refl w).alloc _ _) hg⟩
  · have n4 := worth_lt hx (by omega) hA
    by_cases h0 : a = 0
    · have n6 : ((a : Int) == 0) = true := by simp; exact h0
      clear h0
      cases hB : worthB y a b
      · have n3 := no_le hx hy (by omega) hA hB
        clear hx hy
        go_enter Try.func4, Try.ntmps4
        go_wp2_with fail
        refine (awake_any _).mono ?_
        rintro e w1 ⟨rfl, hg, hl⟩
        have c0 : w1.cell? ⟨w.heap.size, 0, none⟩ = some (.int .u16 (a : Int)) := by rw [hl.cell (p := ⟨w.heap.size, 0, none⟩) (by simp)]; go_cell
        have c1 : w1.cell? ⟨w.heap.size, 1, none⟩ = some (.int .u16 (b : Int)) := by rw [hl.cell (p := ⟨w.heap.size, 1, none⟩) (by simp)]; go_cell
        go_wp2_with fail
        go_quiet (fail)
        go_wp2_with (first
          | (go_at_call 13; refine (worth_any (by first | exact Hx.out | exact Hy.out) _ _ (by omega) _).mono ?_; rintro e w' ⟨rfl, rfl⟩)
          | (go_at_call 8; refine (fix_any _ _).mono ?_; rintro e w' ⟨rfl, rfl⟩))
        go_ret
        exact ⟨rfl, grown_on ((Grown.refl w).alloc _ _) hg⟩
      · clear hx hy
        go_enter Try.func4, Try.ntmps4
        go_wp2_with fail
        refine (awake_any _).mono ?_
        rintro e w1 ⟨rfl, hg, hl⟩
        have c0 : w1.cell? ⟨w.heap.size, 0, none⟩ = some (.int .u16 (a : Int)) := by rw [hl.cell (p := ⟨w.heap.size, 0, none⟩) (by simp)]; go_cell
        have c1 : w1.cell? ⟨w.heap.size, 1, none⟩ = some (.int .u16 (b : Int)) := by rw [hl.cell (p := ⟨w.heap.size, 1, none⟩) (by simp)]; go_cell
        go_wp2_with fail
        go_quiet (fail)
        go_wp2_with (first
          | (go_at_call 13; refine (worth_any (by first | exact Hx.out | exact Hy.out) _ _ (by omega) _).mono ?_; rintro e w' ⟨rfl, rfl⟩)
          | (go_at_call 8; refine (fix_any _ _).mono ?_; rintro e w' ⟨rfl, rfl⟩))
        go_ret
        exact ⟨rfl, grown_on ((Grown.refl w).alloc _ _) hg⟩
    · have n5 := worth_pred hx (by omega) h0 hA
      have n6 : ((a : Int) == 0) = false := by simp; omega
      cases hB : worthB y a b
      · have n3 := no_le hx hy (by omega) hA hB
        clear hx hy
        go_enter Try.func4, Try.ntmps4
        go_wp2_with fail
        refine (awake_any _).mono ?_
        rintro e w1 ⟨rfl, hg, hl⟩
        have c0 : w1.cell? ⟨w.heap.size, 0, none⟩ = some (.int .u16 (a : Int)) := by rw [hl.cell (p := ⟨w.heap.size, 0, none⟩) (by simp)]; go_cell
        have c1 : w1.cell? ⟨w.heap.size, 1, none⟩ = some (.int .u16 (b : Int)) := by rw [hl.cell (p := ⟨w.heap.size, 1, none⟩) (by simp)]; go_cell
        go_wp2_with fail
        go_quiet (fail)
        go_wp2_with (first
          | (go_at_call 13; refine (worth_any (by first | exact Hx.out | exact Hy.out) _ _ (by omega) _).mono ?_; rintro e w' ⟨rfl, rfl⟩)
          | (go_at_call 8; refine (fix_any _ _).mono ?_; rintro e w' ⟨rfl, rfl⟩))
        go_ret
        exact ⟨rfl, grown_on ((Grown.refl w).alloc _ _) hg⟩
      · clear hx hy
        go_enter Try.func4, Try.ntmps4
        go_wp2_with fail
        refine (awake_any _).mono ?_
        rintro e w1 ⟨rfl, hg, hl⟩
        have c0 : w1.cell? ⟨w.heap.size, 0, none⟩ = some (.int .u16 (a : Int)) := by rw [hl.cell (p := ⟨w.heap.size, 0, none⟩) (by simp)]; go_cell
        have c1 : w1.cell? ⟨w.heap.size, 1, none⟩ = some (.int .u16 (b : Int)) := by rw [hl.cell (p := ⟨w.heap.size, 1, none⟩) (by simp)]; go_cell
        go_wp2_with fail
        go_quiet (fail)
        go_wp2_with (first
          | (go_at_call 13; refine (worth_any (by first | exact Hx.out | exact Hy.out) _ _ (by omega) _).mono ?_; rintro e w' ⟨rfl, rfl⟩)
          | (go_at_call 8; refine (fix_any _ _).mono ?_; rintro e w' ⟨rfl, rfl⟩))
        go_ret
        exact ⟨rfl, grown_on ((Grown.refl w).alloc _ _) hg⟩

end Go.Proofs.Ytepfdhfoobeoeaa
