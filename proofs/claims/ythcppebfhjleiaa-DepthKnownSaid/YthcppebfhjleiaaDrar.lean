/- cmp.Compare, rarestFirst's comparison, rarestFirst. -/
import Derived.Test.YthcppebfhjleiaaDstab
import Derived.Test.YthcppebfhjleiaaDmk
import Derived.Lib.OwnBridge
import Derived.Deep.DeepCutAuto
import Derived.BigQuiet
namespace Go.Proofs.Ythcppebfhjleiaa
open Go.RowKit Go.Shelf Go.Sort

theorem nan_any (x : Int) (w : World) : Calls Try.prog 27 #[.int .i64 x] w fun e w' => e = .returned (.bool false) ∧ w' = w := by
  go_enter Try.func27, Try.ntmps27
  go_wp2_with fail
  go_ret
  exact ⟨by simp, rfl⟩
theorem compare_any (x y : Int) (w : World) : Calls Try.prog 21 #[.int .i64 x, .int .i64 y] w fun e w' => e = .returned (.int .i64 (if x < y then -1 else if y < x then 1 else 0)) ∧ w' = w := by
  have N := Lib.hid (fun x w => nan_any x w)
  by_cases h1 : x < y
  · have q1 : decide (x < y) = true := decide_eq_true h1
    rw [if_pos h1]
    go_enter Try.func21, Try.ntmps21
    go_wp2_with (first | (go_at_call 27; refine (N.out _ _).mono ?_; rintro e w' ⟨rfl, hw'⟩; subst w'))
    go_ret
    exact ⟨rfl, rfl⟩
  · have q1 : decide (x < y) = false := decide_eq_false h1
    rw [if_neg h1]
    by_cases h2 : y < x
    · have q2 : decide (y < x) = true := decide_eq_true h2
      rw [if_pos h2]
      go_enter Try.func21, Try.ntmps21
      go_wp2_with (first | (go_at_call 27; refine (N.out _ _).mono ?_; rintro e w' ⟨rfl, hw'⟩; subst w'))
      go_ret
      exact ⟨rfl, rfl⟩
    · have q2 : decide (y < x) = false := decide_eq_false h2
      rw [if_neg h2]
      go_enter Try.func21, Try.ntmps21
      go_wp2_with (first | (go_at_call 27; refine (N.out _ _).mono ?_; rintro e w' ⟨rfl, hw'⟩; subst w'))
      go_ret
      exact ⟨rfl, rfl⟩

/-- The counts, told of byte values. -/
def cnt (cl : List Int) (x : Fin 256) : Int := cl.getD x.val 0
set_option maxHeartbeats 2000000 in
theorem closure_any (cl : List Int) (b : Nat) (W : World) (hc : ∀ k, k < 256 → W.cell? ⟨b, k, none⟩ = some (.int .i64 (cl.getD k 0))) (x y : Fin 256) :
    Calls Try.prog 20 (#[encF x, encF y] ++ #[.pointer (some ⟨b, 0, none⟩)]) W fun e w' => e = .returned (.int .i64 (cmpV (cnt cl) x y)) ∧ ∃ q, w' = W.drewN q := by
  have i1 := index256 .i64 x.isLt b
  have i2 := index256 .i64 y.isLt b
  have c1 := hc x.val x.isLt
  have c2 := hc y.val y.isLt
  have E : cmpV (cnt cl) x y = if cl.getD x.val 0 < cl.getD y.val 0 then -1 else if cl.getD y.val 0 < cl.getD x.val 0 then 1 else 0 := rfl
  rw [E]
  clear hc E
  unfold encF
  generalize cl.getD x.val 0 = cx at *
  generalize cl.getD y.val 0 = cy at *
  generalize x.val = xv at *
  generalize y.val = yv at *
  have C := Lib.hid (fun k => show Calls Try.prog 21 #[.int .i64 cx, .int .i64 cy] (W.drewN k) fun e w' => e = .returned (.int .i64 (if cx < cy then -1 else if cy < cx then 1 else 0)) ∧ ∃ n, w' = W.drewN n from (compare_any cx cy (W.drewN k)).mono fun e w' h => ⟨h.1, k, h.2⟩)
  generalize (if cx < cy then (-1 : Int) else if cy < cx then 1 else 0) = r at *
  go_enter Try.func20, Try.ntmps20
  go_wp2_with fail
  go_quiet ((first | (go_at_call 21; with_reducible exact C.out _)))
  go_wp2_with fail
  go_ret
  exact ⟨rfl, _, rfl⟩
end Go.Proofs.Ythcppebfhjleiaa
