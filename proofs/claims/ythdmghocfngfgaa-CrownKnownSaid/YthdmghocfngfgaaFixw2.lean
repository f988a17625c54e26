/- The document's Fix. -/
import Derived.Test.YthdmghocfngfgaaFixw
namespace Go.Proofs.Ythdmghocfngfgaa
open Go.RowKit Flt

set_option maxHeartbeats 400000 in
theorem rfix_any (x : Nat) (w : World) :
    Calls Try.prog 33 #[.float .f64 x] w fun e w' => e = .returned (.float .f64 (fixB x)) ∧ w = w' := by
  unfold fixB
  cases c1 : (FloatKind.f64.format.order x x != some .eq)
  · cases c2 : (FloatKind.f64.format.order x 4607182418800017408 == some .gt)
    · cases c3 : (FloatKind.f64.format.order x 0 == some .lt || FloatKind.f64.format.order x 0 == some .eq)
      all_goals
        go_enter Try.func33, Try.ntmps33
        go_wp2
        go_ret
        exact ⟨rfl, rfl⟩
    · go_enter Try.func33, Try.ntmps33
      go_wp2
      go_ret
      exact ⟨rfl, rfl⟩
  · go_enter Try.func33, Try.ntmps33
    go_wp2
    go_ret
    exact ⟨rfl, rfl⟩

end Go.Proofs.Ythdmghocfngfgaa
