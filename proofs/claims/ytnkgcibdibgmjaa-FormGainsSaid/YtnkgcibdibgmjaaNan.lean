/- math.NaN and math.Float64frombits. -/
import Derived.Test.YtnkgcibdibgmjaaFixw
import Derived.Handy
import Derived.Lib.Hide
namespace Go.Proofs.Ytnkgcibdibgmjaa
open Go.RowKit Flt

theorem run_frombits (n : Int) (w : World) : (callFunc 33 #[.int .u64 n]).run Try.prog w = .ok (.value (.float .f64 n.toNat)) w := by
  rw [run_callFunc_extern Try.func33 (by kernel_rfl) (by kernel_rfl) (by kernel_rfl) (e := Extern.MathFloatBits.float64frombits) (by kernel_rfl)]
  rfl

set_option maxHeartbeats 400000 in
theorem nan_any (w : World) :
    Calls Try.prog 14 #[] w fun e w' => e = .returned (.float .f64 9221120237041090561) ∧ w = w' := by
  have h := run_frombits 9221120237041090561 w
  go_enter Try.func14, Try.ntmps14
  go_wp2
  go_ret
  exact ⟨rfl, rfl⟩

end Go.Proofs.Ytnkgcibdibgmjaa
