/- The statements' Crown and Same. -/
import Derived.Test.YthdmghocfngfgaaCdec
import Derived.Test.YthdmghocfngfgaaCmay
import Derived.BigQuiet
namespace Go.Proofs.Ythdmghocfngfgaa
open Go.RowKit Go.BigFrame

set_option maxHeartbeats 2000000 in
theorem lcrown_any (c : Cn.C) (w : World) : Calls Try.prog 12 #[crV c] w fun e w' => e = .returned (crV c) ∧ Below w.heap.size w w' := by
  obtain ⟨x1, x2, x3, x4, x5, x6, x7, x8⟩ := c
  simp only [crV]
  have hsf := store_float
  go_enter Try.func12, Try.ntmps12
  go_wp2_with fail
  refine bodyPost_ret (v := .agg #[.int .i64 x1, .int .i64 x2, .int .i64 x3, .float .f64 x4, .int .i64 x5, .int .i64 x6, .int .i64 x7, .int .i64 x8]) ?_ rfl ⟨rfl, ((Below.refl _ _).alloc (Nat.le_refl _) _).alloc (by simp) _⟩
  simp [results, Try.results12]
  go_simp

set_option maxRecDepth 4000 in
set_option maxHeartbeats 4000000 in
theorem same_self (c : Cn.C) (w : World) : Calls Try.prog 17 #[crV c, crV c] w fun e w' => e = .returned (.bool true) ∧ Below w.heap.size w w' := by
  obtain ⟨x1, x2, x3, x4, x5, x6, x7, x8⟩ := c
  simp only [crV]
  obtain ⟨W0, hW0⟩ : ∃ W, w.alloc (.cells #[.int .i64 x1, .int .i64 x2, .int .i64 x3, .float .f64 x4, .int .i64 x5, .int .i64 x6, .int .i64 x7, .int .i64 x8] 36) = W := ⟨_, rfl⟩
  obtain ⟨W, hW⟩ : ∃ W, W0.alloc (.cells #[.int .i64 x1, .int .i64 x2, .int .i64 x3, .float .f64 x4, .int .i64 x5, .int .i64 x6, .int .i64 x7, .int .i64 x8] 26) = W := ⟨_, rfl⟩
  have hb0 : Below w.heap.size w W0 := by rw [← hW0]; exact (Below.refl _ _).alloc (Nat.le_refl _) _
  have hb : Below w.heap.size w W := by rw [← hW]; exact hb0.alloc hb0.size _
  have k0 : Blk W0 w.heap.size 36 (crC ⟨x1, x2, x3, x4, x5, x6, x7, x8⟩) := by rw [← hW0]; exact Blk.new _ _ _
  have k1 : Blk W W0.heap.size 26 (crC ⟨x1, x2, x3, x4, x5, x6, x7, x8⟩) := by rw [← hW]; exact Blk.new _ _ _
  have k2 : Blk W w.heap.size 36 (crC ⟨x1, x2, x3, x4, x5, x6, x7, x8⟩) := by rw [← hW]; exact k0.alloc _
  obtain ⟨g, hg⟩ : ∃ g, W0.heap.size = g := ⟨_, rfl⟩
  rw [hg] at k1
  have a0 : W.cell? ⟨w.heap.size, 0, none⟩ = some (.int .i64 x1) := k2.cell 0
  have a1 : W.cell? ⟨w.heap.size, 1, none⟩ = some (.int .i64 x2) := k2.cell 1
  have a2 : W.cell? ⟨w.heap.size, 2, none⟩ = some (.int .i64 x3) := k2.cell 2
  have a3 : W.cell? ⟨w.heap.size, 3, none⟩ = some (.float .f64 x4) := k2.cell 3
  have a4 : W.cell? ⟨w.heap.size, 4, none⟩ = some (.int .i64 x5) := k2.cell 4
  have a5 : W.cell? ⟨w.heap.size, 5, none⟩ = some (.int .i64 x6) := k2.cell 5
  have a6 : W.cell? ⟨w.heap.size, 6, none⟩ = some (.int .i64 x7) := k2.cell 6
  have a7 : W.cell? ⟨w.heap.size, 7, none⟩ = some (.int .i64 x8) := k2.cell 7
  have b0 : W.cell? ⟨g, 0, none⟩ = some (.int .i64 x1) := k1.cell 0
  have b1 : W.cell? ⟨g, 1, none⟩ = some (.int .i64 x2) := k1.cell 1
  have b2 : W.cell? ⟨g, 2, none⟩ = some (.int .i64 x3) := k1.cell 2
  have b3 : W.cell? ⟨g, 3, none⟩ = some (.float .f64 x4) := k1.cell 3
  have b4 : W.cell? ⟨g, 4, none⟩ = some (.int .i64 x5) := k1.cell 4
  have b5 : W.cell? ⟨g, 5, none⟩ = some (.int .i64 x6) := k1.cell 5
  have b6 : W.cell? ⟨g, 6, none⟩ = some (.int .i64 x7) := k1.cell 6
  have b7 : W.cell? ⟨g, 7, none⟩ = some (.int .i64 x8) := k1.cell 7
  have HB := Lib.hid hb
  have hbits := fun V => run_bits x4 V
  clear hb0 hb k0 k1 k2
  go_enter Try.func17, Try.ntmps17
  go_wp2_with fail
  go_quiet (fail)
  go_wp2_with fail
  go_ret
  exact ⟨by simp, HB.out.trans ((drewN_below _).mono HB.out.size)⟩
end Go.Proofs.Ythdmghocfngfgaa
