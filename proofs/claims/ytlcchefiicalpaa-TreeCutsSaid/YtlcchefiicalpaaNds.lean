/- The document's Same at two nodes that say the same. -/
import Derived.Test.YtlcchefiicalpaaNdr
import Derived.Laws.StructEq
namespace Go.Proofs.Ytlcchefiicalpaa
open Go.RowKit

theorem place_neq (a b c : Int) (w : World) : (binOp .neq 54 (.agg #[.int .i64 a, .int .i64 b, .int .i64 c]) (.agg #[.int .i64 a, .int .i64 b, .int .i64 c])).run Try.prog w = .ok (.bool false) w := by
  have u3 := Try.underlying3
  have a3 := Try.isAgg3
  have z3 := Try.sizeOf3
  have hS : Try.prog.underlying 54 = some (.struct (Try.prog.fieldsOf 54)) := by kernel_rfl
  have hp : Try.prog.stoodInHeld 54 = false := by kernel_rfl
  rw [run_neq_struct, show (10000 : Nat) = 9999 + 1 from rfl, run_equalIn_agg w 9999 54 _ _ hS hp]
  simp only [Program.fieldsOf, Try.underlying54]
  go_simp

theorem kid_neq (a b c : Int) (w : World) : (binOp .neq 56 (.agg #[.int .i64 a, .int .i64 b, .int .i64 c]) (.agg #[.int .i64 a, .int .i64 b, .int .i64 c])).run Try.prog w = .ok (.bool false) w := by
  have u3 := Try.underlying3
  have a3 := Try.isAgg3
  have z3 := Try.sizeOf3
  have hS : Try.prog.underlying 56 = some (.struct (Try.prog.fieldsOf 56)) := by kernel_rfl
  have hp : Try.prog.stoodInHeld 56 = false := by kernel_rfl
  rw [run_neq_struct, show (10000 : Nat) = 9999 + 1 from rfl, run_equalIn_agg w 9999 56 _ _ hS hp]
  simp only [Program.fieldsOf, Try.underlying56]
  go_simp

theorem drewN_zeroN (w : World) : w.drewN 0 = w := by cases w; rfl
set_option maxRecDepth 8000 in
set_option maxHeartbeats 16000000 in
theorem same_any {w : World} {v1 v2 : Value} {n : Nd.N} (h1 : NdAt w w.heap.size v1 n) (h2 : NdAt w w.heap.size v2 n) (hpg : n.ps.length ≤ n.gs.length) (hfw : FewOk n) :
    Calls Try.prog 25 #[v1, v2] w fun e w' => e = .returned (.bool true) ∧ Below w.heap.size w w' := by
  have kp := place_neq
  have kk := kid_neq
  obtain ⟨A1, c1, A2, c2, A3, c3, A4, c4, rfl, hf1⟩ := h1
  obtain ⟨B1, d1, B2, d2, B3, d3, B4, d4, rfl, hf2⟩ := h2
  obtain ⟨W1, hW1⟩ : ∃ W, w.alloc (.cells #[.int .i64 n.h, .slice A1 n.ks.length c1, .slice A2 n.ps.length c2, .slice A3 n.gs.length c3, .slice A4 n.cs.length c4] 26) = W := ⟨_, rfl⟩
  obtain ⟨W, hW⟩ : ∃ W, W1.alloc (.cells #[.int .i64 n.h, .slice B1 n.ks.length d1, .slice B2 n.ps.length d2, .slice B3 n.gs.length d3, .slice B4 n.cs.length d4] 26) = W := ⟨_, rfl⟩
  obtain ⟨bx, hb1⟩ := nd_box hW1
  obtain ⟨by_, hb2⟩ := nd_box hW
  have bx := bx.keep (w' := W) (hb2.block _ bx.lt)
  have hbl : Below w.heap.size w W := hb1.trans (hb2.mono hb1.size)
  have F1 := Lib.hid (hf1.below hbl)
  have F2 := Lib.hid (hf2.below hbl)
  have HB := Lib.hid hbl
  obtain ⟨k1, e1⟩ : ∃ k, k = n.ks.length := ⟨_, rfl⟩
  obtain ⟨k2, e2⟩ : ∃ k, k = n.ps.length := ⟨_, rfl⟩
  obtain ⟨k3, e3⟩ : ∃ k, k = n.gs.length := ⟨_, rfl⟩
  obtain ⟨k4, e4⟩ : ∃ k, k = n.cs.length := ⟨_, rfl⟩
  obtain ⟨f1, f2, f3, f4⟩ := hfw
  rw [← e1] at f1
  rw [← e2] at f2
  rw [← e3] at f3
  rw [← e4] at f4
  have E1 := Lib.hid e1
  have E2 := Lib.hid e2
  have E3 := Lib.hid e3
  have E4 := Lib.hid e4
  rw [← e1, ← e2, ← e3, ← e4] at hW1 hW bx by_ ⊢
  rw [← e2, ← e3] at hpg
  obtain ⟨b, hb⟩ : ∃ b, w.heap.size = b := ⟨_, rfl⟩
  obtain ⟨b2, hb2'⟩ : ∃ b, W1.heap.size = b := ⟨_, rfl⟩
  rw [hb] at bx HB F1 F2 ⊢
  rw [hb2'] at by_
  generalize n.h = k0 at *
  have x0 : W.cell? ⟨b, 0, none⟩ = some (.int .i64 k0) := bx.cell 0
  have x1 : W.cell? ⟨b, 1, none⟩ = some (.slice A1 k1 c1) := bx.cell 1
  have x2 : W.cell? ⟨b, 2, none⟩ = some (.slice A2 k2 c2) := bx.cell 2
  have x3 : W.cell? ⟨b, 3, none⟩ = some (.slice A3 k3 c3) := bx.cell 3
  have x4 : W.cell? ⟨b, 4, none⟩ = some (.slice A4 k4 c4) := bx.cell 4
  have y0 : W.cell? ⟨b2, 0, none⟩ = some (.int .i64 k0) := by_.cell 0
  have y1 : W.cell? ⟨b2, 1, none⟩ = some (.slice B1 k1 d1) := by_.cell 1
  have y2 : W.cell? ⟨b2, 2, none⟩ = some (.slice B2 k2 d2) := by_.cell 2
  have y3 : W.cell? ⟨b2, 3, none⟩ = some (.slice B3 k3 d3) := by_.cell 3
  have y4 : W.cell? ⟨b2, 4, none⟩ = some (.slice B4 k4 d4) := by_.cell 4
  have q0 : (k0 != k0) = false := by simp
  have q1 : ((k1 : Int) != (k1 : Int)) = false := by simp
  have q2 : ((k2 : Int) != (k2 : Int)) = false := by simp
  have q3 : ((k3 : Int) != (k3 : Int)) = false := by simp
  have q4 : ((k4 : Int) != (k4 : Int)) = false := by simp
  clear bx by_ hf1 hf2 hb1 hb2 hbl e1 e2 e3 e4
  go_enter Try.func25, Try.ntmps25
  go_wp2_with fail
  go_loopw [5] (fun v wr => ∃ i m : Nat, v = .int .i64 (i : Int) ∧ i ≤ k1 ∧ wr = W.drewN m) (fun v _ => k1 - (intOf v).toNat)
  case atStart => exact ⟨0, 0, rfl, Nat.zero_le _, (drewN_zeroN W).symm⟩
  case round =>
    obtain ⟨i, m, rfl, hi, rfl⟩ := hrel
    by_cases hik : i < k1
    · have z0 : decide ((i : Int) < (k1 : Int)) = true := by rw [decide_eq_true_eq]; omega
      have z0' : decide (i < k1) = true := by rw [decide_eq_true_eq]; exact hik
      have hki : (i : Int) < (k1 : Int) := by omega
      obtain ⟨g, o, rfl, -, hc⟩ := F1.out.ks.int (i := i) (by rw [← E1.out]; exact hik)
      obtain ⟨g2, o2, rfl, -, hc2⟩ := F2.out.ks.int (i := i) (by rw [← E1.out]; exact hik)
      generalize Nd.at_ n.ks i = x at *
      have q5 : (x != x) = false := by simp
      go_wp2_with fail
      go_quiet (fail)
      go_wp2_with fail
      go_roundw
      case rel => exact ⟨i + 1, _, by go_num, by omega, rfl⟩
      case measure => simp [intOf]; omega
    · have hik' : i = k1 := by omega
      subst hik'
      have z0 : decide ((i : Int) < (i : Int)) = false := by simp
      have z0' : decide (i < i) = false := by simp
      go_wp2_with fail
      go_loopw [6] (fun v wr => ∃ i m : Nat, v = .int .i64 (i : Int) ∧ i ≤ k2 ∧ wr = W.drewN m) (fun v _ => k2 - (intOf v).toNat)
      case atStart => exact ⟨0, m, rfl, Nat.zero_le _, rfl⟩
      case round =>
        obtain ⟨j, m, rfl, hj, rfl⟩ := hrel
        by_cases hjk : j < k2
        · have z0 : decide ((j : Int) < (k2 : Int)) = true := by rw [decide_eq_true_eq]; omega
          have z0' : decide (j < k2) = true := by rw [decide_eq_true_eq]; exact hjk
          have hki : (j : Int) < (k2 : Int) := by omega
          have hk3 : (j : Int) < (k3 : Int) := by omega
          obtain ⟨g, o, rfl, -, hc, hd, he⟩ := F1.out.ps.three (i := j) (by rw [← E2.out]; exact hjk)
          obtain ⟨g2, o2, rfl, -, hc2, hd2, he2⟩ := F2.out.ps.three (i := j) (by rw [← E2.out]; exact hjk)
          obtain ⟨g3, o3, rfl, -, hc3⟩ := F1.out.gs.int (i := j) (by rw [← E3.out]; omega)
          obtain ⟨g4, o4, rfl, -, hc4⟩ := F2.out.gs.int (i := j) (by rw [← E3.out]; omega)
          generalize (Nd.t3 n.ps j).1 = p1 at *
          generalize (Nd.t3 n.ps j).2.1 = p2 at *
          generalize (Nd.t3 n.ps j).2.2 = p3 at *
          generalize Nd.at_ n.gs j = x at *
          have q5 : (x != x) = false := by simp
          go_wp2_with fail
          go_quiet (fail)
          go_wp2_with fail
          go_roundw
          case rel => exact ⟨j + 1, _, by go_num, by omega, rfl⟩
          case measure => simp [intOf]; omega
        · have hjk' : j = k2 := by omega
          subst hjk'
          have z0 : decide ((j : Int) < (j : Int)) = false := by simp
          have z0' : decide (j < j) = false := by simp
          go_wp2_with fail
          go_loopw [7] (fun v wr => ∃ i m : Nat, v = .int .i64 (i : Int) ∧ i ≤ k4 ∧ wr = W.drewN m) (fun v _ => k4 - (intOf v).toNat)
          case atStart => exact ⟨0, m, rfl, Nat.zero_le _, rfl⟩
          case round =>
            obtain ⟨l, m, rfl, hl, rfl⟩ := hrel
            by_cases hlk : l < k4
            · have z0 : decide ((l : Int) < (k4 : Int)) = true := by rw [decide_eq_true_eq]; omega
              have z0' : decide (l < k4) = true := by rw [decide_eq_true_eq]; exact hlk
              have hki : (l : Int) < (k4 : Int) := by omega
              obtain ⟨g, o, rfl, -, hc, hd, he⟩ := F1.out.cs.three (i := l) (by rw [← E4.out]; exact hlk)
              obtain ⟨g2, o2, rfl, -, hc2, hd2, he2⟩ := F2.out.cs.three (i := l) (by rw [← E4.out]; exact hlk)
              generalize (Nd.t3 n.cs l).1 = p1 at *
              generalize (Nd.t3 n.cs l).2.1 = p2 at *
              generalize (Nd.t3 n.cs l).2.2 = p3 at *
              go_wp2_with fail
              go_quiet (fail)
              go_wp2_with fail
              go_roundw
              case rel => exact ⟨l + 1, _, by go_num, by omega, rfl⟩
              case measure => simp [intOf]; omega
            · have hlk' : l = k4 := by omega
              subst hlk'
              have z0 : decide ((l : Int) < (l : Int)) = false := by simp
              have z0' : decide (l < l) = false := by simp
              go_wp2_with fail
              go_ret
              exact ⟨rfl, by have t := HB.out; exact ⟨t.os, t.tape, t.output, t.size, t.block⟩⟩
end Go.Proofs.Ytlcchefiicalpaa
