/- The program's Find. -/
import Derived.Test.YtlcchefiicalpaaNpq
namespace Go.Proofs.Ytlcchefiicalpaa
open Go.RowKit

set_option maxRecDepth 8000 in
set_option maxHeartbeats 8000000 in
theorem find_any {w : World} {v : Value} {n : Nd.N} (h : NdAt w w.heap.size v n) (key : Int) (hl : n.ks.length ≤ 1000) : Calls Try.prog 28 #[v, .int .i64 key] w fun e w' => e = .returned (.tuple #[.int .i64 ((Nd.find n.ks key).1 : Int), .bool (Nd.find n.ks key).2]) ∧ Below w.heap.size w w' := by
  obtain ⟨A1, c1, A2, c2, A3, c3, A4, c4, rfl, hf⟩ := h
  obtain ⟨W, hW⟩ : ∃ W, w.alloc (.cells #[.int .i64 n.h, .slice A1 n.ks.length c1, .slice A2 n.ps.length c2, .slice A3 n.gs.length c3, .slice A4 n.cs.length c4] 35) = W := ⟨_, rfl⟩
  obtain ⟨bx, hbl⟩ := nd_box hW
  have HF := Lib.hid (hf.ks.below hbl)
  have HB := Lib.hid hbl
  obtain ⟨R, hR⟩ : ∃ R, R = Nd.find n.ks key := ⟨_, rfl⟩
  rw [← hR]
  have HR := Lib.hid hR
  clear hf hR hbl
  obtain ⟨ks, hks⟩ : ∃ ks, ks = n.ks := ⟨_, rfl⟩
  rw [← hks] at HF HR bx hl hW ⊢
  obtain ⟨q, hq⟩ : ∃ q, q = ks.length := ⟨_, rfl⟩
  have Hq := Lib.hid hq
  rw [← hq] at HF bx hl hW ⊢
  generalize n.ps.length = k2 at *
  generalize n.gs.length = k3 at *
  generalize n.cs.length = k4 at *
  generalize n.h = k0 at *
  obtain ⟨b, hb⟩ : ∃ b, w.heap.size = b := ⟨_, rfl⟩
  rw [hb] at bx HB HF ⊢
  have x1 : W.cell? ⟨b, 1, none⟩ = some (.slice A1 q c1) := bx.cell 1
  clear bx hks hq
  go_enter Try.func28, Try.ntmps28
  go_wp2_with fail
  go_loopw [6] (fun v6 wr => ∃ i : Nat, v6 = .int .i64 ((i : Int) - 1) ∧ i ≤ q ∧ Nd.last ks key q = Nd.last ks key i ∧ wr = W) (fun v6 _ => (intOf v6 + 1).toNat)
  case atStart => exact ⟨q, by go_num, Nat.le_refl _, rfl, rfl⟩
  case round =>
    obtain ⟨i, rfl, hi, hL, hwr⟩ := hrel
    subst hwr
    have HL := Lib.hid hL
    clear hL
    cases i with
    | zero =>
      have z0 : decide ((0 : Int) ≤ ((0 : Nat) : Int) - 1) = false := by decide
      have hF : R = (0, false) := by rw [HR.out]; unfold Nd.find; rw [← Hq.out, HL.out]; rfl
      have Fin := Lib.hid hF
      clear hF
      go_wp2_with fail
      go_returns
      exact ⟨by rw [Fin.out]; rfl, HB.out⟩
    | succ j =>
      rw [show ((j + 1 : Nat) : Int) - 1 = (j : Int) by omega]
      have z0 : decide ((0 : Int) ≤ (j : Int)) = true := by rw [decide_eq_true_eq]; omega
      have hji : (j : Int) < (q : Int) := by omega
      obtain ⟨g, o, rfl, -, hc⟩ := HF.out.int (i := j) (by rw [← Hq.out]; omega)
      by_cases hk : Nd.at_ ks j ≤ key
      · have z1 : decide (Nd.at_ ks j ≤ key) = true := by rw [decide_eq_true_eq]; exact hk
        obtain ⟨is, his⟩ : ∃ is, is = decide (Nd.at_ ks j = key) := ⟨_, rfl⟩
        have z3 : (Nd.at_ ks j == key) = is := by rw [his]; rfl
        have Fin := Lib.hid (show R = (j, is) from by rw [HR.out]; unfold Nd.find; rw [← Hq.out, HL.out, Nd.last, if_pos hk, his])
        clear hk his
        generalize Nd.at_ ks j = x at *
        go_wp2_with fail
        go_quiet (fail)
        go_wp2_with fail
        go_returns
        refine ⟨by rw [Fin.out]; rfl, ?_⟩
        have := HB.out
        exact ⟨this.os, this.tape, this.output, this.size, this.block⟩
      · have z1 : decide (Nd.at_ ks j ≤ key) = false := by rw [decide_eq_false_iff_not]; exact hk
        have Nx := Lib.hid (show Nd.last ks key q = Nd.last ks key j from by rw [HL.out, Nd.last, if_neg hk])
        clear hk
        generalize Nd.at_ ks j = x at *
        go_wp2_with fail
        go_roundw
        case rel => exact ⟨j, by go_num, by omega, Nx.out, by trivial⟩
        case measure => simp [intOf]
end Go.Proofs.Ytlcchefiicalpaa
