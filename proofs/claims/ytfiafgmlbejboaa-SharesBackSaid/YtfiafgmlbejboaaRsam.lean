/- The statements' Same under the contracts. -/
import Derived.Test.YtfiafgmlbejboaaRunm
namespace Go.Proofs.Ytfiafgmlbejboaa
open Go.RowKit

theorem run_two_neq (a b c d : Int) (w : World) : (binOp .neq 39 (.agg #[.int .i64 a, .int .i64 b]) (.agg #[.int .i64 c, .int .i64 d])).run Try.prog w = .ok (.bool (!(decide (a = c) && decide (b = d)))) w := by
  have u3 := Try.underlying3
  have a3 := Try.isAgg3
  have z3 := Try.sizeOf3
  have hS : Try.prog.underlying 39 = some (.struct (Try.prog.fieldsOf 39)) := by kernel_rfl
  have hp : Try.prog.stoodInHeld 39 = false := by kernel_rfl
  rw [run_neq_struct, show (10000 : Nat) = 9999 + 1 from rfl, run_equalIn_agg w 9999 39 _ _ hS hp]
  simp only [Program.fieldsOf, Try.underlying39]
  go_simp
  by_cases h1 : a = c <;> by_cases h2 : b = d <;> simp [h1, h2]

/-- The cells of a row of runs. -/
def RunCells (w : World) (A : Option Addr) (L : List (Nat × Nat)) : Prop := ∀ k, k < L.length → ∃ gl, A = some ⟨gl, 0, none⟩ ∧ gl < w.heap.size ∧ w.cell? ⟨gl, k * 2, none⟩ = some (.int .i64 ((L.getD k (0, 0)).1 : Int)) ∧ w.cell? ⟨gl, k * 2 + 1, none⟩ = some (.int .i64 ((L.getD k (0, 0)).2 : Int))
theorem ownR_cells {w : World} {B n c : Nat} {A : Option Addr} {L : List (Nat × Nat)} (h : OwnR w B (.slice A n c) L) : RunCells w A L := fun k hk => by
  obtain ⟨gl, c', e, _, h2, h3, _, _⟩ := ownR_at h (by omega)
  injection e with e _ _
  exact ⟨gl, e, h2, h3 k hk⟩
theorem RunCells.below {w w' : World} {A : Option Addr} {L : List (Nat × Nat)} (h : RunCells w A L) (hb : Below w.heap.size w w') : RunCells w' A L := fun k hk => by
  obtain ⟨gl, e, h1, h2, h3⟩ := h k hk
  exact ⟨gl, e, Nat.lt_of_lt_of_le h1 hb.size, by rw [World.cell?_of_block (hb.block gl h1)]; exact h2, by rw [World.cell?_of_block (hb.block gl h1)]; exact h3⟩

set_option maxRecDepth 8000 in
set_option maxHeartbeats 16000000 in
theorem same_any {Rep : World → Nat → (Nat → Prop) → List Bool → Prop} (hC : RunsC Rep) {w : World} {g gm gb : Nat} {X : Nat → Prop} {F : List Bool} (hr : Rep w g X F) (hm : RRef w gm gb F) :
    Calls Try.prog 21 #[.pointer (some ⟨g, 0, none⟩), .pointer (some ⟨gm, 0, none⟩)] w fun e w' => e = .returned (.bool true) ∧ Below w.heap.size w w' := by
  have kt := run_two_neq
  have HC := Lib.hid hC
  have R0 := Lib.hid hr
  have M0 := Lib.hid hm
  have N1 := Lib.hid (hC.list hr)
  clear hr hm hC
  have LX := Lib.hid (HC.out.lt R0.out)
  have L1 := Lib.hid M0.out.map.lt
  have L2 := Lib.hid M0.out.blks.lt
  obtain ⟨L, hL⟩ : ∃ L, L = Rn.list F := ⟨_, rfl⟩
  have HL := Lib.hid hL
  have hq8 : L.length ≤ 8192 := by rw [hL]; exact Nat.le_trans (listK_few F F.length) M0.out.few
  rw [← hL] at N1
  obtain ⟨q, hq⟩ : ∃ q, q = L.length := ⟨_, rfl⟩
  have Hq := Lib.hid hq
  rw [← hq] at hq8
  clear hL hq
  go_enter Try.func21, Try.ntmps21
  go_wp2_with fail
  refine N1.out.mono ?_
  rintro e w1 ⟨v1, rfl, own1, hb1⟩
  have H1 := Lib.hid hb1
  have N := rlist_any (M0.out.keep (hb1.block gm L1.out) (hb1.block gb L2.out))
  rw [← HL.out] at N
  have N2 := Lib.hid N
  obtain ⟨A1, c1, rfl⟩ := ownR_slice own1
  have C1 := Lib.hid (ownR_cells own1)
  rw [← Hq.out]
  clear N own1 hb1 N1
  go_wp2_with fail
  refine N2.out.mono ?_
  rintro e w2 ⟨v2, rfl, own2, hb2⟩
  have H2 := Lib.hid (H1.out.trans (hb2.mono H1.out.size))
  obtain ⟨A2, c2, rfl⟩ := ownR_slice own2
  have C2 := Lib.hid (ownR_cells own2)
  have C12 := Lib.hid (C1.out.below hb2)
  rw [← Hq.out]
  have N3 := Lib.hid (HC.out.free (HC.out.keep R0.out fun b hb => H2.out.block b (LX.out b hb)))
  clear own2 hb2 N2 C1 H1
  go_wp2_with fail
  refine N3.out.mono ?_
  rintro e w3 ⟨rfl, hb3⟩
  have H3 := Lib.hid (H2.out.trans (hb3.mono H2.out.size))
  have D1 := Lib.hid (C12.out.below hb3)
  have D2 := Lib.hid (C2.out.below hb3)
  have N4 := Lib.hid (rfree_any (M0.out.keep (H3.out.block gm L1.out) (H3.out.block gb L2.out)))
  clear hb3 N3 C12 C2 H2
  generalize Rn.freeN F = u at *
  go_wp2_with fail
  refine N4.out.mono ?_
  rintro e w4 ⟨rfl, rfl⟩
  have N5 := Lib.hid (HC.out.greatest (HC.out.keep R0.out fun b hb => H3.out.block b (LX.out b hb)))
  clear N4
  go_wp2_with fail
  refine N5.out.mono ?_
  rintro e w5 ⟨rfl, hb5⟩
  have H5 := Lib.hid (H3.out.trans (hb5.mono H3.out.size))
  have E1 := Lib.hid (D1.out.below hb5)
  have E2 := Lib.hid (D2.out.below hb5)
  have N6 := Lib.hid (rgreat_any (M0.out.keep (H5.out.block gm L1.out) (H5.out.block gb L2.out)))
  clear hb5 N5 D1 D2 H3
  generalize Rn.greatest F = m at *
  go_wp2_with fail
  refine N6.out.mono ?_
  rintro e w6 ⟨rfl, hb6⟩
  have H6 := Lib.hid (H5.out.trans (hb6.mono H5.out.size))
  have G1 := Lib.hid (E1.out.below hb6)
  have G2 := Lib.hid (E2.out.below hb6)
  clear hb6 N6 E1 E2 H5
  go_wp2_with fail
  go_loopw [7] (fun v wr => ∃ i : Nat, v = .int .i64 (i : Int) ∧ i ≤ q ∧ RunCells wr A1 L ∧ RunCells wr A2 L ∧ Below w.heap.size w wr) (fun v _ => q - (intOf v).toNat)
  case atStart => exact ⟨0, rfl, Nat.zero_le _, G1.out, G2.out, H6.out⟩
  case round =>
    obtain ⟨i, rfl, hi, k1, k2, hb⟩ := hrel
    have K1 := Lib.hid k1
    have K2 := Lib.hid k2
    have HB := Lib.hid hb
    clear k1 k2 hb
    by_cases hiq : i < q
    · have z0 : decide ((i : Int) < (q : Int)) = true := by rw [decide_eq_true_eq]; omega
      have z0' : decide (i < q) = true := by rw [decide_eq_true_eq]; exact hiq
      have zi2 : (0 : Int) ≤ (i : Int) ∧ (i : Int) < (q : Int) := by omega
      obtain ⟨g1, rfl, hg1, a1, a2⟩ := K1.out i (by rw [← Hq.out]; exact hiq)
      obtain ⟨g2, rfl, hg2, b1, b2⟩ := K2.out i (by rw [← Hq.out]; exact hiq)
      generalize (L.getD i (0, 0)).1 = x at *
      generalize (L.getD i (0, 0)).2 = y at *
      go_wp2_with fail
      go_quiet (fail)
      all_goals
        go_wp2_with fail
        go_roundw
        case rel => exact ⟨i + 1, by go_num, by omega, fun k hk => K1.out k hk, fun k hk => K2.out k hk, Go.below_drewN HB.out _⟩
        case measure => simp [intOf]; omega
    · have hiq' : i = q := by omega
      subst hiq'
      have z0 : decide ((i : Int) < (i : Int)) = false := by simp
      have z0' : decide (i < i) = false := by simp
      go_wp2_with fail
      go_ret
      exact ⟨rfl, HB.out⟩
end Go.Proofs.Ytfiafgmlbejboaa
