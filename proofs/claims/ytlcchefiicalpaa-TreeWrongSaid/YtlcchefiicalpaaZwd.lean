/- The document's PlaceMay and Find; the statements' Few. -/
import Derived.Test.YtlcchefiicalpaaZwb
import Derived.Handy
namespace Go.Proofs.Ytlcchefiicalpaa
open Go.RowKit
/-- A node put into a block of its own. -/
theorem nd_box {w W : World} {n : Nd.N} {A1 A2 A3 A4 : Option Addr} {c1 c2 c3 c4 : Nat} {t : TypeId} (hW : w.alloc (.cells #[.int .i64 n.h, .slice A1 n.ks.length c1, .slice A2 n.ps.length c2, .slice A3 n.gs.length c3, .slice A4 n.cs.length c4] t) = W) :
    Blk W w.heap.size t #[.int .i64 n.h, .slice A1 n.ks.length c1, .slice A2 n.ps.length c2, .slice A3 n.gs.length c3, .slice A4 n.cs.length c4] ∧ Below w.heap.size w W := by
  rw [← hW]
  exact ⟨Blk.new _ _ _, (Below.refl _ _).alloc (Nat.le_refl _) _⟩
def FewOk (n : Nd.N) : Prop := n.ks.length ≤ 40 ∧ n.ps.length ≤ 40 ∧ n.gs.length ≤ 40 ∧ n.cs.length ≤ 40
instance (n : Nd.N) : Decidable (FewOk n) := by unfold FewOk; infer_instance
set_option maxHeartbeats 4000000 in
theorem few_any {w : World} {B : Nat} {v : Value} {n : Nd.N} (h : NdAt w B v n) : Calls Try.prog 18 #[v] w fun e w' => e = .returned (.bool (decide (FewOk n))) ∧ Below w.heap.size w w' := by
  obtain ⟨A1, c1, A2, c2, A3, c3, A4, c4, rfl, -⟩ := h
  obtain ⟨W, hW⟩ : ∃ W, w.alloc (.cells #[.int .i64 n.h, .slice A1 n.ks.length c1, .slice A2 n.ps.length c2, .slice A3 n.gs.length c3, .slice A4 n.cs.length c4] 26) = W := ⟨_, rfl⟩
  obtain ⟨bx, hbl⟩ := nd_box hW
  obtain ⟨R, hR⟩ : ∃ R, R = decide (FewOk n) := ⟨_, rfl⟩
  rw [← hR]
  have hT : R = true ↔ (n.ks.length ≤ 40 ∧ n.ps.length ≤ 40 ∧ n.gs.length ≤ 40 ∧ n.cs.length ≤ 40) := by rw [hR, decide_eq_true_eq]; exact Iff.rfl
  clear hR
  have HB := Lib.hid hbl
  generalize n.ks.length = k1 at *
  generalize n.ps.length = k2 at *
  generalize n.gs.length = k3 at *
  generalize n.cs.length = k4 at *
  generalize n.h = k0 at *
  obtain ⟨b, hb⟩ : ∃ b, w.heap.size = b := ⟨_, rfl⟩
  rw [hb] at bx HB ⊢
  have x1 : W.cell? ⟨b, 1, none⟩ = some (.slice A1 k1 c1) := bx.cell 1
  have x2 : W.cell? ⟨b, 2, none⟩ = some (.slice A2 k2 c2) := bx.cell 2
  have x3 : W.cell? ⟨b, 3, none⟩ = some (.slice A3 k3 c3) := bx.cell 3
  have x4 : W.cell? ⟨b, 4, none⟩ = some (.slice A4 k4 c4) := bx.cell 4
  clear bx hbl
  by_cases h1 : k1 ≤ 40
  case neg =>
    have E : R = false := by cases hRR : R with | false => rfl | true => exact absurd (hT.1 hRR) (by omega)
    have z1 : decide ((k1 : Int) ≤ 40) = false := by rw [decide_eq_false_iff_not]; omega
    have y1 : decide (k1 ≤ 40) = false := by rw [decide_eq_false_iff_not]; omega
    clear hT h1
    go_enter Try.func18, Try.ntmps18
    go_wp2_with fail
    go_ret
    exact ⟨by rw [E]; rfl, HB.out⟩
  by_cases h2 : k2 ≤ 40
  case neg =>
    have E : R = false := by cases hRR : R with | false => rfl | true => exact absurd (hT.1 hRR) (by omega)
    have z1 : decide ((k1 : Int) ≤ 40) = true := by rw [decide_eq_true_eq]; omega
    have y1 : decide (k1 ≤ 40) = true := by rw [decide_eq_true_eq]; omega
    have z2 : decide ((k2 : Int) ≤ 40) = false := by rw [decide_eq_false_iff_not]; omega
    have y2 : decide (k2 ≤ 40) = false := by rw [decide_eq_false_iff_not]; omega
    clear hT h1 h2
    go_enter Try.func18, Try.ntmps18
    go_wp2_with fail
    go_ret
    exact ⟨by rw [E]; rfl, HB.out⟩
  by_cases h3 : k3 ≤ 40
  case neg =>
    have E : R = false := by cases hRR : R with | false => rfl | true => exact absurd (hT.1 hRR) (by omega)
    have z1 : decide ((k1 : Int) ≤ 40) = true := by rw [decide_eq_true_eq]; omega
    have y1 : decide (k1 ≤ 40) = true := by rw [decide_eq_true_eq]; omega
    have z2 : decide ((k2 : Int) ≤ 40) = true := by rw [decide_eq_true_eq]; omega
    have y2 : decide (k2 ≤ 40) = true := by rw [decide_eq_true_eq]; omega
    have z3 : decide ((k3 : Int) ≤ 40) = false := by rw [decide_eq_false_iff_not]; omega
    have y3 : decide (k3 ≤ 40) = false := by rw [decide_eq_false_iff_not]; omega
    clear hT h1 h2 h3
    go_enter Try.func18, Try.ntmps18
    go_wp2_with fail
    go_ret
    exact ⟨by rw [E]; rfl, HB.out⟩
  by_cases h4 : k4 ≤ 40
  case neg =>
    have E : R = false := by cases hRR : R with | false => rfl | true => exact absurd (hT.1 hRR) (by omega)
    have z1 : decide ((k1 : Int) ≤ 40) = true := by rw [decide_eq_true_eq]; omega
    have y1 : decide (k1 ≤ 40) = true := by rw [decide_eq_true_eq]; omega
    have z2 : decide ((k2 : Int) ≤ 40) = true := by rw [decide_eq_true_eq]; omega
    have y2 : decide (k2 ≤ 40) = true := by rw [decide_eq_true_eq]; omega
    have z3 : decide ((k3 : Int) ≤ 40) = true := by rw [decide_eq_true_eq]; omega
    have y3 : decide (k3 ≤ 40) = true := by rw [decide_eq_true_eq]; omega
    have z4 : decide ((k4 : Int) ≤ 40) = false := by rw [decide_eq_false_iff_not]; omega
    have y4 : decide (k4 ≤ 40) = false := by rw [decide_eq_false_iff_not]; omega
    clear hT h1 h2 h3 h4
    go_enter Try.func18, Try.ntmps18
    go_wp2_with fail
    go_ret
    exact ⟨by rw [E]; rfl, HB.out⟩
  have E : R = true := hT.2 (by omega)
  have z1 : decide ((k1 : Int) ≤ 40) = true := by rw [decide_eq_true_eq]; omega
  have y1 : decide (k1 ≤ 40) = true := by rw [decide_eq_true_eq]; omega
  have z2 : decide ((k2 : Int) ≤ 40) = true := by rw [decide_eq_true_eq]; omega
  have y2 : decide (k2 ≤ 40) = true := by rw [decide_eq_true_eq]; omega
  have z3 : decide ((k3 : Int) ≤ 40) = true := by rw [decide_eq_true_eq]; omega
  have y3 : decide (k3 ≤ 40) = true := by rw [decide_eq_true_eq]; omega
  have z4 : decide ((k4 : Int) ≤ 40) = true := by rw [decide_eq_true_eq]; omega
  have y4 : decide (k4 ≤ 40) = true := by rw [decide_eq_true_eq]; omega
  clear hT h1 h2 h3 h4
  go_enter Try.func18, Try.ntmps18
  go_wp2_with fail
  go_ret
  exact ⟨by rw [E]; rfl, HB.out⟩
/-- The last of the first k keys that is not greater. -/
def Nd.last (ks : List Int) (key : Int) : Nat → Option Nat
  | 0 => none
  | k + 1 => if Nd.at_ ks k ≤ key then some k else Nd.last ks key k
/-- What Find answers. -/
def Nd.find (ks : List Int) (key : Int) : Nat × Bool := match Nd.last ks key ks.length with | none => (0, false) | some i => (i, decide (Nd.at_ ks i = key))
end Go.Proofs.Ytlcchefiicalpaa
