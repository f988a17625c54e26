/- The statements' Same, of equal lists. -/
import Derived.Test.YtlcchefiicalpaaTrw
import Derived.Test.YtlcchefiicalpaaNds
namespace Go.Proofs.Ytlcchefiicalpaa
open Go.RowKit

set_option maxRecDepth 8000 in
set_option maxHeartbeats 8000000 in
theorem msame_any {w : World} {A A2 : Option Addr} {c c2 : Nat} {l : List Tr.E} (h : SlC w w.heap.size A c l.length (evs l)) (h2 : SlC w w.heap.size A2 c2 l.length (evs l)) (hl : l.length ≤ 100000) :
    Calls Try.prog 36 #[.slice A l.length c, .agg #[.slice A2 l.length c2]] w fun e w' => e = .returned (.bool true) ∧ Below w.heap.size w w' := by
  obtain ⟨W, hW⟩ : ∃ W, w.alloc (.cells #[.slice A2 l.length c2] 71) = W := ⟨_, rfl⟩
  have bx : Blk W w.heap.size 71 #[.slice A2 l.length c2] := by rw [← hW]; exact Blk.new _ _ _
  have hb1 : Below w.heap.size w W := by rw [← hW]; exact (Below.refl _ _).alloc (Nat.le_refl _) _
  have F1 := Lib.hid (h.below hb1)
  have F2 := Lib.hid (h2.below hb1)
  have HB := Lib.hid hb1
  obtain ⟨b, hb⟩ : ∃ b, w.heap.size = b := ⟨_, rfl⟩
  rw [hb] at bx F1 F2 HB ⊢
  obtain ⟨q, hq⟩ : ∃ q, q = l.length := ⟨_, rfl⟩
  have Hq := Lib.hid hq
  rw [← hq] at F1 F2 bx hl hW ⊢
  have x0 : W.cell? ⟨b, 0, none⟩ = some (.slice A2 q c2) := bx.cell 0
  have q6 : ((q : Int) != (q : Int)) = false := by simp
  clear bx hb1 h h2 hq
  go_enter Try.func36, Try.ntmps36
  go_wp2_with fail
  go_loopw [5] (fun v wr => ∃ i m : Nat, v = .int .i64 (i : Int) ∧ i ≤ q ∧ wr = W.drewN m) (fun v _ => q - (intOf v).toNat)
  case atStart => exact ⟨0, 0, rfl, Nat.zero_le _, (drewN_zeroN W).symm⟩
  case round =>
    obtain ⟨i, m, rfl, hi, rfl⟩ := hrel
    by_cases hik : i < q
    · have z0 : decide ((i : Int) < (q : Int)) = true := by rw [decide_eq_true_eq]; omega
      have z0' : decide (i < q) = true := by rw [decide_eq_true_eq]; exact hik
      have hki : (i : Int) < (q : Int) := by omega
      have hil : i < l.length := by rw [← Hq.out]; exact hik
      obtain ⟨g, o, rfl, -, c0, c1, c2, c3, c4⟩ := F1.out.ev (i := i) hil
      obtain ⟨g2, o2, rfl, -, d0, d1, d2, d3, d4⟩ := F2.out.ev (i := i) hil
      clear hil
      generalize (l.getD i Tr.z).k = ek at *
      generalize (l.getD i Tr.z).p.1 = e1 at *
      generalize (l.getD i Tr.z).p.2.1 = e2 at *
      generalize (l.getD i Tr.z).p.2.2 = e3 at *
      generalize (l.getD i Tr.z).g = eg at *
      have q5 : (ek != ek) = false := by simp
      have q7 : (eg != eg) = false := by simp
      go_wp2_with fail
      go_quiet (fail)
      go_wp2_with fail
      go_roundw
      case rel => exact ⟨i + 1, _, by go_num, by omega, rfl⟩
      case measure => simp [intOf]; omega
    · have hik' : i = q := by omega
      have z0 : decide ((i : Int) < (q : Int)) = false := by rw [decide_eq_false_iff_not]; omega
      have z0' : decide (i < q) = false := by rw [decide_eq_false_iff_not]; exact hik
      go_wp2_with fail
      go_returns
      have := HB.out
      exact ⟨rfl, ⟨this.os, this.tape, this.output, this.size, this.block⟩⟩
end Go.Proofs.Ytlcchefiicalpaa
