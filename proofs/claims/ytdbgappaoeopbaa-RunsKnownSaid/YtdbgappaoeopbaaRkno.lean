/- RunsKnown under the contracts. -/
import Derived.Test.YtdbgappaoeopbaaRunm
namespace Go.Proofs.Ytdbgappaoeopbaa
open Go.RowKit

set_option maxRecDepth 8000 in
set_option maxHeartbeats 16000000 in
theorem known_any {Rep : World → Nat → (Nat → Prop) → List Bool → Prop} (hC : RunsC Rep) (w : World) :
    Calls Try.prog 7 #[] w fun e w' => e = .returned (.bool true) ∧ Below w.heap.size w w' := by
  have AW := Lib.hid (rawake_any hC w)
  have HC := Lib.hid hC
  obtain ⟨B, hB⟩ : ∃ B, B = w.heap.size := ⟨_, rfl⟩
  have HBw := Lib.hid (show B ≤ w.heap.size by omega)
  rw [← hB] at AW ⊢
  clear hC hB
  go_enter Try.func7, Try.ntmps7
  go_wp2_with fail
  refine AW.out.mono ?_
  rintro e w0 ⟨rfl, hb0⟩
  have S0 := Lib.hid (Nat.le_trans HBw.out hb0.size)
  have H0 := Lib.hid hb0
  obtain ⟨O, hO1, hO2⟩ : ∃ O : Nat → Prop, (∀ b, b < B → O b) ∧ ∀ b, O b → b < w0.heap.size := ⟨fun b => b < B, fun _ h => h, fun b h => Nat.lt_of_lt_of_le h S0.out⟩
  have O1 := Lib.hid hO1
  have M0 := Lib.hid (Maps.none (Rep := Rep) hO2)
  clear hb0 hO1 hO2 AW
  have N := new_at HC.out M0.out (8) (by unfold I64; omega)
  rw [show Rn.new (8) = [true, true, true, true, true, true, true, true] by decide] at N
  have N1 := Lib.hid N
  clear N M0
  go_wp2_with fail
  refine N1.out.mono ?_
  rintro e w1 ⟨g1, rfl, m, hc⟩
  have hc := hc.mono S0.out
  have M1 := Lib.hid (show Maps Rep O w1 [(g1, [true, true, true, true, true, true, true, true])] from m)
  have S1 := Lib.hid (Nat.le_trans S0.out hc.size)
  have H1 := Lib.hid (H0.out.trans hc)
  clear m hc N1 H0 S0
  have N := new_at HC.out M1.out (-1) (by unfold I64; omega)
  rw [show Rn.new (-1) = [] by decide] at N
  have N2 := Lib.hid N
  clear N M1
  go_wp2_with fail
  refine N2.out.mono ?_
  rintro e w2 ⟨g2, rfl, m, hc⟩
  have hc := hc.mono S1.out
  have M2 := Lib.hid (show Maps Rep O w2 [(g1, [true, true, true, true, true, true, true, true]), (g2, [])] from m)
  have S2 := Lib.hid (Nat.le_trans S1.out hc.size)
  have H2 := Lib.hid (H1.out.trans hc)
  clear m hc N2 H1 S1
  have N := new_at HC.out M2.out (8193) (by unfold I64; omega)
  rw [show Rn.new (8193) = [] by decide] at N
  have N3 := Lib.hid N
  clear N M2
  go_wp2_with fail
  refine N3.out.mono ?_
  rintro e w3 ⟨g3, rfl, m, hc⟩
  have hc := hc.mono S2.out
  have M3 := Lib.hid (show Maps Rep O w3 [(g1, [true, true, true, true, true, true, true, true]), (g2, []), (g3, [])] from m)
  have S3 := Lib.hid (Nat.le_trans S2.out hc.size)
  have H3 := Lib.hid (H2.out.trans hc)
  clear m hc N3 H2 S2
  have N := take_at HC.out M3.out (i := 0) (g := g1) (F := [true, true, true, true, true, true, true, true]) rfl (0) (by unfold I64; omega)
  rw [show Rn.take [true, true, true, true, true, true, true, true] (0) = (0, false, [true, true, true, true, true, true, true, true]) by decide] at N
  have N4 := Lib.hid N
  clear N M3
  go_wp2_with fail
  refine N4.out.mono ?_
  rintro e w4 ⟨rfl, m, hc⟩
  have hc := Maps.old_below hc S3.out O1.out
  have M4 := Lib.hid (show Maps Rep O w4 [(g1, [true, true, true, true, true, true, true, true]), (g2, []), (g3, [])] from m)
  have S4 := Lib.hid (Nat.le_trans S3.out hc.size)
  have H4 := Lib.hid (H3.out.trans hc)
  clear m hc N4 H3 S3
  have N := take_at HC.out M4.out (i := 0) (g := g1) (F := [true, true, true, true, true, true, true, true]) rfl (9) (by unfold I64; omega)
  rw [show Rn.take [true, true, true, true, true, true, true, true] (9) = (0, false, [true, true, true, true, true, true, true, true]) by decide] at N
  have N5 := Lib.hid N
  clear N M4
  go_wp2_with fail
  refine N5.out.mono ?_
  rintro e w5 ⟨rfl, m, hc⟩
  have hc := Maps.old_below hc S4.out O1.out
  have M5 := Lib.hid (show Maps Rep O w5 [(g1, [true, true, true, true, true, true, true, true]), (g2, []), (g3, [])] from m)
  have S5 := Lib.hid (Nat.le_trans S4.out hc.size)
  have H5 := Lib.hid (H4.out.trans hc)
  clear m hc N5 H4 S4
  have N := take_at HC.out M5.out (i := 1) (g := g2) (F := []) rfl (1) (by unfold I64; omega)
  rw [show Rn.take [] (1) = (0, false, []) by decide] at N
  have N6 := Lib.hid N
  clear N M5
  go_wp2_with fail
  refine N6.out.mono ?_
  rintro e w6 ⟨rfl, m, hc⟩
  have hc := Maps.old_below hc S5.out O1.out
  have M6 := Lib.hid (show Maps Rep O w6 [(g1, [true, true, true, true, true, true, true, true]), (g2, []), (g3, [])] from m)
  have S6 := Lib.hid (Nat.le_trans S5.out hc.size)
  have H6 := Lib.hid (H5.out.trans hc)
  clear m hc N6 H5 S5
  have N := mark_at HC.out M6.out (i := 0) (g := g1) (F := [true, true, true, true, true, true, true, true]) rfl (7) (1) (by unfold I64; omega) (by unfold I64; omega)
  rw [show Rn.mark [true, true, true, true, true, true, true, true] (7) (1) = (true, [true, true, true, true, true, true, true, false]) by decide] at N
  have N7 := Lib.hid N
  clear N M6
  go_wp2_with fail
  refine N7.out.mono ?_
  rintro e w7 ⟨rfl, m, hc⟩
  have hc := Maps.old_below hc S6.out O1.out
  have M7 := Lib.hid (show Maps Rep O w7 [(g1, [true, true, true, true, true, true, true, false]), (g2, []), (g3, [])] from m)
  have S7 := Lib.hid (Nat.le_trans S6.out hc.size)
  have H7 := Lib.hid (H6.out.trans hc)
  clear m hc N7 H6 S6
  have N := mark_at HC.out M7.out (i := 0) (g := g1) (F := [true, true, true, true, true, true, true, false]) rfl (7) (1) (by unfold I64; omega) (by unfold I64; omega)
  rw [show Rn.mark [true, true, true, true, true, true, true, false] (7) (1) = (false, [true, true, true, true, true, true, true, false]) by decide] at N
  have N8 := Lib.hid N
  clear N M7
  go_wp2_with fail
  refine N8.out.mono ?_
  rintro e w8 ⟨rfl, m, hc⟩
  have hc := Maps.old_below hc S7.out O1.out
  have M8 := Lib.hid (show Maps Rep O w8 [(g1, [true, true, true, true, true, true, true, false]), (g2, []), (g3, [])] from m)
  have S8 := Lib.hid (Nat.le_trans S7.out hc.size)
  have H8 := Lib.hid (H7.out.trans hc)
  clear m hc N8 H7 S7
  have N := mark_at HC.out M8.out (i := 0) (g := g1) (F := [true, true, true, true, true, true, true, false]) rfl (6) (2) (by unfold I64; omega) (by unfold I64; omega)
  rw [show Rn.mark [true, true, true, true, true, true, true, false] (6) (2) = (false, [true, true, true, true, true, true, true, false]) by decide] at N
  have N9 := Lib.hid N
  clear N M8
  go_wp2_with fail
  refine N9.out.mono ?_
  rintro e w9 ⟨rfl, m, hc⟩
  have hc := Maps.old_below hc S8.out O1.out
  have M9 := Lib.hid (show Maps Rep O w9 [(g1, [true, true, true, true, true, true, true, false]), (g2, []), (g3, [])] from m)
  have S9 := Lib.hid (Nat.le_trans S8.out hc.size)
  have H9 := Lib.hid (H8.out.trans hc)
  clear m hc N9 H8 S8
  have N := mark_at HC.out M9.out (i := 0) (g := g1) (F := [true, true, true, true, true, true, true, false]) rfl (8) (1) (by unfold I64; omega) (by unfold I64; omega)
  rw [show Rn.mark [true, true, true, true, true, true, true, false] (8) (1) = (false, [true, true, true, true, true, true, true, false]) by decide] at N
  have N10 := Lib.hid N
  clear N M9
  go_wp2_with fail
  refine N10.out.mono ?_
  rintro e w10 ⟨rfl, m, hc⟩
  have hc := Maps.old_below hc S9.out O1.out
  have M10 := Lib.hid (show Maps Rep O w10 [(g1, [true, true, true, true, true, true, true, false]), (g2, []), (g3, [])] from m)
  have S10 := Lib.hid (Nat.le_trans S9.out hc.size)
  have H10 := Lib.hid (H9.out.trans hc)
  clear m hc N10 H9 S9
  have N := mark_at HC.out M10.out (i := 0) (g := g1) (F := [true, true, true, true, true, true, true, false]) rfl (-1) (1) (by unfold I64; omega) (by unfold I64; omega)
  rw [show Rn.mark [true, true, true, true, true, true, true, false] (-1) (1) = (false, [true, true, true, true, true, true, true, false]) by decide] at N
  have N11 := Lib.hid N
  clear N M10
  go_wp2_with fail
  refine N11.out.mono ?_
  rintro e w11 ⟨rfl, m, hc⟩
  have hc := Maps.old_below hc S10.out O1.out
  have M11 := Lib.hid (show Maps Rep O w11 [(g1, [true, true, true, true, true, true, true, false]), (g2, []), (g3, [])] from m)
  have S11 := Lib.hid (Nat.le_trans S10.out hc.size)
  have H11 := Lib.hid (H10.out.trans hc)
  clear m hc N11 H10 S10
  have N := mark_at HC.out M11.out (i := 0) (g := g1) (F := [true, true, true, true, true, true, true, false]) rfl (0) (0) (by unfold I64; omega) (by unfold I64; omega)
  rw [show Rn.mark [true, true, true, true, true, true, true, false] (0) (0) = (false, [true, true, true, true, true, true, true, false]) by decide] at N
  have N12 := Lib.hid N
  clear N M11
  go_wp2_with fail
  refine N12.out.mono ?_
  rintro e w12 ⟨rfl, m, hc⟩
  have hc := Maps.old_below hc S11.out O1.out
  have M12 := Lib.hid (show Maps Rep O w12 [(g1, [true, true, true, true, true, true, true, false]), (g2, []), (g3, [])] from m)
  have S12 := Lib.hid (Nat.le_trans S11.out hc.size)
  have H12 := Lib.hid (H11.out.trans hc)
  clear m hc N12 H11 S11
  have N := give_at HC.out M12.out (i := 0) (g := g1) (F := [true, true, true, true, true, true, true, false]) rfl (6) (2) (by unfold I64; omega) (by unfold I64; omega)
  rw [show Rn.give [true, true, true, true, true, true, true, false] (6) (2) = (false, [true, true, true, true, true, true, true, false]) by decide] at N
  have N13 := Lib.hid N
  clear N M12
  go_wp2_with fail
  refine N13.out.mono ?_
  rintro e w13 ⟨rfl, m, hc⟩
  have hc := Maps.old_below hc S12.out O1.out
  have M13 := Lib.hid (show Maps Rep O w13 [(g1, [true, true, true, true, true, true, true, false]), (g2, []), (g3, [])] from m)
  have S13 := Lib.hid (Nat.le_trans S12.out hc.size)
  have H13 := Lib.hid (H12.out.trans hc)
  clear m hc N13 H12 S12
  have N := give_at HC.out M13.out (i := 0) (g := g1) (F := [true, true, true, true, true, true, true, false]) rfl (8) (1) (by unfold I64; omega) (by unfold I64; omega)
  rw [show Rn.give [true, true, true, true, true, true, true, false] (8) (1) = (false, [true, true, true, true, true, true, true, false]) by decide] at N
  have N14 := Lib.hid N
  clear N M13
  go_wp2_with fail
  refine N14.out.mono ?_
  rintro e w14 ⟨rfl, m, hc⟩
  have hc := Maps.old_below hc S13.out O1.out
  have M14 := Lib.hid (show Maps Rep O w14 [(g1, [true, true, true, true, true, true, true, false]), (g2, []), (g3, [])] from m)
  have S14 := Lib.hid (Nat.le_trans S13.out hc.size)
  have H14 := Lib.hid (H13.out.trans hc)
  clear m hc N14 H13 S13
  have N := give_at HC.out M14.out (i := 0) (g := g1) (F := [true, true, true, true, true, true, true, false]) rfl (-1) (2) (by unfold I64; omega) (by unfold I64; omega)
  rw [show Rn.give [true, true, true, true, true, true, true, false] (-1) (2) = (false, [true, true, true, true, true, true, true, false]) by decide] at N
  have N15 := Lib.hid N
  clear N M14
  go_wp2_with fail
  refine N15.out.mono ?_
  rintro e w15 ⟨rfl, m, hc⟩
  have hc := Maps.old_below hc S14.out O1.out
  have M15 := Lib.hid (show Maps Rep O w15 [(g1, [true, true, true, true, true, true, true, false]), (g2, []), (g3, [])] from m)
  have S15 := Lib.hid (Nat.le_trans S14.out hc.size)
  have H15 := Lib.hid (H14.out.trans hc)
  clear m hc N15 H14 S14
  have N := give_at HC.out M15.out (i := 0) (g := g1) (F := [true, true, true, true, true, true, true, false]) rfl (7) (0) (by unfold I64; omega) (by unfold I64; omega)
  rw [show Rn.give [true, true, true, true, true, true, true, false] (7) (0) = (false, [true, true, true, true, true, true, true, false]) by decide] at N
  have N16 := Lib.hid N
  clear N M15
  go_wp2_with fail
  refine N16.out.mono ?_
  rintro e w16 ⟨rfl, m, hc⟩
  have hc := Maps.old_below hc S15.out O1.out
  have M16 := Lib.hid (show Maps Rep O w16 [(g1, [true, true, true, true, true, true, true, false]), (g2, []), (g3, [])] from m)
  have S16 := Lib.hid (Nat.le_trans S15.out hc.size)
  have H16 := Lib.hid (H15.out.trans hc)
  clear m hc N16 H15 S15
  have N := give_at HC.out M16.out (i := 0) (g := g1) (F := [true, true, true, true, true, true, true, false]) rfl (7) (1) (by unfold I64; omega) (by unfold I64; omega)
  rw [show Rn.give [true, true, true, true, true, true, true, false] (7) (1) = (true, [true, true, true, true, true, true, true, true]) by decide] at N
  have N17 := Lib.hid N
  clear N M16
  go_wp2_with fail
  refine N17.out.mono ?_
  rintro e w17 ⟨rfl, m, hc⟩
  have hc := Maps.old_below hc S16.out O1.out
  have M17 := Lib.hid (show Maps Rep O w17 [(g1, [true, true, true, true, true, true, true, true]), (g2, []), (g3, [])] from m)
  have S17 := Lib.hid (Nat.le_trans S16.out hc.size)
  have H17 := Lib.hid (H16.out.trans hc)
  clear m hc N17 H16 S16
  have N := give_at HC.out M17.out (i := 0) (g := g1) (F := [true, true, true, true, true, true, true, true]) rfl (7) (1) (by unfold I64; omega) (by unfold I64; omega)
  rw [show Rn.give [true, true, true, true, true, true, true, true] (7) (1) = (false, [true, true, true, true, true, true, true, true]) by decide] at N
  have N18 := Lib.hid N
  clear N M17
  go_wp2_with fail
  refine N18.out.mono ?_
  rintro e w18 ⟨rfl, m, hc⟩
  have hc := Maps.old_below hc S17.out O1.out
  have M18 := Lib.hid (show Maps Rep O w18 [(g1, [true, true, true, true, true, true, true, true]), (g2, []), (g3, [])] from m)
  have S18 := Lib.hid (Nat.le_trans S17.out hc.size)
  have H18 := Lib.hid (H17.out.trans hc)
  clear m hc N18 H17 S17
  have N := take_at HC.out M18.out (i := 0) (g := g1) (F := [true, true, true, true, true, true, true, true]) rfl (8) (by unfold I64; omega)
  rw [show Rn.take [true, true, true, true, true, true, true, true] (8) = (0, true, [false, false, false, false, false, false, false, false]) by decide] at N
  have N19 := Lib.hid N
  clear N M18
  go_wp2_with fail
  refine N19.out.mono ?_
  rintro e w19 ⟨rfl, m, hc⟩
  have hc := Maps.old_below hc S18.out O1.out
  have M19 := Lib.hid (show Maps Rep O w19 [(g1, [false, false, false, false, false, false, false, false]), (g2, []), (g3, [])] from m)
  have S19 := Lib.hid (Nat.le_trans S18.out hc.size)
  have H19 := Lib.hid (H18.out.trans hc)
  clear m hc N19 H18 S18
  have N := free_at HC.out M19.out (i := 0) (g := g1) (F := [false, false, false, false, false, false, false, false]) rfl
  rw [show Rn.freeN [false, false, false, false, false, false, false, false] = 0 by decide] at N
  have N20 := Lib.hid N
  clear N M19
  go_wp2_with fail
  refine N20.out.mono ?_
  rintro e w20 ⟨rfl, m, hc⟩
  have hc := hc.mono S19.out
  have M20 := Lib.hid (show Maps Rep O w20 [(g1, [false, false, false, false, false, false, false, false]), (g2, []), (g3, [])] from m)
  have S20 := Lib.hid (Nat.le_trans S19.out hc.size)
  have H20 := Lib.hid (H19.out.trans hc)
  clear m hc N20 H19 S19
  have N := free_at HC.out M20.out (i := 1) (g := g2) (F := []) rfl
  rw [show Rn.freeN [] = 0 by decide] at N
  have N21 := Lib.hid N
  clear N M20
  go_wp2_with fail
  refine N21.out.mono ?_
  rintro e w21 ⟨rfl, m, hc⟩
  have hc := hc.mono S20.out
  have M21 := Lib.hid (show Maps Rep O w21 [(g1, [false, false, false, false, false, false, false, false]), (g2, []), (g3, [])] from m)
  have S21 := Lib.hid (Nat.le_trans S20.out hc.size)
  have H21 := Lib.hid (H20.out.trans hc)
  clear m hc N21 H20 S20
  have N := free_at HC.out M21.out (i := 2) (g := g3) (F := []) rfl
  rw [show Rn.freeN [] = 0 by decide] at N
  have N22 := Lib.hid N
  clear N M21
  go_wp2_with fail
  refine N22.out.mono ?_
  rintro e w22 ⟨rfl, m, hc⟩
  have hc := hc.mono S21.out
  have M22 := Lib.hid (show Maps Rep O w22 [(g1, [false, false, false, false, false, false, false, false]), (g2, []), (g3, [])] from m)
  have S22 := Lib.hid (Nat.le_trans S21.out hc.size)
  have H22 := Lib.hid (H21.out.trans hc)
  clear m hc N22 H21 S21
  have N := list_at HC.out M22.out (i := 0) (g := g1) (F := [false, false, false, false, false, false, false, false]) rfl
  rw [show Rn.list [false, false, false, false, false, false, false, false] = [] by decide] at N
  have N23 := Lib.hid N
  clear N M22
  go_wp2_with fail
  refine N23.out.mono ?_
  rintro e w23 ⟨v, rfl, own, m, hc⟩
  obtain ⟨A, c, rfl⟩ := ownR_slice own
  rw [show ([] : List (Nat × Nat)).length = 0 from rfl]
  clear own
  have hc := hc.mono S22.out
  have M23 := Lib.hid (show Maps Rep O w23 [(g1, [false, false, false, false, false, false, false, false]), (g2, []), (g3, [])] from m)
  have S23 := Lib.hid (Nat.le_trans S22.out hc.size)
  have H23 := Lib.hid (H22.out.trans hc)
  clear m hc N23 H22 S22
  go_wp2_with fail
  go_ret
  exact ⟨rfl, H23.out⟩
end Go.Proofs.Ytdbgappaoeopbaa
