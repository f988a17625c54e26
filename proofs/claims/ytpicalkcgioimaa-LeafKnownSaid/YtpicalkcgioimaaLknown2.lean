/- LeafKnown returns true; the memory that was there stays as it is. -/
import Derived.Test.YtpicalkcgioimaaLknown
import Derived.Test.YtpicalkcgioimaaLsizes
import Derived.BigQuiet
namespace Go.Proofs.Ytpicalkcgioimaa
open Go.RowKit Crc

set_option maxRecDepth 10000 in
set_option maxHeartbeats 8000000 in
theorem known_any (w : World) : Calls Try.prog 8 #[] w fun e w' => e = .returned (.bool true) ∧ Below w.heap.size w w' := by
  obtain ⟨i0, hi0, hz0, hs0, hb0⟩ := byte_parts (P := Try.prog) (e := 5) (by kernel_rfl)
  go_enter Try.func8, Try.ntmps8
  go_wp2_with fail
  refine (awake_any _).mono ?_
  rintro e w1 ⟨rfl, hb1⟩
  obtain ⟨w1b, h1b⟩ : ∃ x, x = w1.alloc (.cells #[.int .u8 9] 5) := ⟨_, rfl⟩
  have by1 : By w1b (some ⟨w1.heap.size, 0, none⟩) 1 [9] := by rw [h1b]; exact by_lit rfl rfl (by decide) (by decide)
  have b1b : Below w1.heap.size w1 w1b := by rw [h1b]; exact (Below.refl _ _).alloc (Nat.le_refl _) _
  have N1 := Lib.hid (make_by 65 (by decide) 65 rfl 258 258 rfl (by decide) by1 (by decide) 1 rfl)
  have HB1 := Lib.hid (hb1.trans (b1b.mono hb1.size))
  have e1b : w1.alloc (.cells #[.int .u8 9] 5) = w1b := h1b.symm
  clear h1b by1 b1b hb1
  go_wp2_with fail
  refine N1.out.mono ?_
  rintro e w2 ⟨A2, c2, rfl, -, b2, o2⟩
  rw [kF_len] at o2 ⊢
  obtain ⟨g, rfl, hgB⟩ : ∃ g, A2 = some ⟨g, 0, none⟩ ∧ w1b.heap.size ≤ g := by
    rcases o2.2 with ⟨_, h0⟩ | ⟨g, cap2, _, hv, hbg, _⟩
    · omega
    · injection hv with hv; exact ⟨g, hv, hbg⟩
  have hg2 : g < w2.heap.size := (o2.lt g rfl).2
  have HB2 := Lib.hid (HB1.out.trans (b2.mono HB1.out.size))
  have hgw : w.heap.size ≤ g := Nat.le_trans HB1.out.size hgB
  have O2 := Lib.hid o2
  clear b2 o2 N1 e1b HB1 hgB
  obtain ⟨w3, h3⟩ : ∃ x, x = w2.alloc (.cells #[.int .u8 197, .int .u8 126, .int .u8 65, .int .u8 0, .int .u8 2, .int .u8 1, .int .u8 0, .int .u8 0, .int .u8 1, .int .u8 0, .int .u8 0, .int .u8 0] 5) := ⟨_, rfl⟩
  have by3 : By w3 (some ⟨w2.heap.size, 0, none⟩) 12 [197, 126, 65, 0, 2, 1, 0, 0, 1, 0, 0, 0] := by rw [h3]; exact by_lit rfl rfl (by decide) (by decide)
  have b3 : Below w2.heap.size w2 w3 := by rw [h3]; exact (Below.refl _ _).alloc (Nat.le_refl _) _
  have HY3 := Lib.hid by3
  have HB3 := Lib.hid (HB2.out.trans (b3.mono HB2.out.size))
  have O3 := Lib.hid (own_keep O2.out fun b _ hlt => b3.block b hlt)
  have hg3 : g < w3.heap.size := Nat.lt_of_lt_of_le hg2 b3.size
  have e3 : w2.alloc (.cells #[.int .u8 197, .int .u8 126, .int .u8 65, .int .u8 0, .int .u8 2, .int .u8 1, .int .u8 0, .int .u8 0, .int .u8 1, .int .u8 0, .int .u8 0, .int .u8 0] 5) = w3 := h3.symm
  have M4 := Lib.hid (mine_empty (w0 := w3) (w := w3) (Below.refl _ _))
  have Y4 := Lib.hid (HY3.out.below M4.out.bel)
  clear h3 by3 b3 HB2 O2 hg2
  generalize hhd : w2.heap.size = hd at *
  have l12 : (byts [197, 126, 65, 0, 2, 1, 0, 0, 1, 0, 0, 0]).length = 12 := rfl
  have L12 := Lib.hid l12
  clear l12
  go_wp2_with (at_builtin; first
    | (refine wpList_append_sl (base := w3.heap.size) _ rfl (.tmp 32) (.tmp 33) _ rfl Try.underlying22 hi0 hz0 hs0 hb0 rfl rfl M4.out.own rfl L12.out.symm Y4.out.nil Y4.out.sl (byts_one _) (by rw [L12.out]; exact Nat.le_refl _) (by rw [L12.out]; unfold maxLen; omega) (by rw [L12.out]; omega) M4.out.bel.size ?_; intro v5 w5 h1 h2 _; obtain ⟨A5, c5, rfl, m5⟩ := M4.out.app (r := [197, 126, 65, 0, 2, 1, 0, 0, 1, 0, 0, 0]) rfl (show 0 + 12 = 12 from rfl) h1 h2; have M5 := Lib.hid (m5.below (w' := w5.alloc (.cells #[.int .u8 9] 5)) ((Below.refl _ _).alloc (Nat.le_refl _) _)); have S5 := Lib.hid (sl_cells (w := w5) (cs := #[.int .u8 9]) (l := [9]) rfl); clear h1 h2 m5 M4 Y4)
    | (refine wpList_append_sl (base := w3.heap.size) _ rfl (.tmp 34) (.tmp 35) _ rfl Try.underlying22 hi0 hz0 hs0 hb0 rfl rfl M5.out.own rfl (byts_length [9]).symm (by simp) S5.out (byts_one _) (by rw [byts_length]; exact Nat.le_refl _) (by rw [byts_length]; unfold maxLen; simp) (by rw [byts_length]; simp) M5.out.bel.size ?_; intro v6 w6 h1 h2 _; obtain ⟨A6, c6, rfl, m6⟩ := M5.out.app (r := [9]) rfl (show 12 + 1 = 13 from rfl) h1 h2; have M6 := Lib.hid m6; clear h1 h2 m6 M5 S5))
  have C7 : Calls Try.prog 18 #[.slice A6 13 c6] w6 fun e w' => e = .returned (.int .u32 ((kS : Nat) : Int)) ∧ Below w6.heap.size w6 w' := sum_any A6 c6 ([] ++ [197, 126, 65, 0, 2, 1, 0, 0, 1, 0, 0, 0] ++ [9]) (by decide) (by decide) w6 M6.out.sl
  refine C7.mono ?_
  rintro e w7 ⟨rfl, b7⟩
  have hF1 : ∀ i, i < 17 → (frameB 65 258 [9]).getD i 0 = (kW kS).getD i 0 := fun i h => kF_at h
  have hF2 : ∀ i, 17 ≤ i → (frameB 65 258 [9]).getD i 0 = 0 := fun i h => kF_zero h
  have HF1 := Lib.hid hF1
  have HF2 := Lib.hid hF2
  have hks := kS_lt
  have hb7 : Below w3.heap.size w3 w7 := M6.out.bel.trans (b7.mono M6.out.bel.size)
  have M8 := Lib.hid (mine_empty (w0 := w3) (w := w7) hb7)
  have Y8 := Lib.hid (HY3.out.below M8.out.bel)
  clear C7 b7 hb7 M6 hF1 hF2
  generalize kS = s at *
  go_wp2_with (at_builtin; first
    | (refine wpList_append_sl (base := w3.heap.size) _ rfl (.tmp 38) (.tmp 39) _ rfl Try.underlying22 hi0 hz0 hs0 hb0 rfl rfl M8.out.own rfl L12.out.symm Y8.out.nil Y8.out.sl (byts_one _) (by rw [L12.out]; exact Nat.le_refl _) (by rw [L12.out]; unfold maxLen; omega) (by rw [L12.out]; omega) M8.out.bel.size ?_; intro v9 w9 h1 h2 _; obtain ⟨A9, c9, rfl, m9⟩ := M8.out.app (r := [197, 126, 65, 0, 2, 1, 0, 0, 1, 0, 0, 0]) rfl (show 0 + 12 = 12 from rfl) h1 h2; have M9 := Lib.hid (m9.below (w' := w9.alloc (.cells #[.int .u8 ((s : Int) % 256), .int .u8 ((s : Int) / 256 % 256), .int .u8 ((s : Int) / 65536 % 256), .int .u8 ((s : Int) / 16777216)] 5)) ((Below.refl _ _).alloc (Nat.le_refl _) _)); have S9 := Lib.hid (sl_cells (w := w9) (cs := #[.int .u8 ((s : Int) % 256), .int .u8 ((s : Int) / 256 % 256), .int .u8 ((s : Int) / 65536 % 256), .int .u8 ((s : Int) / 16777216)]) (l := le4 s) (by simp [byts, le4]; omega)); clear h1 h2 m9 M8 Y8)
    | (refine wpList_append_sl (base := w3.heap.size) _ rfl (.tmp 40) (.tmp 52) _ rfl Try.underlying22 hi0 hz0 hs0 hb0 rfl rfl M9.out.own rfl (byts_length (le4 s)).symm (by simp) S9.out (byts_one _) (by rw [byts_length]; exact Nat.le_refl _) (by rw [byts_length, le4_len]; unfold maxLen; simp) (by rw [byts_length, le4_len]; simp) M9.out.bel.size ?_; intro v10 w10 h1 h2 _; obtain ⟨A10, c10, rfl, m10⟩ := M9.out.app (r := le4 s) rfl (show 12 + 4 = 16 from rfl) h1 h2; have M10 := Lib.hid (m10.below (w' := w10.alloc (.cells #[.int .u8 9] 5)) ((Below.refl _ _).alloc (Nat.le_refl _) _)); have S10 := Lib.hid (sl_cells (w := w10) (cs := #[.int .u8 9]) (l := [9]) rfl); clear h1 h2 m10 M9 S9)
    | (refine wpList_append_sl (base := w3.heap.size) _ rfl (.tmp 53) (.tmp 54) _ rfl Try.underlying22 hi0 hz0 hs0 hb0 rfl rfl M10.out.own rfl (byts_length [9]).symm (by simp) S10.out (byts_one _) (by rw [byts_length]; exact Nat.le_refl _) (by rw [byts_length]; unfold maxLen; simp) (by rw [byts_length]; simp) M10.out.bel.size ?_; intro v11 w11 h1 h2 _; obtain ⟨A11, c11, rfl, m11⟩ := M10.out.app (r := [9]) rfl (show 16 + 1 = 17 from rfl) h1 h2; have M11 := Lib.hid m11; clear h1 h2 m11 M10 S10))
  have hW : [] ++ [197, 126, 65, 0, 2, 1, 0, 0, 1, 0, 0, 0] ++ le4 s ++ [9] = kW s := rfl
  rw [hW] at M11
  obtain ⟨q, rfl, hq⟩ : ∃ q, A11 = some ⟨q, 0, none⟩ ∧ w3.heap.size ≤ q := by
    rcases M11.out.own.2 with ⟨_, h0⟩ | ⟨g, cap2, _, hv, hbg, _⟩
    · omega
    · injection hv with hv; exact ⟨g, hv, hbg⟩
  have hq11 : q < w11.heap.size := (M11.out.own.lt q rfl).2
  have O11 := Lib.hid (own_keep O3.out fun b hb hlt => M11.out.bel.block b hlt)
  have HB11 := Lib.hid (HB3.out.trans (M11.out.bel.mono HB3.out.size))
  have hg11 : g < w11.heap.size := Nat.lt_of_lt_of_le hg3 M11.out.bel.size
  have cF : ∀ W, Below w11.heap.size w11 W → ∀ i, i < 64 → W.cell? ⟨g, i, none⟩ = some (.int .u8 (((frameB 65 258 [9]).getD i 0 : Nat) : Int)) := fun W hb i hi => by
    rw [hb.cell (p := ⟨g, i, none⟩) hg11, O11.out.cellAt i hi]
    exact byts_at (by rw [kF_len]; exact hi)
  have cW : ∀ W, Below w11.heap.size w11 W → ∀ i, i < 17 → W.cell? ⟨q, i, none⟩ = some (.int .u8 (((kW s).getD i 0 : Nat) : Int)) := fun W hb i hi => by
    rw [hb.cell (p := ⟨q, i, none⟩) hq11, M11.out.own.cellAt i hi]
    exact byts_at hi
  have CF := Lib.hid cF
  have CW := Lib.hid cW
  clear cF cW M11 O3 HB3 HY3 hg3 hq hq11 hW e3 L12
  go_loopw [6] (fun i wr => ∃ j : Nat, j ≤ 64 ∧ i = .int .i64 j ∧ Below w11.heap.size w11 wr) (fun i _ => 64 - (intOf i).toNat)
  case atStart => exact ⟨0, by omega, rfl, Below.refl _ _⟩
  case round =>
    obtain ⟨j, hj, rfl, hbr⟩ := hrel
    have HBR := Lib.hid hbr
    clear hbr
    by_cases hlt : j < 64
    · have cf := CF.out wr HBR.out j hlt
      by_cases h17 : j < 17
      · have cw := CW.out wr HBR.out j h17
        rw [HF1.out j h17] at cf
        have t1 : decide ((j : Int) < 17) = true := by rw [decide_eq_true_eq]; omega
        have t2 : decide ((17 : Int) ≤ (j : Int)) = false := by rw [decide_eq_false_iff_not]; omega
        have t1' : decide (j < 17) = true := by simpa using h17
        have t2' : decide (17 ≤ j) = false := by simpa using h17
        clear CF CW HF1 HF2 O11
        generalize (kW s).getD j 0 = y at *
        go_wp2_with fail
        go_quiet (fail)
        go_wp2_with fail
        go_roundw
        case rel => exact ⟨j + 1, by omega, by go_num, HBR.out.trans ((drewN_below _).mono HBR.out.size)⟩
        case measure => simp [intOf]; omega
      · rw [HF2.out j (by omega)] at cf
        have t1 : decide ((j : Int) < 17) = false := by rw [decide_eq_false_iff_not]; omega
        have t2 : decide ((17 : Int) ≤ (j : Int)) = true := by rw [decide_eq_true_eq]; omega
        have t1' : decide (j < 17) = false := by simpa using h17
        have t2' : decide (17 ≤ j) = true := by simp; omega
        clear CF CW HF1 HF2 O11
        go_wp2_with fail
        go_quiet (fail)
        go_wp2_with fail
        go_roundw
        case rel => exact ⟨j + 1, by omega, by go_num, HBR.out.trans ((drewN_below _).mono HBR.out.size)⟩
        case measure => simp [intOf]; omega
    · have h64 : j = 64 := by omega
      subst h64
      have fb : ∀ x ∈ frameB 65 258 [9], x < 256 := frameB_lt (by decide) 258 (by decide)
      have Or := Lib.hid (own_keep O11.out fun b _ hlt => HBR.out.block b hlt)
      have HBr := Lib.hid (HB11.out.trans (HBR.out.mono HB11.out.size))
      have Fr := Lib.hid (By.of_own Or.out fb (by rw [kF_len]; decide))
      have hcap : 64 ≤ c2 := own_len Or.out
      have cut15 : ∀ w, (Instr.slice 22 (.slice (some ⟨g, 0, none⟩) 64 c2) none (some (.int .i64 15)) none).run Try.prog w = .ok (.slice (some ⟨g, 0, none⟩) 15 c2) w := fun w => run_slice_to (P := Try.prog) Try.underlying22 hi0 _ 64 c2 15 (by omega) w
      have cut16 : ∀ w, (Instr.slice 22 (.slice (some ⟨g, 0, none⟩) 64 c2) none (some (.int .i64 16)) none).run Try.prog w = .ok (.slice (some ⟨g, 0, none⟩) 16 c2) w := fun w => run_slice_to (P := Try.prog) Try.underlying22 hi0 _ 64 c2 16 (by omega) w
      have S1 := Lib.hid (size_by (Fr.out.to 15) 15 (by rw [List.length_take, kF_len]; rfl))
      obtain ⟨N, hN⟩ : ∃ N : Nat, N = 64 := ⟨_, rfl⟩
      have hNz : (N : Int) = 64 := by omega
      have mk2 : ∀ w, (Instr.makeSlice 22 (.int .i64 64) (.int .i64 64)).run Try.prog w = .ok (.slice (some ⟨w.heap.size, 0, none⟩) N N) (w.alloc (.cells (zcells N) 5)) := fun w => by
        rw [← hNz]
        exact make_bytes N (by omega) w
      have C2 : ∀ W, Calls Try.prog 14 #[.slice (some ⟨W.heap.size, 0, none⟩) N N, .int .u8 0] (W.alloc (.cells (zcells N) 5)) (OpenNo 4 W) := fun W => by
        have b0 : Below W.heap.size W (W.alloc (.cells (zcells N) 5)) := (Below.refl _ _).alloc (Nat.le_refl _) _
        refine (open_no (by_zeros W N (by omega)) 0 0 rfl N (by rw [List.length_replicate]) 4 (by rw [hN]; exact k_none) (by decide)).mono ?_
        rintro e w' ⟨he, hw⟩
        exact ⟨he, b0.trans (hw.mono b0.size)⟩
      have H2 := Lib.hid C2
      have Fb := Lib.hid fb
      clear CF CW HF1 HF2 O11 HBR HB11 fb hN hNz C2
      go_wp2_with fail
      refine S1.out.mono ?_
      rintro e w20 ⟨rfl, n20, h20⟩
      have b20 : Below wr.heap.size wr w20 := by rw [h20]; exact drewN_below n20
      have O20 := Lib.hid (own_keep Or.out fun b _ hlt => b20.block b hlt)
      have HB20 := Lib.hid (HBr.out.trans (b20.mono HBr.out.size))
      have S2 := Lib.hid (size_by ((Fr.out.below b20).to 16) 16 (by rw [List.length_take, kF_len]; rfl))
      rw [k_size15]
      clear h20 b20 Or HBr Fr S1
      go_wp2_with fail
      refine S2.out.mono ?_
      rintro e w21 ⟨rfl, n21, h21⟩
      have b21 : Below w20.heap.size w20 w21 := by rw [h21]; exact drewN_below n21
      have O21 := Lib.hid (own_keep O20.out fun b _ hlt => b21.block b hlt)
      have HB21 := Lib.hid (HB20.out.trans (b21.mono HB20.out.size))
      rw [k_size16]
      clear h21 b21 O20 HB20 S2
      go_wp2_with fail
      refine (H2.out _).mono ?_
      rintro e w22 ⟨rfl, b22⟩
      have o22 := own_keep O21.out fun b _ hlt => b22.block b hlt
      have HB22 := Lib.hid (HB21.out.trans (b22.mono HB21.out.size))
      have c40 : ∃ u, w22.cell? ⟨g, 40, none⟩ = some u := ⟨_, by rw [o22.cellAt 40 (by decide)]; exact byts_at (by rw [kF_len]; decide)⟩
      obtain ⟨u40, c40⟩ := c40
      have f40 := o22.frozenAt 40
      have st := o22.stored 40 (.int .u8 1)
      rw [show (Value.int .u8 1) = .int .u8 ((1 : Nat) : Int) from rfl, byts_set] at st
      have S5 := Lib.hid (By.of_own st.1 (fun x hx => by
        rcases List.mem_or_eq_of_mem_set hx with h | h
        · exact Fb.out x h
        · omega) (by rw [List.length_set, kF_len]; decide))
      have HB23 := Lib.hid (HB22.out.setCell (p := ⟨g, 40, none⟩) hgw (.int .u8 ((1 : Nat) : Int)))
      clear o22 st b22 O21 HB21 H2
      go_wp2_with fail
      refine (open_no S5.out 65 65 rfl 64 (by rw [List.length_set, kF_len]) 5 k_tail (by decide)).mono ?_
      rintro e w24 ⟨rfl, b24⟩
      have HB24 := Lib.hid (HB23.out.trans (b24.mono HB23.out.size))
      clear b24 S5
      go_wp2_with fail
      go_ret
      exact ⟨rfl, HB24.out⟩
end Go.Proofs.Ytpicalkcgioimaa
