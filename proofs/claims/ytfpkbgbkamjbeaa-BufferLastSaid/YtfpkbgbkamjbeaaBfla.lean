/- BufferLast, walked. -/
import Derived.Test.YtfpkbgbkamjbeaaBfj
namespace Go.Proofs.Ytfpkbgbkamjbeaa
open Go.RowKit Go.Maps

def u16s (l : List Nat) : List Value := l.map fun (n : Nat) => Value.int .u16 (n : Int)
theorem and31 {d : Nat} (h : d < 65536) : bits BinOp.and IntKind.u16 (d : Int) 31 = ((d % 32 : Nat) : Int) := by
  rw [show (31 : Int) = ((31 : Nat) : Int) from rfl, u16_and_nat _ _ h (by decide), show (31 : Nat) = 2 ^ 5 - 1 from rfl, Nat.and_two_pow_sub_one_eq_mod]
theorem and1 {d : Nat} (h : d < 65536) : bits BinOp.and IntKind.u16 ((d : Int) / 32) 1 = ((d / 32 % 2 : Nat) : Int) := by
  rw [show (d : Int) / 32 = ((d / 32 : Nat) : Int) by omega, show (1 : Int) = ((1 : Nat) : Int) from rfl, u16_and_nat _ _ (by omega) (by decide), show (1 : Nat) = 2 ^ 1 - 1 from rfl, Nat.and_two_pow_sub_one_eq_mod]
theorem trim_one (s : Pend) (n : Nat) (a : Int) : trimS s a 1 = setP s a none ∧ trimC s n a 1 = more s n a := by
  have h1 := trimS_step s a 0
  have h2 := trimC_step s n a 0
  rw [trimS_zero] at h1 h2
  rw [show a + ((0 : Nat) : Int) = a by omega] at h1 h2
  exact ⟨h1.symm, h2.symm⟩

theorem sb_clear {w wr : World} {g k n : Nat} {s : Pend} {K : Nat → Prop} (h : SB w wr g k n s K) : Calls Try.prog 12 #[.pointer (some ⟨g, 0, none⟩)] wr fun e w' => e = .returned (.tuple #[]) ∧ SB w w' g k 0 (fun _ => none) K := by
  obtain ⟨X, h1, h2, h3, h4⟩ := h
  refine (bclear_any h1).mono ?_
  rintro e w' ⟨rfl, r1, r2, r3, -⟩
  exact ⟨rfl, X, r1, h2, Chg.bel r2 h3 h2, fun b hb => ⟨by rw [r3]; exact (h4 b hb).1, (h4 b hb).2⟩⟩
theorem sb_list {w wr : World} {g k : Nat} {s : Pend} {K : Nat → Prop} (h : SB w wr g k 0 s K) : Calls Try.prog 13 #[.pointer (some ⟨g, 0, none⟩)] wr fun e w' => e = .returned (.slice none 0 0) ∧ Below w.heap.size w w' := by
  have h0 := h
  obtain ⟨X, h1, _⟩ := h
  refine (blist_none h1 rfl).mono ?_
  rintro e w' ⟨rfl, hb⟩
  exact ⟨rfl, (h0.step hb).1.bel⟩

set_option maxRecDepth 10000 in
set_option maxHeartbeats 16000000 in
theorem blast_any {w : World} {A : Option Addr} {cap : Nat} {l : List Nat} (hl : ∀ x ∈ l, x < 65536) (hs : Sl w w.heap.size A (u16s l)) : Calls Try.prog 3 #[.slice A l.length cap] w fun e w' => e = .returned (.bool true) ∧ Below w.heap.size w w' := by
  have AW := Lib.hid (bawake_any w)
  obtain ⟨Z, hZ, hmk⟩ := make_zb
  have HZ := Lib.hid hZ
  have HS := Lib.hid hs
  have HL := Lib.hid hl
  obtain ⟨q, hq⟩ : ∃ q, q = l.length := ⟨_, rfl⟩
  have HQ := Lib.hid hq
  rw [← hq]
  clear hZ hs hl hq
  by_cases hbig : 100 < q
  · have z0 : decide (100 < (q : Int)) = true := by rw [decide_eq_true_eq]; omega
    have z0' : decide (100 < q) = true := by rw [decide_eq_true_eq]; exact hbig
    go_enter Try.func3, Try.ntmps3
    go_wp2_with fail
    refine AW.out.mono ?_
    rintro e w0 ⟨rfl, hb0⟩
    have B0 := Lib.hid hb0
    clear hb0
    go_wp2_with fail
    go_ret
    exact ⟨rfl, B0.out⟩
  · have z0 : decide (100 < (q : Int)) = false := by rw [decide_eq_false_iff_not]; omega
    have z0' : decide (100 < q) = false := by rw [decide_eq_false_iff_not]; exact hbig
    have hqb : q ≤ 100 := by omega
    go_enter Try.func3, Try.ntmps3
    go_wp2_with fail
    refine AW.out.mono ?_
    rintro e w0 ⟨rfl, hb0⟩
    have N := Lib.hid (sb_new (w := w) (wr := w0) 64 hb0)
    clear hb0 AW
    go_wp2_with fail
    refine N.out.mono ?_
    rintro e w1 ⟨rfl, ha, -⟩
    rw [show clampN 64 = 64 by decide, ← stL_zero l] at ha
    obtain ⟨g, hg⟩ : ∃ g, w0.heap.size + 1 = g := ⟨_, rfl⟩
    rw [hg] at ha ⊢
    have HA := Lib.hid ha
    clear ha N hg
    go_wp2_with fail
    obtain ⟨la, hla⟩ : ∃ la, w1.heap.size = la := ⟨_, rfl⟩
    have HLA := Lib.hid hla
    rw [hla]
    have HWL := Lib.hid (show w.heap.size ≤ la by rw [← hla]; exact HA.out.bel.size)
    go_loopw [5, 6] (fun v5 v6 wr => ∃ i : Nat, v5 = .int .i64 (manyF l i : Int) ∧ v6 = .int .i64 (i : Int) ∧ i ≤ q ∧ SB w wr g 64 (manyF l i) (stL l i) (fun b => b = la) ∧ Blk wr la 26 (lastC l i)) (fun _ v6 _ => q - (RowKit.intOf v6).toNat)
    case atStart =>
      refine ⟨0, ?_, rfl, Nat.zero_le _, ?_, ?_⟩
      · have : manyF l 0 = 0 := by unfold manyF; rw [List.countP_eq_zero]; intro s _; simp [lastF]
        rw [this]; rfl
      · have : manyF l 0 = 0 := by unfold manyF; rw [List.countP_eq_zero]; intro s _; simp [lastF]
        rw [this]
        exact (HA.out.new ((Below.refl _ _).alloc (Nat.le_refl _) _) (Nat.le_of_eq HLA.out) (by rw [← HLA.out]; simp)).mono (fun b hb => .inr hb)
      · rw [lastC_zero, ← HLA.out]
        exact Blk.new _ _ _
    case round =>
      obtain ⟨i, rfl, rfl, hi, hs, hc⟩ := hrel
      by_cases hiq : i < q
      · have y0 : decide ((i : Int) < (q : Int)) = true := by rw [decide_eq_true_eq]; omega
        have y0' : decide (i < q) = true := by rw [decide_eq_true_eq]; exact hiq
        obtain ⟨x, hx⟩ : ∃ x, x = l.getD i 0 := ⟨_, rfl⟩
        have hil : i < l.length := by rw [← HQ.out]; exact hiq
        have hxx : l[i] = x := by rw [hx, List.getD_eq_getElem?_getD, List.getElem?_eq_getElem hil]; rfl
        have hxb : x < 65536 := by rw [← hxx]; exact HL.out _ (List.getElem_mem _)
        obtain ⟨bx, ox, rfl, hcell⟩ : ∃ b o, A = some ⟨b, o, none⟩ ∧ wr.cell? ⟨b, o + i, none⟩ = some (.int .u16 (x : Int)) := by
          rcases HS.out.below hs.bel with h0 | ⟨b, o, e, _, h1⟩
          · have h2 : (u16s l).length = l.length := List.length_map ..
            rw [h0, List.length_nil] at h2
            omega
          · exact ⟨b, o, e, by rw [h1 i (by rw [u16s, List.length_map]; exact hil)]; simp [u16s, hxx]⟩
        obtain ⟨s, hsx⟩ : ∃ s, s = x % 32 := ⟨_, rfl⟩
        have hs32 : s < 32 := by rw [hsx]; exact Nat.mod_lt _ (by decide)
        have e1 : bits BinOp.and IntKind.u16 (x : Int) 31 = (s : Int) := by rw [and31 hxb, hsx]
        have e2 : wrap64 (s : Int) = (s : Int) := by rw [← IntWalk.i64_left, IntKind.wrap_i64]; omega
        have c0 : wr.cell? ⟨la, s, none⟩ = some (.int .i64 (lastF l i s)) := by rw [hc.cell s, lastC_get l i s hs32]
        have f0 := hc.frozen s
        have HX := Lib.hid hx
        have HSX := Lib.hid hsx
        have HSB := Lib.hid hs
        have HC := Lib.hid hc
        have hms := manyF_step l i
        have hmr := more_step l i
        rw [← hx, ← hsx] at hms hmr
        generalize hLL : lastF l i s = L at c0 hms
        have HMS := Lib.hid hms
        have HMR := Lib.hid hmr
        have hmb := manyF_le l i
        generalize hmm : manyF l i = mi at *
        clear hsx hx hs hc hms hmr hxx hil hLL
        have hmore : manyF l (i + 1) = if L = 0 then mi + 1 else mi := HMS.out
        have HMO := Lib.hid hmore
        have htr := and1 hxb
        by_cases htt : x / 32 % 2 = 1
        · rw [htt, show ((1 : Nat) : Int) = 1 from rfl] at htr
          have hlast : lastF l (i + 1) s = -1 := by rw [lastF, ← HX.out, ← HSX.out, if_pos rfl, if_pos htt]
          have hst := stL_step l i none (by rw [← HX.out, ← HSX.out, hlast]; rfl)
          rw [← HX.out, ← HSX.out] at hst
          have hset := lastC_set l i (-1) (by rw [← HX.out, ← HSX.out]; exact hlast)
          rw [← HX.out, ← HSX.out] at hset
          have P := sb_trim_yes HSB.out (a := s) (N := 1) (by omega) (by rw [(trim_one _ _ _).2, HMR.out]; exact Nat.le_trans (manyF_le l (i + 1)) (by decide))
          rw [(trim_one _ _ _).2, HMR.out, (trim_one _ 0 _).1, hst] at P
          have P1 := Lib.hid P
          have HST := Lib.hid hset
          clear htt hlast hst hset hmore P
          by_cases hL : L = 0
          · have e4 : (L == 0) = true := by simp [hL]
            rw [if_pos hL] at HMO
            clear hL
            go_wp2_with fail
            refine P1.out.mono ?_
            rintro e w4 ⟨rfl, h4, f4⟩
            have hB4 := f4.blk (g := la) rfl HC.out
            have d0 : w4.cell? ⟨la, s, none⟩ = some (.int .i64 (lastF l i s)) := by rw [hB4.cell s, lastC_get l i s hs32]
            have g0 := hB4.frozen s
            have HB4 := Lib.hid hB4
            have H4 := Lib.hid h4
            clear hB4 h4 f4
            go_wp2_with fail
            go_roundw
            case rel => exact ⟨i + 1, by rw [HMO.out]; go_num, by go_num, by omega, H4.out.own rfl HWL.out _ _, by rw [← HST.out]; exact HB4.out.set_ s _⟩
            case measure => simp [RowKit.intOf]; omega
          · have e4 : (L == 0) = false := by simp [hL]
            rw [if_neg hL] at HMO
            clear hL
            go_wp2_with fail
            refine P1.out.mono ?_
            rintro e w4 ⟨rfl, h4, f4⟩
            have hB4 := f4.blk (g := la) rfl HC.out
            have d0 : w4.cell? ⟨la, s, none⟩ = some (.int .i64 (lastF l i s)) := by rw [hB4.cell s, lastC_get l i s hs32]
            have g0 := hB4.frozen s
            have HB4 := Lib.hid hB4
            have H4 := Lib.hid h4
            clear hB4 h4 f4
            go_wp2_with fail
            go_roundw
            case rel => exact ⟨i + 1, by rw [HMO.out], by go_num, by omega, H4.out.own rfl HWL.out _ _, by rw [← HST.out]; exact HB4.out.set_ s _⟩
            case measure => simp [RowKit.intOf]; omega
        · rw [show x / 32 % 2 = 0 by omega, show ((0 : Nat) : Int) = 0 from rfl] at htr
          have hne : ¬ x / 32 % 2 = 1 := htt
          have hlast : lastF l (i + 1) s = (i : Int) + 1 := by rw [lastF, ← HX.out, ← HSX.out, if_pos rfl, if_neg hne]
          have hst := stL_step l i (some (nb i)) (by rw [← HX.out, ← HSX.out, hlast, lastP, if_neg (by omega), if_neg (by omega), show ((i : Int) + 1 - 1).toNat = i by omega])
          rw [← HX.out, ← HSX.out] at hst
          have hset := lastC_set l i ((i : Int) + 1) (by rw [← HX.out, ← HSX.out]; exact hlast)
          rw [← HX.out, ← HSX.out] at hset
          obtain ⟨W3, hW3⟩ : ∃ W3, wr.alloc (.cells Z 5) = W3 := ⟨_, rfl⟩
          obtain ⟨xb, hxb'⟩ : ∃ xb, wr.heap.size = xb := ⟨_, rfl⟩
          have a2 : Below wr.heap.size wr W3 := by rw [← hW3]; exact (Below.refl _ _).alloc (Nat.le_refl _) _
          have a3 : Blk W3 xb 5 (byts zb).toArray := by rw [← hW3, ← hxb', ← HZ.out]; exact Blk.new _ _ _
          have a4 := HSB.out.new a2 (Nat.le_refl _) (by rw [← hW3]; simp)
          rw [hxb'] at a4
          have d5 : W3.cell? ⟨xb, 5, none⟩ = some (.int .u8 0) := by rw [a3.cell 5]; rfl
          have f5 := a3.frozen 5
          have hwx : w.heap.size ≤ xb := by rw [← hxb']; exact HSB.out.bel.size
          obtain ⟨W4, hW4⟩ : ∃ W4, W3.setCell ⟨xb, 5, none⟩ (.int .u8 (i : Int)) = W4 := ⟨_, rfl⟩
          have b3 : Blk W4 xb 5 (byts (nb i)).toArray := by
            rw [← hW4]
            have := a3.set_ 5 (.int .u8 (i : Int))
            rw [List.setIfInBounds_toArray] at this
            unfold nb byts
            rw [List.map_set]
            exact this
          have b4 : SB w W4 g 64 mi (stL l i) (fun b => b = la ∨ b = xb) := by rw [← hW4]; exact a4.own (.inr rfl) hwx _ _
          have hla2 : la < wr.heap.size := HC.out.lt
          have c4 : Blk W4 la 26 (lastC l i) := by
            rw [← hW4]
            exact (HC.out.keep (a2.block la hla2)).far (by show xb ≠ la; omega) _
          have P := sb_put_yes b4 (x := (s : Int)) (i64_small (by omega)) (blk_sl b3 0) b3.lt (fun y hy => nb_lt (i := i) (by omega) y (List.mem_of_mem_drop hy)) (cap := 128) (by rw [List.drop_zero, nb_len]; exact Nat.le_refl _) (by rw [List.drop_zero, nb_len]; omega) (fun h => by cases h) (put_new (by omega) (.inr (by omega)) (by rw [List.drop_zero, nb_len]))
          rw [List.drop_zero, nb_len, HMR.out, hst] at P
          have P1 := Lib.hid P
          have HST := Lib.hid hset
          have HCC := Lib.hid c4
          have e8 : IntKind.u8.wrap (i : Int) = (i : Int) := by rw [IntKind.wrap_u8']; omega
          clear htt hne hlast hst hset hmore P a2 a3 a4 b3 b4 c4 hwx hla2
          by_cases hL : L = 0
          · have e4 : (L == 0) = true := by simp [hL]
            rw [if_pos hL] at HMO
            clear hL
            go_wp2_with fail
            refine P1.out.mono ?_
            rintro e w4 ⟨rfl, h4, f4⟩
            have hB4 := f4.blk (g := la) (.inl rfl) HCC.out
            have d0 : w4.cell? ⟨la, s, none⟩ = some (.int .i64 (lastF l i s)) := by rw [hB4.cell s, lastC_get l i s hs32]
            have g0 := hB4.frozen s
            have HB4 := Lib.hid hB4
            have H4 := Lib.hid (h4.mono (K' := fun b => b = la) fun b hb => .inl hb)
            clear hB4 h4 f4
            go_wp2_with fail
            go_roundw
            case rel => exact ⟨i + 1, by rw [HMO.out]; go_num, by go_num, by omega, H4.out.own rfl HWL.out _ _, by rw [← HST.out]; exact HB4.out.set_ s _⟩
            case measure => simp [RowKit.intOf]; omega
          · have e4 : (L == 0) = false := by simp [hL]
            rw [if_neg hL] at HMO
            clear hL
            go_wp2_with fail
            refine P1.out.mono ?_
            rintro e w4 ⟨rfl, h4, f4⟩
            have hB4 := f4.blk (g := la) (.inl rfl) HCC.out
            have d0 : w4.cell? ⟨la, s, none⟩ = some (.int .i64 (lastF l i s)) := by rw [hB4.cell s, lastC_get l i s hs32]
            have g0 := hB4.frozen s
            have HB4 := Lib.hid hB4
            have H4 := Lib.hid (h4.mono (K' := fun b => b = la) fun b hb => .inl hb)
            clear hB4 h4 f4
            go_wp2_with fail
            go_roundw
            case rel => exact ⟨i + 1, by rw [HMO.out], by go_num, by omega, H4.out.own rfl HWL.out _ _, by rw [← HST.out]; exact HB4.out.set_ s _⟩
            case measure => simp [RowKit.intOf]; omega
      · have hiq2 : i = q := by omega
        have y0 : decide ((i : Int) < (q : Int)) = false := by rw [decide_eq_false_iff_not]; omega
        have y0' : decide (i < q) = false := by rw [decide_eq_false_iff_not]; exact hiq
        subst hiq2
        have P1 := Lib.hid (sb_len hs)
        have HSB := Lib.hid hs
        have HC := Lib.hid hc
        have hmb := manyF_le l i
        generalize hmm : manyF l i = mi at *
        have e3 : ((mi : Int) != (mi : Int)) = false := by simp
        clear hs hc hi hiq
        go_wp2_with fail
        refine P1.out.mono ?_
        rintro e w2 ⟨rfl, rfl⟩
        clear P1
        go_wp2_with fail
        go_loopw [9] (fun v wr => ∃ s : Nat, v = .int .i64 (s : Int) ∧ s ≤ 32 ∧ SB w wr g 64 mi (stL l i) (fun b => b = la) ∧ Blk wr la 26 (lastC l i)) (fun v _ => 32 - (RowKit.intOf v).toNat)
        case atStart => exact ⟨0, rfl, Nat.zero_le _, HSB.out, HC.out⟩
        case round =>
          obtain ⟨s, rfl, hs32, hs, hc⟩ := hrel
          by_cases hlt : s < 32
          · have y1 : decide ((s : Int) < 32) = true := by rw [decide_eq_true_eq]; omega
            have y1' : decide (s < 32) = true := by rw [decide_eq_true_eq]; exact hlt
            have P := sb_get hs (x := (s : Int)) (i64_small (by omega))
            rw [stL_at l i s hlt] at P
            have c0 : (lastC l i)[s]? = some (.int .i64 (lastF l i s)) := lastC_get l i s hlt
            have hr := lastF_range l i s
            generalize lastF l i s = L at P c0 hr
            have HC := Lib.hid hc
            have CS := Lib.hid c0
            clear hs hc c0
            rcases hr with hL | hL | ⟨j, hj, hL⟩
            · subst hL
              rw [show lastP 0 = none from rfl] at P
              have P1 := Lib.hid P
              clear P
              go_wp2_with fail
              refine P1.out.mono ?_
              rintro e w4 ⟨⟨c4, rfl, -⟩, h4, f4⟩
              have hB4 := f4.blk (g := la) rfl HC.out
              have d0 : w4.cell? ⟨la, s, none⟩ = some (.int .i64 0) := by rw [hB4.cell s]; exact CS.out
              have HB4 := Lib.hid hB4
              have H4 := Lib.hid h4
              clear hB4 h4 f4
              go_wp2_with fail
              go_region
              go_wp2_with fail
              go_roundw
              case rel => exact ⟨s + 1, by go_num, by omega, H4.out.drew, HB4.out.keep rfl⟩
              case measure => simp [RowKit.intOf]; omega
            · subst hL
              rw [show lastP (-1) = some none from rfl] at P
              have P1 := Lib.hid P
              clear P
              go_wp2_with fail
              refine P1.out.mono ?_
              rintro e w4 ⟨⟨c4, rfl, -⟩, h4, f4⟩
              have hB4 := f4.blk (g := la) rfl HC.out
              have d0 : w4.cell? ⟨la, s, none⟩ = some (.int .i64 (-1)) := by rw [hB4.cell s]; exact CS.out
              have HB4 := Lib.hid hB4
              have H4 := Lib.hid h4
              clear hB4 h4 f4
              go_wp2_with fail
              go_region
              go_wp2_with fail
              go_roundw
              case rel => exact ⟨s + 1, by go_num, by omega, H4.out.drew, HB4.out.keep rfl⟩
              case measure => simp [RowKit.intOf]; omega
            · rw [show lastP L = some (some (nb j)) by rw [hL, lastP, if_neg (by omega), if_neg (by omega), show ((j : Int) + 1 - 1).toNat = j by omega]] at P
              have P1 := Lib.hid P
              have k1 : (L != 0) = true := by simp; omega
              have k2 : decide (L ≤ 0) = false := by rw [decide_eq_false_iff_not]; omega
              have k3 : decide (0 < L) = true := by rw [decide_eq_true_eq]; omega
              have k4 : IntKind.i64.wrap (L - 1) = (j : Int) := by rw [IntKind.wrap_i64]; omega
              have k5 : IntKind.u8.wrap (j : Int) = (j : Int) := by rw [IntKind.wrap_u8']; omega
              have k6 : ((j : Int) != (j : Int)) = false := by simp
              clear P hL
              go_wp2_with fail
              refine P1.out.mono ?_
              rintro e w4 ⟨⟨b4, c4, rfl, -, -, hcell, -⟩, h4, f4⟩
              have hB4 := f4.blk (g := la) rfl HC.out
              have d0 : w4.cell? ⟨la, s, none⟩ = some (.int .i64 L) := by rw [hB4.cell s]; exact CS.out
              have d5 : w4.cell? ⟨b4, 5, none⟩ = some (.int .u8 (j : Int)) := hcell 5 _ (nb_five j)
              have HB4 := Lib.hid hB4
              have H4 := Lib.hid h4
              clear hB4 h4 f4 hcell
              go_wp2_with fail
              go_region
              go_wp2_with fail
              go_roundw
              case rel => exact ⟨s + 1, by go_num, by omega, H4.out.drew, HB4.out.keep rfl⟩
              case measure => simp [RowKit.intOf]; omega
          · have y1 : decide ((s : Int) < 32) = false := by rw [decide_eq_false_iff_not]; omega
            have y1' : decide (s < 32) = false := by rw [decide_eq_false_iff_not]; exact hlt
            have P1 := Lib.hid (sb_clear hs)
            clear hs hc
            go_wp2_with fail
            refine P1.out.mono ?_
            rintro e w4 ⟨rfl, h4⟩
            have P2 := Lib.hid (sb_len h4)
            have P3 := Lib.hid (sb_list h4)
            clear P1 h4
            go_wp2_with fail
            refine P2.out.mono ?_
            rintro e w5 ⟨rfl, rfl⟩
            clear P2
            go_wp2_with fail
            refine P3.out.mono ?_
            rintro e w6 ⟨rfl, hb6⟩
            have B6 := Lib.hid hb6
            clear P3 hb6
            go_wp2_with fail
            go_returns
            exact ⟨rfl, B6.out⟩
end Go.Proofs.Ytfpkbgbkamjbeaa
