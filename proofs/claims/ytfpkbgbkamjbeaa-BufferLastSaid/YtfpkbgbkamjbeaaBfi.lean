/- BufferFits, walked. -/
import Derived.Test.YtfpkbgbkamjbeaaBfk
namespace Go.Proofs.Ytfpkbgbkamjbeaa
open Go.RowKit Go.Maps

/-- What is pending behind j Puts of noughts. -/
def stP (j : Nat) : Pend := fun y => if 0 ≤ y ∧ y < (j : Int) then some (some zb) else none
theorem stP_put (j : Nat) : setP (stP j) (j : Int) (some zb) = stP (j + 1) := by
  funext y
  unfold setP stP
  by_cases e : y = (j : Int)
  · rw [if_pos e, if_pos (by omega)]
  · rw [if_neg e]
    by_cases h : 0 ≤ y ∧ y < (j : Int)
    · rw [if_pos h, if_pos (by omega)]
    · rw [if_neg h, if_neg (by omega)]
theorem stP_in {j i : Nat} (h : i < j) : stP j (i : Int) = some (some zb) := by unfold stP; rw [if_pos (by omega)]
theorem stP_out {j : Nat} {y : Int} (h : y < 0 ∨ (j : Int) ≤ y) : stP j y = none := by unfold stP; rw [if_neg (by omega)]
theorem stP_again {j i : Nat} (h : i < j) : setP (stP j) (i : Int) (some zb) = stP j := by
  funext y
  unfold setP
  by_cases e : y = (i : Int)
  · rw [if_pos e, e, stP_in h]
  · rw [if_neg e]
theorem stP_zero : stP 0 = fun _ => none := by
  funext y
  exact stP_out (by omega)
theorem fit_two {s : Pend} {n k : Nat} {x : Int} (hs : s x = none) (h : n ≤ k) : fitGo s n k [x, x] (fun _ => false) 0 = decide (n < k) := by
  by_cases hk : n < k
  · simp [fitGo, hs, hk, Nat.not_lt.2 (show n + 1 ≤ k by omega)]
  · simp [fitGo, hs, hk]; omega
theorem wrap_two (x : Int) (w : World) : Sl (w.alloc (.cells #[.int .i64 x, .int .i64 x] 3)) (w.heap.size + 1) (some ⟨w.heap.size, 0, none⟩) (ints [x, x]) := .inr ⟨_, 0, rfl, by omega, fun i hi => by
  rw [Nat.zero_add, cell_fresh rfl]
  simp [ints] at hi
  rcases i with _ | _ | i
  · rfl
  · rfl
  · omega⟩

set_option maxRecDepth 10000 in
set_option maxHeartbeats 16000000 in
theorem bfits_law (most n from_ : Nat) (h1 : most < 256) (h2 : n < 256) (h3 : from_ < 256) (w : World) : Calls Try.prog 4 #[.int .u8 (most : Int), .int .u8 (n : Int), .int .u8 (from_ : Int)] w fun e w' => e = .returned (.bool true) ∧ Below w.heap.size w w' := by
  have AW := Lib.hid (bawake_any w)
  obtain ⟨Z, hZ, hmk⟩ := make_zb
  have HZ := Lib.hid hZ
  clear hZ
  obtain ⟨k, hk, hkb⟩ : ∃ k : Nat, (most : Int).tmod 40 = k ∧ k ≤ 39 := ⟨most % 40, by rw [Int.tmod_eq_emod_of_nonneg (by omega)]; omega, by omega⟩
  obtain ⟨m, hm, hmb⟩ : ∃ m : Nat, (n : Int).tmod 60 = m ∧ m ≤ 59 := ⟨n % 60, by rw [Int.tmod_eq_emod_of_nonneg (by omega)]; omega, by omega⟩
  have wm : wrap64 (most : Int) = (most : Int) := by rw [← IntWalk.i64_left, IntKind.wrap_i64]; omega
  have wn : wrap64 (n : Int) = (n : Int) := by rw [← IntWalk.i64_left, IntKind.wrap_i64]; omega
  have wf : wrap64 (from_ : Int) = (from_ : Int) := by rw [← IntWalk.i64_left, IntKind.wrap_i64]; omega
  obtain ⟨mn, hmn⟩ : ∃ mn : Nat, mn = min k m := ⟨_, rfl⟩
  have hmin : ∀ (ts : Array TypeId) (t : TypeId) (W : World), (Builtin.min_ ts t #[.int .i64 (k : Int), .int .i64 (m : Int)]).run Try.prog W = .ok (.int .i64 (mn : Int)) W := fun ts t W => by
    rw [run_min_int2, hmn]; congr 2; split <;> omega
  have HMN := Lib.hid hmn
  have hmnb : mn ≤ 39 := by omega
  have hclamp : clampN (k : Int) = k := by unfold clampN; rw [if_neg (by omega), if_neg (by omega), Int.toNat_natCast]
  have N := fun (w0 : World) (h : Below w.heap.size w w0) => sb_new (w := w) (wr := w0) (k : Int) h
  rw [hclamp] at N
  have N1 := Lib.hid N
  clear hmn hclamp N h1 h2
  go_enter Try.func4, Try.ntmps4
  go_wp2_with fail
  refine AW.out.mono ?_
  rintro e w0 ⟨rfl, hb0⟩
  have N2 := Lib.hid (N1.out w0 hb0)
  clear hb0 AW N1
  go_wp2_with fail
  refine N2.out.mono ?_
  rintro e w1 ⟨rfl, ha, hb1⟩
  obtain ⟨g, hg⟩ : ∃ g, w0.heap.size + 1 = g := ⟨_, rfl⟩
  rw [hg] at ha ⊢
  obtain ⟨W2, hW2⟩ : ∃ W2, w1.alloc (.cells Z 5) = W2 := ⟨_, rfl⟩
  obtain ⟨xb, hxb⟩ : ∃ xb, w1.heap.size = xb := ⟨_, rfl⟩
  have a2 : Below w1.heap.size w1 W2 := by rw [← hW2]; exact (Below.refl _ _).alloc (Nat.le_refl _) _
  have a3 : Blk W2 xb 5 (byts zb).toArray := by rw [← hW2, ← hxb, ← HZ.out]; exact Blk.new _ _ _
  have a4 := (ha.new a2 (Nat.le_refl _) (by rw [← hW2]; simp)).mono (K' := fun b => b = xb) (fun b hb => .inr (hb.trans hxb.symm))
  rw [← stP_zero] at a4
  have X0 := Lib.hid a3
  have S0 := Lib.hid a4
  clear a2 a3 a4 ha hb1 hg N2
  go_wp2_with fail
  go_loopw [11] (fun v wr => ∃ i : Nat, v = .int .i64 (i : Int) ∧ i ≤ m ∧ SB w wr g k (min i k) (stP (min i k)) (fun b => b = xb) ∧ Blk wr xb 5 (byts zb).toArray) (fun v _ => m - (intOf v).toNat)
  case atStart => exact ⟨0, rfl, Nat.zero_le _, by rw [Nat.zero_min]; exact S0.out, X0.out⟩
  case round =>
    obtain ⟨i, rfl, hi, hs, hx⟩ := hrel
    by_cases him : i < m
    · have z0 : decide ((i : Int) < (m : Int)) = true := by rw [decide_eq_true_eq]; omega
      have z0' : decide (i < m) = true := by rw [decide_eq_true_eq]; exact him
      obtain ⟨W3, hW3⟩ : ∃ W3, wr.alloc (.cells #[.int .i64 (i : Int), .int .i64 (i : Int)] 3) = W3 := ⟨_, rfl⟩
      obtain ⟨q3, hq3⟩ : ∃ q3, wr.heap.size = q3 := ⟨_, rfl⟩
      have b3 : Below wr.heap.size wr W3 := by rw [← hW3]; exact (Below.refl _ _).alloc (Nat.le_refl _) _
      obtain ⟨h3', f3⟩ := hs.step b3
      have hx3 := f3.blk rfl hx
      have hsl := wrap_two (i : Int) wr
      rw [hW3, hq3] at hsl
      have hlt3 : q3 + 1 ≤ W3.heap.size := by rw [← hW3, ← hq3]; simp
      by_cases hik : i < k
      · have z1 : decide ((i : Int) < (k : Int)) = true := by rw [decide_eq_true_eq]; omega
        have z1' : decide (i < k) = true := by rw [decide_eq_true_eq]; exact hik
        rw [Nat.min_eq_left (Nat.le_of_lt hik)] at h3'
        have P := sb_fits h3' (A := some ⟨q3, 0, none⟩) (cap := 2) (l := [(i : Int), (i : Int)]) (fun x hx => by simp at hx; subst hx; exact i64_small (by omega)) hsl hlt3 (by simp)
        rw [fit_two (stP_out (by omega)) (Nat.le_of_lt hik), decide_eq_true hik] at P
        have P1 := Lib.hid P
        have X3 := Lib.hid hx3
        clear P hs hx h3' f3 hx3 hsl hlt3 b3
        go_wp2_with fail
        refine P1.out.mono ?_
        rintro e w4 ⟨rfl, h4, f4⟩
        have X4 := Lib.hid (f4.blk rfl X3.out)
        have P := sb_put_yes h4 (x := (i : Int)) (i64_small (by omega)) (blk_sl X4.out 0) X4.out.lt zb_lt (cap := 128) (by rw [List.drop_zero, zb_len]; exact Nat.le_refl _) (by rw [List.drop_zero, zb_len]; omega) (fun h => by cases h) (put_new (by omega) (.inr hik) zb_len)
        rw [List.drop_zero, zb_len, stP_put, show more (stP i) i (i : Int) = i + 1 by unfold more; rw [stP_out (by omega)]; rfl] at P
        have P2 := Lib.hid P
        clear P P1 h4 f4
        go_wp2_with fail
        refine P2.out.mono ?_
        rintro e w5 ⟨rfl, h5, f5⟩
        have X5 := Lib.hid (f5.blk rfl X4.out)
        have H5 := Lib.hid h5
        clear P2 h5 f5
        go_wp2_with fail
        go_roundw
        case rel => exact ⟨i + 1, by go_num, by omega, by rw [Nat.min_eq_left (show i + 1 ≤ k by omega)]; exact H5.out, X5.out⟩
        case measure => simp [intOf]; omega
      · have z1 : decide ((i : Int) < (k : Int)) = false := by rw [decide_eq_false_iff_not]; omega
        have z1' : decide (i < k) = false := by rw [decide_eq_false_iff_not]; exact hik
        rw [Nat.min_eq_right (Nat.le_of_not_lt hik)] at h3'
        have P := sb_fits h3' (A := some ⟨q3, 0, none⟩) (cap := 2) (l := [(i : Int), (i : Int)]) (fun x hx => by simp at hx; subst hx; exact i64_small (by omega)) hsl hlt3 (by simp)
        rw [fit_two (stP_out (by omega)) (Nat.le_refl _), decide_eq_false (Nat.lt_irrefl _)] at P
        have P1 := Lib.hid P
        have X3 := Lib.hid hx3
        clear P hs hx h3' f3 hx3 hsl hlt3 b3
        go_wp2_with fail
        refine P1.out.mono ?_
        rintro e w4 ⟨rfl, h4, f4⟩
        have X4 := Lib.hid (f4.blk rfl X3.out)
        have P := sb_put_no h4 (x := (i : Int)) (i64_small (by omega)) (blk_sl X4.out 0) X4.out.lt zb_lt (cap := 128) (by rw [List.drop_zero, zb_len]; exact Nat.le_refl _) (by rw [List.drop_zero, zb_len]; omega) (fun h => by cases h) (put_not fun h => by
          rw [stP_out (by omega)] at h
          rcases h.2.2 with h | h
          · cases h
          · omega)
        rw [List.drop_zero, zb_len] at P
        have P2 := Lib.hid P
        clear P P1 h4 f4
        go_wp2_with fail
        refine P2.out.mono ?_
        rintro e w5 ⟨rfl, h5, f5⟩
        have X5 := Lib.hid (f5.blk rfl X4.out)
        have H5 := Lib.hid h5
        clear P2 h5 f5
        go_wp2_with fail
        go_roundw
        case rel => exact ⟨i + 1, by go_num, by omega, by rw [Nat.min_eq_right (show k ≤ i + 1 by omega)]; exact H5.out, X5.out⟩
        case measure => simp [intOf]; omega
    · have hiq : i = m := by omega
      have z0 : decide ((i : Int) < (m : Int)) = false := by rw [decide_eq_false_iff_not]; omega
      have z0' : decide (i < m) = false := by rw [decide_eq_false_iff_not]; exact him
      rw [hiq, Nat.min_comm, ← HMN.out] at hs
      have H1 := Lib.hid hs
      have X1 := Lib.hid hx
      clear hs hx hiq him hi
      go_wp2_with fail
      go_loopw [12] (fun v wr => ∃ i : Nat, v = .int .i64 (i : Int) ∧ i ≤ mn ∧ SB w wr g k mn (stP mn) (fun b => b = xb) ∧ Blk wr xb 5 (byts zb).toArray) (fun v _ => mn - (intOf v).toNat)
      case atStart => exact ⟨0, rfl, Nat.zero_le _, H1.out, X1.out⟩
      case round =>
        obtain ⟨j, rfl, hj, hs, hx⟩ := hrel
        by_cases hjm : j < mn
        · have y0 : decide ((j : Int) < (mn : Int)) = true := by rw [decide_eq_true_eq]; omega
          have y0' : decide (j < mn) = true := by rw [decide_eq_true_eq]; exact hjm
          have P := sb_put_yes hs (x := (j : Int)) (i64_small (by have := HMN.out; omega)) (blk_sl hx 0) hx.lt zb_lt (cap := 128) (by rw [List.drop_zero, zb_len]; exact Nat.le_refl _) (by rw [List.drop_zero, zb_len]; omega) (fun h => by cases h) (put_new (by omega) (.inl (by rw [stP_in hjm]; rfl)) zb_len)
          rw [List.drop_zero, zb_len, stP_again hjm, show more (stP mn) mn (j : Int) = mn by unfold more; rw [stP_in hjm]; rfl] at P
          have P2 := Lib.hid P
          have X2 := Lib.hid hx
          clear P hs hx
          go_wp2_with fail
          refine P2.out.mono ?_
          rintro e w5 ⟨rfl, h5, f5⟩
          have X5 := Lib.hid (f5.blk rfl X2.out)
          have H5 := Lib.hid h5
          clear P2 h5 f5
          go_wp2_with fail
          go_roundw
          case rel => exact ⟨j + 1, by go_num, by omega, H5.out, X5.out⟩
          case measure => simp [intOf]; omega
        · have y0 : decide ((j : Int) < (mn : Int)) = false := by rw [decide_eq_false_iff_not]; omega
          have y0' : decide (j < mn) = false := by rw [decide_eq_false_iff_not]; exact hjm
          have hmk1 := HMN.out
          obtain ⟨room, hroom⟩ : ∃ room, room = k - mn := ⟨_, rfl⟩
          obtain ⟨ft, hft⟩ : ∃ ft, ft = 200 + from_ := ⟨_, rfl⟩
          have y1 : IntKind.i64.wrap ((k : Int) - (mn : Int)) = (room : Int) := by rw [IntKind.wrap_i64]; omega
          have y2 : IntKind.i64.wrap (200 + (from_ : Int)) = (ft : Int) := by rw [IntKind.wrap_i64]; omega
          have y3 : IntKind.i64.wrap ((room : Int) + 1) = ((room + 1 : Nat) : Int) := by rw [IntKind.wrap_i64]; omega
          have hfr : ∀ N : Nat, trimC (stP mn) mn (ft : Int) N = mn + N := fun N => trimC_fresh _ _ _ _ fun i _ => stP_out (by omega)
          have P1 := Lib.hid (sb_trim_no hs (a := ft) (N := room + 1) (by omega) (by rw [hfr]; omega))
          have X2 := Lib.hid hx
          obtain ⟨r1, hr1⟩ : ∃ r1, r1 = room + 1 := ⟨_, rfl⟩
          rw [← hr1] at y3 P1
          have HFR := Lib.hid hfr
          have HN := Lib.hid (show mn + room = k ∧ ft + room ≤ 512 by omega)
          clear hs hx hfr hft hroom hr1 hmk1
          go_wp2_with fail
          refine P1.out.mono ?_
          rintro e w2 ⟨rfl, h2, f2⟩
          have X3 := Lib.hid (f2.blk rfl X2.out)
          have P2 := Lib.hid (sb_len h2)
          have H2 := Lib.hid h2
          have y4 : ((mn : Int) != (mn : Int)) = false := by simp
          have y5 : ((k : Int) != (k : Int)) = false := by simp
          clear P1 h2 f2
          go_wp2_with fail
          refine P2.out.mono ?_
          rintro e w3 ⟨rfl, rfl⟩
          have P3 := sb_trim_yes H2.out (a := ft) (N := room) HN.out.2 (by rw [HFR.out, HN.out.1]; exact Nat.le_refl _)
          rw [HFR.out, HN.out.1] at P3
          have P3 := Lib.hid P3
          clear P2
          go_wp2_with fail
          refine P3.out.mono ?_
          rintro e w4 ⟨rfl, h4, f4⟩
          have X4 := Lib.hid (f4.blk rfl X3.out)
          have P4 := Lib.hid (sb_len h4)
          have H4 := Lib.hid h4
          clear P3 h4 f4
          go_wp2_with fail
          refine P4.out.mono ?_
          rintro e w5 ⟨rfl, rfl⟩
          have P := sb_put_no H4.out (x := -1) (i64_small (by omega)) (blk_sl X4.out 0) X4.out.lt zb_lt (cap := 128) (by rw [List.drop_zero, zb_len]; exact Nat.le_refl _) (by rw [List.drop_zero, zb_len]; omega) (fun h => by cases h) (put_not fun h => by omega)
          rw [List.drop_zero, zb_len] at P
          have P5 := Lib.hid P
          clear P4 P
          go_wp2_with fail
          refine P5.out.mono ?_
          rintro e w6 ⟨rfl, h6, f6⟩
          have X6 := Lib.hid (f6.blk rfl X4.out)
          have P := sb_put_no h6 (x := 0) (i64_small (by omega)) (blk_sl X6.out 1) X6.out.lt (fun x hx => zb_lt x (List.mem_of_mem_drop hx)) (cap := 127) (by rw [List.length_drop, zb_len]; exact Nat.le_refl _) (by rw [List.length_drop, zb_len]; omega) (fun h => by cases h) (put_not fun h => by have := h.1; rw [List.length_drop, zb_len] at this; omega)
          rw [List.length_drop, zb_len] at P
          have P6 := Lib.hid P
          clear P5 P h6 f6
          go_wp2_with fail
          refine P6.out.mono ?_
          rintro e w7 ⟨rfl, h7, -⟩
          have P7 := Lib.hid (sb_trim_bad h7 (a := -1) (m := 1) (i64_small (by omega)) (i64_small (by omega)) (.inr (.inl (by omega))))
          clear P6 h7
          go_wp2_with fail
          refine P7.out.mono ?_
          rintro e w8 ⟨rfl, h8, -⟩
          have P8 := Lib.hid (sb_trim_bad h8 (a := 0) (m := -1) (i64_small (by omega)) (i64_small (by omega)) (.inl (by omega)))
          clear P7 h8
          go_wp2_with fail
          refine P8.out.mono ?_
          rintro e w9 ⟨rfl, h9, -⟩
          have P9 := Lib.hid (sb_trim_bad h9 (a := 510) (m := 3) (i64_small (by omega)) (i64_small (by omega)) (.inr (.inr (by omega))))
          clear P8 h9
          go_wp2_with fail
          refine P9.out.mono ?_
          rintro e w10 ⟨rfl, h10, -⟩
          have Pa := Lib.hid (sb_trim_yes h10 (a := 9) (N := 0) (by omega) (by rw [trimC]; exact Nat.le_refl _))
          clear P9 h10
          go_wp2_with fail
          refine Pa.out.mono ?_
          rintro e w11 ⟨rfl, h11, -⟩
          have B11 := Lib.hid h11.bel
          clear Pa h11
          go_wp2_with fail
          go_returns
          exact ⟨rfl, B11.out⟩
end Go.Proofs.Ytfpkbgbkamjbeaa
