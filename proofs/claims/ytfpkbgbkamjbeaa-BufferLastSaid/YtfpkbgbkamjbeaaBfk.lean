/- BufferKnown, walked. -/
import Derived.Test.YtfpkbgbkamjbeaaBfw
namespace Go.Proofs.Ytfpkbgbkamjbeaa
open Go.RowKit Go.Maps

theorem SB.news {w wr w' : World} {g k n : Nat} {s : Pend} {K : Nat → Prop} (h : SB w wr g k n s K) (hb : Below wr.heap.size wr w') : SB w w' g k n s (fun b => K b ∨ (wr.heap.size ≤ b ∧ b < w'.heap.size)) := by
  obtain ⟨X, h1, h2, h3, h4⟩ := h
  exact ⟨X, h1.below hb, h2, h3.trans (hb.mono h3.size), fun b hb' => by
    rcases hb' with hb' | hb'
    · exact ⟨Nat.lt_of_lt_of_le (h4 b hb').1 hb.size, (h4 b hb').2⟩
    · exact ⟨hb'.2, fun hx => by have := h1.lt b hx; omega⟩⟩
theorem trimC_fresh (s : Pend) (c : Nat) (a : Int) : ∀ N : Nat, (∀ i : Nat, i < N → s (a + (i : Int)) = none) → trimC s c a N = c + N
  | 0, _ => rfl
  | N + 1, h => by
    rw [trimC, trimC_fresh s c a N fun i hi => h i (by omega), h N (by omega)]
    simp; omega
theorem put_zero (x : Int) (l : List Nat) : putOk (fun _ => none) 0 0 x l = false := by simp [putOk]
theorem wrap_ints (x : Int) (w : World) : Sl (w.alloc (.cells #[.int .i64 x] 3)) (w.heap.size + 1) (some ⟨w.heap.size, 0, none⟩) (ints [x]) := .inr ⟨_, 0, rfl, by omega, fun i hi => by
  simp [ints] at hi
  subst hi
  exact cell_fresh rfl⟩

set_option maxRecDepth 10000 in
set_option maxHeartbeats 8000000 in
theorem bknown_any (w : World) : Calls Try.prog 5 #[] w fun e w' => e = .returned (.bool true) ∧ Below w.heap.size w w' := by
  have AW := Lib.hid (bawake_any w)
  obtain ⟨Z, hZ, hmk⟩ := make_zb
  have HZ := Lib.hid hZ
  clear hZ
  go_enter Try.func5, Try.ntmps5
  go_wp2_with fail
  refine AW.out.mono ?_
  rintro e w0 ⟨rfl, hb0⟩
  have N := Lib.hid (sb_new (w := w) (wr := w0) (-1) hb0)
  have H0 := Lib.hid hb0
  clear hb0 AW
  go_wp2_with fail
  refine N.out.mono ?_
  rintro e w1 ⟨rfl, ha, hb1⟩
  rw [show clampN (-1) = 0 by decide] at ha
  obtain ⟨ga, hga⟩ : ∃ ga, w0.heap.size + 1 = ga := ⟨_, rfl⟩
  rw [hga] at ha ⊢
  have M := Lib.hid (bnew_any 521 w1)
  have HA := Lib.hid ha
  have HS := Lib.hid (Nat.le_trans H0.out.size hb1.size)
  clear ha hb1 N H0
  go_wp2_with fail
  refine M.out.mono ?_
  rintro e w2 ⟨rfl, hb, hb2⟩
  rw [show clampN 521 = 512 by decide] at hb
  obtain ⟨gb, hgb⟩ : ∃ gb, w1.heap.size + 1 = gb := ⟨_, rfl⟩
  obtain ⟨s1, hs1⟩ : ∃ s1, w1.heap.size = s1 := ⟨_, rfl⟩
  rw [hgb] at hb ⊢
  have ha := HA.out.news hb2
  obtain ⟨W3, hW3⟩ : ∃ W3, w2.alloc (.cells Z 5) = W3 := ⟨_, rfl⟩
  obtain ⟨xb, hxb⟩ : ∃ xb, w2.heap.size = xb := ⟨_, rfl⟩
  have a2 : Below w2.heap.size w2 W3 := by rw [← hW3]; exact (Below.refl _ _).alloc (Nat.le_refl _) _
  have a3 : Blk W3 xb 5 (byts zb).toArray := by rw [← hW3, ← hxb, ← HZ.out]; exact Blk.new _ _ _
  have hz3 : W3.heap.size = xb + 1 := by rw [← hW3, ← hxb]; simp
  have a5 := (ha.news a2).mono (K' := fun b => s1 ≤ b ∧ b < xb + 1) (fun b hb => by
    by_cases e : b < w2.heap.size
    · exact .inl (.inr ⟨by rw [hs1]; exact hb.1, e⟩)
    · exact .inr ⟨by omega, by rw [hz3]; exact hb.2⟩)
  have XB := Lib.hid a3
  have HB := Lib.hid (hb.below a2)
  rw [hxb, hs1] at HB
  have HA := Lib.hid a5
  have S1 := Lib.hid (show w.heap.size ≤ s1 ∧ s1 ≤ xb by have := HS.out; have := hb2.size; omega)
  have P := sb_put_no a5 (x := 0) (i64_small (by omega)) (blk_sl a3 0) a3.lt zb_lt (cap := 128) (by rw [List.drop_zero, zb_len]; exact Nat.le_refl _) (by rw [List.drop_zero, zb_len]; omega) (fun h => by cases h) (put_zero 0 zb)
  rw [List.drop_zero, zb_len] at P
  have P1 := Lib.hid P
  clear P a2 a3 a5 ha hb hb2 hgb hz3 M hga HS
  go_wp2_with fail
  refine P1.out.mono ?_
  rintro e w4 ⟨rfl, h4, f4⟩
  have P2 := Lib.hid (sb_trim_no h4 (a := 0) (N := 1) (by omega) (by decide))
  have F4 := Lib.hid f4
  clear P1 h4 f4
  go_wp2_with fail
  refine P2.out.mono ?_
  rintro e w5 ⟨rfl, h5, f5⟩
  have P3 := Lib.hid (sb_trim_yes h5 (a := 0) (N := 0) (by omega) (by decide))
  have F5 := Lib.hid (F4.out.trans f5)
  clear P2 h5 f5 F4
  go_wp2_with fail
  refine P3.out.mono ?_
  rintro e w6 ⟨rfl, h6, f6⟩
  rw [show ((0 : Nat) : Int) = 0 from rfl, trimS_zero] at h6
  have P4 := Lib.hid (sb_fits h6 (A := none) (cap := 0) (B := 0) (l := []) (fun x hx => by cases hx) (Sl.nil _ _ _) (Nat.zero_le _) (by simp))
  have F6 := Lib.hid (F5.out.trans f6)
  clear P3 h6 f6 F5
  go_wp2_with fail
  refine P4.out.mono ?_
  rintro e w7 ⟨rfl, h7, f7⟩
  obtain ⟨h8, f8⟩ := h7.step ((Below.refl w7.heap.size w7).alloc (Nat.le_refl _) (.cells #[.int .i64 1] 3))
  have P5 := sb_fits h8 (A := some ⟨w7.heap.size, 0, none⟩) (cap := 1) (l := [1]) (fun x hx => by simp at hx; subst hx; exact i64_small (by omega)) (wrap_ints 1 w7) (by simp) (by simp)
  rw [show fitGo (fun _ => none) (trimC (fun _ => none) 0 0 0) 0 [1] (fun _ => false) 0 = false by decide] at P5
  have P5 := Lib.hid P5
  have F8 := Lib.hid ((F6.out.trans f7).trans f8)
  clear P4 h7 h8 f7 f8 F6
  rw [show fitGo (fun _ => none) (trimC (fun _ => none) 0 0 0) 0 [] (fun _ => false) 0 = true by decide]
  go_wp2_with fail
  refine P5.out.mono ?_
  rintro e w9 ⟨rfl, h9, f9⟩
  have F9 := Lib.hid (F8.out.trans f9)
  have hXB := F9.out.blk (g := xb) ⟨S1.out.2, by omega⟩ XB.out
  have hB := HB.out.keep F9.out.1 fun b hb => F9.out.2 b ⟨hb.1, by have := hb.2; omega⟩
  have hs : SB w w9 gb 512 0 (fun _ => none) (fun b => b = xb) := ⟨_, hB, fun b hb => Nat.le_trans S1.out.1 hb.1, h9.bel, fun b hb => by subst hb; exact ⟨hXB.lt, fun h => by have := h.2; omega⟩⟩
  have P1 := Lib.hid (sb_trim_yes hs (a := 0) (N := 512) (by omega) (by rw [trimC_fresh _ _ _ _ fun _ _ => rfl]; omega))
  have XB := Lib.hid hXB
  rw [trimC_fresh _ _ _ _ fun _ _ => rfl] at P1
  clear hs hB h9 f9 P5 F8 F9 HB HA hXB
  go_wp2_with fail
  refine P1.out.mono ?_
  rintro e w10 ⟨rfl, h10, f10⟩
  obtain ⟨S, hS⟩ : ∃ S, S = trimS (fun _ => none) ((0 : Nat) : Int) 512 := ⟨_, rfl⟩
  rw [← hS] at h10
  have XB := Lib.hid (f10.blk rfl XB.out)
  have P2 := Lib.hid (sb_len h10)
  have H10 := Lib.hid h10
  clear P1 f10 h10
  go_wp2_with fail
  refine P2.out.mono ?_
  rintro e w11 ⟨rfl, rfl⟩
  have P3 := Lib.hid (sb_trim_yes H10.out (a := 512) (N := 0) (by omega) (by rw [trimC]; omega))
  clear P2
  go_wp2_with fail
  refine P3.out.mono ?_
  rintro e w12 ⟨rfl, h12, f12⟩
  rw [trimS_zero, trimC] at h12
  have XB := Lib.hid (f12.blk rfl XB.out)
  have P4 := Lib.hid (sb_trim_bad h12 (a := 512) (m := 1) (i64_small (by omega)) (i64_small (by omega)) (.inr (.inr (by omega))))
  clear P3 f12 h12 H10
  go_wp2_with fail
  refine P4.out.mono ?_
  rintro e w13 ⟨rfl, h13, f13⟩
  have XB := Lib.hid (f13.blk rfl XB.out)
  have P5 := Lib.hid (sb_trim_bad h13 (a := 1) (m := 512) (i64_small (by omega)) (i64_small (by omega)) (.inr (.inr (by omega))))
  clear P4 f13 h13
  go_wp2_with fail
  refine P5.out.mono ?_
  rintro e w14 ⟨rfl, h14, f14⟩
  have XB := Lib.hid (f14.blk rfl XB.out)
  have s9 : S 9999 = none := by rw [hS]; rfl
  have s7 : S 7 = some none := by rw [hS]; rfl
  have s8 : S 8 = some none := by rw [hS]; rfl
  have s0 : S (-1) = none := by rw [hS]; rfl
  have P := sb_put_no h14 (x := 9999) (i64_small (by omega)) (blk_sl XB.out 0) XB.out.lt zb_lt (cap := 128) (by rw [List.drop_zero, zb_len]; exact Nat.le_refl _) (by rw [List.drop_zero, zb_len]; omega) (fun h => by cases h) (put_not fun h => by
    rw [s9] at h
    rcases h.2.2 with h | h
    · cases h
    · omega)
  rw [List.drop_zero, zb_len] at P
  have P6 := Lib.hid P
  have SS := Lib.hid (And.intro s7 (And.intro s8 s0))
  clear P5 f14 h14 P s9 s7 s8 s0 hS
  go_wp2_with fail
  refine P6.out.mono ?_
  rintro e w15 ⟨rfl, h15, f15⟩
  have XB := Lib.hid (f15.blk rfl XB.out)
  have P := sb_put_yes h15 (x := 7) (i64_small (by omega)) (blk_sl XB.out 0) XB.out.lt zb_lt (cap := 128) (by rw [List.drop_zero, zb_len]; exact Nat.le_refl _) (by rw [List.drop_zero, zb_len]; omega) (fun h => by cases h) (put_new (by omega) (.inl (by rw [SS.out.1]; rfl)) zb_len)
  rw [List.drop_zero, zb_len, show more S 512 7 = 512 by unfold more; rw [SS.out.1]; rfl] at P
  have P7 := Lib.hid P
  clear P6 f15 h15 P
  go_wp2_with fail
  refine P7.out.mono ?_
  rintro e w16 ⟨rfl, h16, -⟩
  have P8 := sb_get h16 (x := 7) (i64_small (by omega))
  rw [show setP S 7 (some zb) 7 = some (some zb) from rfl] at P8
  have P8 := Lib.hid P8
  clear P7 h16
  go_wp2_with fail
  refine P8.out.mono ?_
  rintro e w17 ⟨⟨b7, c7, rfl, -⟩, h17, -⟩
  have P9 := sb_get h17 (x := 8) (i64_small (by omega))
  rw [show setP S 7 (some zb) 8 = some none from SS.out.2.1] at P9
  have P9 := Lib.hid P9
  clear P8 h17
  go_wp2_with fail
  refine P9.out.mono ?_
  rintro e w18 ⟨⟨c8, rfl, -⟩, h18, -⟩
  have Pa := sb_get h18 (x := -1) (i64_small (by omega))
  rw [show setP S 7 (some zb) (-1) = none from SS.out.2.2] at Pa
  have Pa := Lib.hid Pa
  clear P9 h18
  go_wp2_with fail
  refine Pa.out.mono ?_
  rintro e w19 ⟨⟨c9, rfl, -⟩, h19, -⟩
  have Pb := Lib.hid (sb_len h19)
  have B19 := Lib.hid h19.bel
  clear Pa h19
  go_wp2_with fail
  refine Pb.out.mono ?_
  rintro e w20 ⟨rfl, rfl⟩
  go_wp2_with fail
  go_ret
  exact ⟨rfl, B19.out⟩
end Go.Proofs.Ytfpkbgbkamjbeaa
