/- LeafMakes returns true for all arguments; the memory that was there stays as it is. -/
import Derived.Test.YtpicalkcgioimaaLopens
namespace Go.Proofs.Ytpicalkcgioimaa
open Go.RowKit Crc

theorem fr_long (k g : Nat) (d : List Nat) : 64 ≤ (frameB k g d).length := by
  rw [fr_len]; unfold fill; omega
/-- What the first block of a frame says. -/
theorem fr_sizeV {k g : Nat} {d : List Nat} (hg : g ≤ 2147483647) (hd : d.length ≤ 4096) : ∃ X : Nat, X * 64 = (frameB k g d).length ∧ X ≤ 65 ∧ sizeV ((frameB k g d).take 64) = .tuple #[.int .i64 (X : Int), .int .i64 0] := by
  have h64 := fr_long k g d
  have hs : sizeE ((frameB k g d).take 64) = 0 := sizeE_zero (by rw [List.length_take]; omega) (by rw [badHead_congr (fun i hi => getD_take (by omega))]; exact fr_head hg hd)
  have h8 : g4 ((frameB k g d).take 64) 8 = g4 (frameB k g d) 8 := g4_congr fun i hi _ => getD_take (by omega)
  refine ⟨blk (g4 (frameB k g d) 8), fr_blk hd, ?_, ?_⟩
  · rw [fr_g8 (by omega), blk_nat hd]; omega
  · rw [sizeV_good hs, h8]

set_option maxRecDepth 4000 in
set_option maxHeartbeats 4000000 in
theorem makes_any {w : World} {A : Option Addr} {c : Nat} {d : List Nat} (hsl : Sl w w.heap.size A (byts d)) (hl : ∀ x ∈ d, x < 256) (hc : d.length ≤ c) (hA : A = none → c = 0) (k : Nat) (hk : k < 256) (z : Int) :
    Calls Try.prog 3 #[.int .u8 (k : Int), .int .i64 z, .slice A d.length c] w fun e w' => e = .returned (.bool true) ∧ Below w.heap.size w w' := by
  by_cases h5 : 4200 < d.length
  · have q1 : decide (4200 < (d.length : Int)) = true := by simp; omega
    have q2 : decide (4200 < d.length) = true := by simpa using h5
    clear hsl hl hA hc h5
    generalize d.length = n at *
    go_enter Try.func3, Try.ntmps3
    go_wp2_with fail
    refine (awake_any _).mono ?_
    rintro e w1 ⟨rfl, hb⟩
    go_wp2_with fail
    go_ret
    exact ⟨rfl, hb⟩
  have q1 : decide (4200 < (d.length : Int)) = false := by simp; omega
  have q2 : decide (4200 < d.length) = false := by simpa using h5
  have hby : By w A c d := ⟨hsl, hl, hc, hA, by omega⟩
  have HY := Lib.hid hby
  obtain ⟨n, hn⟩ : ∃ n, n = d.length := ⟨_, rfl⟩
  have HN := Lib.hid hn
  have RB1 := Lib.hid (fun w => blocks_any (d.length : Nat) (IntWalk.i64_in _ (by omega)) w)
  have RB2 := Lib.hid (fun w => rblocks_any (d.length : Nat) (IntWalk.i64_in _ (by omega)) w)
  obtain ⟨T, hT⟩ : ∃ T, T = blk (d.length : Nat) := ⟨_, rfl⟩
  rw [← hT, ← hn] at RB1 RB2
  by_cases h0 : makeE z d.length = 0
  · have hz : 0 ≤ z ∧ z ≤ 2147483647 ∧ d.length ≤ 4096 := by
      unfold makeE at h0
      by_cases h1 : z < 0 ∨ 2147483647 < z
      · rw [if_pos h1] at h0; omega
      · rw [if_neg h1] at h0
        by_cases h2 : 4096 < d.length
        · rw [if_pos h2] at h0; omega
        · omega
    obtain ⟨hz1, hz2, hd⟩ := hz
    obtain ⟨g, rfl⟩ : ∃ g : Nat, z = g := ⟨z.toNat, by omega⟩
    have hg : g ≤ 2147483647 := by omega
    obtain ⟨F, hF⟩ : ∃ F, F = frameB k g d := ⟨_, rfl⟩
    obtain ⟨m, hm⟩ : ∃ m, m = F.length := ⟨_, rfl⟩
    have hm64 : 64 ≤ m := by rw [hm, hF]; exact fr_long k g d
    have hmb : m ≤ 4160 := by rw [hm, hF]; exact frame_small hd
    obtain ⟨X, hX1, hX2, hX3⟩ := fr_sizeV (k := k) hg hd
    rw [← hF] at hX1 hX3
    rw [← hm] at hX1
    obtain ⟨k', hk', hkk⟩ : ∃ k' : Nat, ((k : Int) + 1) % 256 = k' ∧ k ≠ k' := ⟨(k + 1) % 256, by omega, by omega⟩
    have hE4 : openE F k' = 4 := by rw [hF, fr_open hg hd, if_pos hkk]
    have C1 : ∀ W, By W A c d → Calls Try.prog 10 #[.int .u8 (k : Int), .int .i64 (g : Int), .slice A n c] W fun e w' => ∃ A c, e = .returned (.tuple #[.slice A m c, .int .i64 0]) ∧ By w' A c F ∧ Below W.heap.size W w' := fun W h =>
      (make_by k hk _ rfl g _ rfl hg h hd n hn).mono fun e w' ⟨A, c, he, hb, hw, _⟩ => ⟨A, c, by rw [he, hm, hF], by rw [hF]; exact hb, hw⟩
    have C2 : ∀ W, By W A c d → Calls Try.prog 11 #[.int .u8 (k : Int), .int .i64 (g : Int), .slice A n c] W fun e w' => ∃ A c, e = .returned (.tuple #[.slice A m c, .int .i64 0]) ∧ By w' A c F ∧ Below W.heap.size W w' := fun W h =>
      (rmake_by k hk _ rfl g _ rfl hg h hd n hn).mono fun e w' ⟨A, c, he, hb, hw, _⟩ => ⟨A, c, by rw [he, hm, hF], by rw [hF]; exact hb, hw⟩
    have C3 : ∀ W A c, By W A c F → Calls Try.prog 14 #[.slice A m c, .int .u8 (k : Int)] W (OpenOk g d W) := fun W A c h => open_frame hg hd (by rw [← hF]; exact h) _ rfl m (by rw [hm, hF])
    have C4 : ∀ W A c, By W A c F → Calls Try.prog 15 #[.slice A 64 c] W fun e w' => e = .returned (.tuple #[.int .i64 (X : Int), .int .i64 0]) ∧ ∃ n, w' = W.drewN n := fun W A c h => by
      refine (size_by (h.to 64) 64 (by rw [List.length_take]; omega)).mono ?_
      rintro e w' ⟨he, hw⟩
      exact ⟨by rw [he, hX3], hw⟩
    have C5 : ∀ W A c, By W A c F → Calls Try.prog 14 #[.slice A m c, .int .u8 (((k : Int) + 1) % 256)] W (OpenNo 4 W) := fun W A c h => open_no h k' _ hk' m hm 4 hE4 (by decide)
    have H1 := Lib.hid C1
    have H2 := Lib.hid C2
    have H3 := Lib.hid C3
    have H4 := Lib.hid C4
    have H5 := Lib.hid C5
    obtain ⟨i0, hi0, hz0, hs0, hb0⟩ := byte_parts (P := Try.prog) (e := 5) (by kernel_rfl)
    have cut : ∀ (A : Option Addr) (c : Nat), m ≤ c → ∀ w, (Instr.slice 22 (.slice A m c) none (some (.int .i64 64)) none).run Try.prog w = .ok (.slice A 64 c) w := fun A c h w => run_slice_to (P := Try.prog) Try.underlying22 hi0 A m c 64 (by omega) w
    have Hcut := Lib.hid cut
    have Hm := Lib.hid hm
    have hXm : (X : Int) * 64 = (m : Int) := by omega
    rw [← hn]
    rw [← hn] at q1 q2
    clear C1 C2 C3 C4 C5 hX1 hX3 hE4 hF hm h0 hz1 hz2 hT hsl hl hA hc h5 hby hn hk' hkk hk cut
    go_enter Try.func3, Try.ntmps3
    go_wp2_with fail
    refine (awake_any _).mono ?_
    rintro e w1 ⟨rfl, hb⟩
    have HB := Lib.hid hb
    have HY1 := Lib.hid (HY.out.below hb)
    clear hb HY
    go_wp2_with fail
    refine (H1.out _ HY1.out).mono ?_
    rintro e w2 ⟨A2, c2, rfl, f2, b2⟩
    have HB2 := Lib.hid (HB.out.trans (b2.mono HB.out.size))
    have HY2 := Lib.hid (HY1.out.below b2)
    have F2 := Lib.hid f2
    clear HB HY1 f2 b2 H1
    go_wp2_with fail
    refine (H2.out _ HY2.out).mono ?_
    rintro e w3 ⟨A3, c3, rfl, f3, b3⟩
    have HB3 := Lib.hid (HB2.out.trans (b3.mono HB2.out.size))
    have HY3 := Lib.hid (HY2.out.below b3)
    have F23 := Lib.hid (F2.out.below b3)
    have k1 := conv_b (cap := c2) (F23.out).sl
    have k2 := conv_b (cap := c3) f3.sl
    rw [← Hm.out] at k1 k2
    clear HB2 HY2 F2 f3 b3 H2
    generalize bstr F = s at *
    go_wp2_with fail
    refine (RB1.out _).mono ?_
    rintro e w4 ⟨rfl, rfl⟩
    go_wp2_with fail
    refine (RB2.out _).mono ?_
    rintro e w5 ⟨rfl, rfl⟩
    clear k1 k2
    go_wp2_with fail
    refine (H3.out _ _ _ F23.out).mono ?_
    rintro e w6 ⟨A6, c6, rfl, d6, b6⟩
    have HB6 := Lib.hid (HB3.out.trans (b6.mono HB3.out.size))
    have HY6 := Lib.hid (HY3.out.below b6)
    have F6 := Lib.hid (F23.out.below b6)
    have D6 := Lib.hid d6
    have cut6 := Hcut.out A2 c2 (by rw [Hm.out]; exact F6.out.cap)
    rw [← HN.out]
    clear HB3 HY3 F23 d6 b6 H3 Hcut
    go_wp2_with fail
    refine (H4.out _ _ _ F6.out).mono ?_
    rintro e w7 ⟨rfl, n7, hw7⟩
    have b7 : Below w6.heap.size w6 w7 := by rw [hw7]; exact drewN_below n7
    have HB7 := Lib.hid (HB6.out.trans (b7.mono HB6.out.size))
    have HY7 := Lib.hid (HY6.out.below b7)
    have F7 := Lib.hid (F6.out.below b7)
    have D7 := Lib.hid (D6.out.below b7)
    clear hw7 b7 HB6 HY6 F6 D6 H4 cut6
    go_wp2_with fail
    refine (H5.out _ _ _ F7.out).mono ?_
    rintro e w8 ⟨rfl, b8⟩
    have HB8 := Lib.hid (HB7.out.trans (b8.mono HB7.out.size))
    have k3 := conv_b (cap := c6) (D7.out.below b8).sl
    have k4 := conv_b (cap := c) (HY7.out.below b8).sl
    rw [← HN.out] at k3 k4
    clear b8 HB7 HY7 F7 D7 H5
    generalize bstr d = t at *
    go_wp2_with fail
    go_ret
    exact ⟨rfl, HB8.out⟩
  · have C1 : ∀ W, By W A c d → Calls Try.prog 10 #[.int .u8 (k : Int), .int .i64 z, .slice A n c] W (MakeNo (makeE z d.length) W) := fun W h => make_no k hk _ rfl z h n hn _ rfl h0
    have C2 : ∀ W, By W A c d → Calls Try.prog 11 #[.int .u8 (k : Int), .int .i64 z, .slice A n c] W (MakeNo (makeE z d.length) W) := fun W h => rmake_no k hk _ rfl z h n hn _ rfl h0
    have p1 : (((makeE z d.length : Nat) : Int) != 0) = true := by simp; omega
    have p2 : ((makeE z d.length) != 0) = true := by simp; omega
    have H1 := Lib.hid C1
    have H2 := Lib.hid C2
    rw [← hn]
    rw [← hn] at q1 q2
    clear C1 C2 hT hsl hl hA hc h5 hby h0
    generalize makeE z d.length = E at *
    clear hn hk
    go_enter Try.func3, Try.ntmps3
    go_wp2_with fail
    refine (awake_any _).mono ?_
    rintro e w1 ⟨rfl, hb⟩
    have HB := Lib.hid hb
    have HY1 := Lib.hid (HY.out.below hb)
    clear hb HY
    go_wp2_with fail
    refine (H1.out _ HY1.out).mono ?_
    rintro e w2 ⟨rfl, b2⟩
    have HB2 := Lib.hid (HB.out.trans (b2.mono HB.out.size))
    have HY2 := Lib.hid (HY1.out.below b2)
    clear HB HY1 b2 H1
    go_wp2_with fail
    refine (H2.out _ HY2.out).mono ?_
    rintro e w3 ⟨rfl, b3⟩
    have HB3 := Lib.hid (HB2.out.trans (b3.mono HB2.out.size))
    have k1 : (convert 22 9 (.slice none 0 0)).run Try.prog w3 = .ok (.string (bstr [])) w3 := conv_b (cap := 0) (l := []) (Sl.nil w3 0 none)
    generalize bstr [] = s at *
    clear HB2 HY2 b3 H2
    go_wp2_with fail
    refine (RB1.out _).mono ?_
    rintro e w4 ⟨rfl, rfl⟩
    go_wp2_with fail
    refine (RB2.out _).mono ?_
    rintro e w5 ⟨rfl, rfl⟩
    go_wp2_with fail
    go_ret
    exact ⟨rfl, HB3.out⟩
end Go.Proofs.Ytpicalkcgioimaa
