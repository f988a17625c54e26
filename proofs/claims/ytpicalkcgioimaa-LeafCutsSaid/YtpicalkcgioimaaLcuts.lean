/- LeafCuts returns true for all arguments; the memory that was there stays as it is. -/
import Derived.Test.YtpicalkcgioimaaLmakes
namespace Go.Proofs.Ytpicalkcgioimaa
open Go.RowKit Crc

theorem xor1_ne {k : Nat} (hk : k < 256) : k ^^^ 1 < 256 ∧ k ≠ k ^^^ 1 := by
  refine ⟨Nat.xor_lt_two_pow (n := 8) hk (by decide), fun h => ?_⟩
  have : k ^^^ (k ^^^ 1) = 0 := by rw [← h, Nat.xor_self]
  rw [← Nat.xor_assoc, Nat.xor_self, Nat.zero_xor] at this
  omega

set_option maxRecDepth 4000 in
set_option maxHeartbeats 4000000 in
theorem cuts_any {w : World} {A : Option Addr} {c : Nat} {d : List Nat} (hsl : Sl w w.heap.size A (byts d)) (hl : ∀ x ∈ d, x < 256) (hc : d.length ≤ c) (hA : A = none → c = 0) (k : Nat) (hk : k < 256) (u : Nat) (hu : u < 65536) :
    Calls Try.prog 7 #[.int .u8 (k : Int), .slice A d.length c, .int .u16 (u : Int)] w fun e w' => e = .returned (.bool true) ∧ Below w.heap.size w w' := by
  by_cases h5 : 2000 < d.length
  · have q1 : decide (2000 < (d.length : Int)) = true := by simp; omega
    have q2 : decide (2000 < d.length) = true := by simpa using h5
    clear hsl hl hA hc h5
    generalize d.length = n at *
    go_enter Try.func7, Try.ntmps7
    go_wp2_with fail
    refine (awake_any _).mono ?_
    rintro e w1 ⟨rfl, hb⟩
    go_wp2_with fail
    go_ret
    exact ⟨rfl, hb⟩
  have q1 : decide (2000 < (d.length : Int)) = false := by simp; omega
  have q2 : decide (2000 < d.length) = false := by simpa using h5
  have hby : By w A c d := ⟨hsl, hl, hc, hA, by omega⟩
  have HY := Lib.hid hby
  have hd : d.length ≤ 4096 := by omega
  obtain ⟨n, hn⟩ : ∃ n, n = d.length := ⟨_, rfl⟩
  obtain ⟨F, hF⟩ : ∃ F, F = frameB k 9 d := ⟨_, rfl⟩
  obtain ⟨m, hm⟩ : ∃ m, m = F.length := ⟨_, rfl⟩
  have hm64 : 64 ≤ m := by rw [hm, hF]; exact fr_long k 9 d
  have hmb : m ≤ 4160 := by rw [hm, hF]; exact frame_small hd
  obtain ⟨x, hx, hxm⟩ : ∃ x : Nat, (u : Int) % (m : Int) = x ∧ x < m := ⟨u % m, by rw [Int.natCast_emod], Nat.mod_lt _ (by omega)⟩
  obtain ⟨hx1, hx2⟩ := xor1_ne hk
  obtain ⟨k', hk', hkk⟩ : ∃ k' : Nat, bits BinOp.xor IntKind.u8 (k : Int) 1 = (k' : Int) ∧ k ≠ k' := ⟨k ^^^ 1, u8_xor_nat k 1 hk (by decide), hx2⟩
  have C1 : ∀ W, By W A c d → Calls Try.prog 10 #[.int .u8 (k : Int), .int .i64 9, .slice A n c] W fun e w' => ∃ A c, e = .returned (.tuple #[.slice A m c, .int .i64 0]) ∧ By w' A c F ∧ Below W.heap.size W w' := fun W h =>
    (make_by k hk _ rfl 9 _ rfl (by decide) h hd n hn).mono fun e w' ⟨A, c, he, hb, hw, _⟩ => ⟨A, c, by rw [he, hm, hF], by rw [hF]; exact hb, hw⟩
  have C2 : ∀ W A c, By W A c F → Calls Try.prog 14 #[.slice A x c, .int .u8 (k : Int)] W (OpenNo 2 W) := fun W A c h => open_no (h.to x) k _ rfl x (by rw [List.length_take]; omega) 2 (by rw [hF]; exact fr_cut (by decide) hd (by rw [← hF, ← hm]; exact hxm) k) (by decide)
  have C3 : ∀ W A c, By W A c (F ++ [0]) → Calls Try.prog 14 #[.slice A (m + 1) c, .int .u8 (k : Int)] W (OpenNo 3 W) := fun W A c h => open_no h k _ rfl (m + 1) (by rw [List.length_append, ← hm]; rfl) 3 (by rw [hF]; exact fr_more (by decide) hd k) (by decide)
  have C4 : ∀ W A c, By W A c F → Calls Try.prog 14 #[.slice A m c, .int .u8 (k' : Int)] W (OpenNo 4 W) := fun W A c h => open_no h k' _ rfl m hm 4 (by rw [hF, fr_open (by decide) hd, if_pos hkk]) (by decide)
  have hFb : ∀ y ∈ F ++ [0], y < 256 := by
    intro y hy
    rcases List.mem_append.1 hy with h | h
    · rw [hF] at h; exact frameB_lt hk 9 hl y h
    · have : y = 0 := by simpa using h
      omega
  have H1 := Lib.hid C1
  have H2 := Lib.hid C2
  have H3 := Lib.hid C3
  have H4 := Lib.hid C4
  have Hm := Lib.hid hm
  have HFb := Lib.hid hFb
  obtain ⟨i0, hi0, hz0, hs0, hb0⟩ := byte_parts (P := Try.prog) (e := 5) (by kernel_rfl)
  have cut : ∀ (A : Option Addr) (c : Nat), m ≤ c → ∀ w, (Instr.slice 22 (.slice A m c) none (some (.int .i64 (x : Int))) none).run Try.prog w = .ok (.slice A x c) w := fun A c h w => run_slice_to (P := Try.prog) Try.underlying22 hi0 A m c x (by omega) w
  have Hcut := Lib.hid cut
  rw [← hn]
  rw [← hn] at q1 q2
  have p1 : ((m : Int) == 0) = false := by simp; omega
  have p2 : (m == 0) = false := by simp; omega
  clear C1 C2 C3 C4 hF hm hsl hl hA hc h5 hby hn hkk hk hx1 hx2 cut hFb hxm
  go_enter Try.func7, Try.ntmps7
  go_wp2_with fail
  refine (awake_any _).mono ?_
  rintro e w1 ⟨rfl, hb⟩
  have HB := Lib.hid hb
  have HY1 := Lib.hid (HY.out.below hb)
  clear hb HY
  go_wp2_with fail
  refine (H1.out _ HY1.out).mono ?_
  rintro e w2 ⟨A2, c2, rfl, f2, b2⟩
  have HB2 := Lib.hid (HB.out.trans (b2.mono HB.out.size))
  have F2 := Lib.hid f2
  have cut2 := Hcut.out A2 c2 (by rw [Hm.out]; exact f2.cap)
  clear HB HY1 f2 b2 H1 Hcut
  go_wp2_with fail
  refine (H2.out _ _ _ F2.out).mono ?_
  rintro e w3 ⟨rfl, b3⟩
  have HB3 := Lib.hid (HB2.out.trans (b3.mono HB2.out.size))
  have F3 := Lib.hid (F2.out.below b3)
  have e3 : Hid (Below w3.heap.size w3 (w3.alloc (.cells #[] 5))) := Lib.hid ((Below.refl _ _).alloc (Nat.le_refl _) _)
  have F3a := Lib.hid (F3.out.below e3.out)
  have O3 := Lib.hid (own_empty (e := 5) (size := 1) w3)
  have Hml : Hid ((byts F).length = m) := Lib.hid (by rw [byts_length]; exact Hm.out.symm)
  clear HB2 F2 b3 H2 cut2
  go_wp2_with (at_builtin; first
    | (refine wpList_append_sl (base := w3.heap.size) _ rfl (.tmp 50) (.tmp 51) _ rfl Try.underlying22 hi0 hz0 hs0 hb0 rfl rfl O3.out rfl Hml.out.symm F3a.out.nil F3a.out.sl (byts_one _) (by rw [byts_length]; exact F3a.out.cap) (by rw [Hml.out]; unfold maxLen; omega) (by rw [Hml.out]; omega) e3.out.size ?_; intro v4 w4 h1 h2 _; rw [Hml.out, Nat.zero_add, List.nil_append] at h1; have O4 := Lib.hid h1; have B34 := Lib.hid (e3.out.grown h2 e3.out.size (fun g hg => by injection hg with hg; subst hg; exact Nat.le_refl _)); clear h1 h2)
    | (refine wpList_append_sl (base := w3.heap.size) _ rfl (.tmp 52) (.tmp 53) _ rfl Try.underlying22 hi0 hz0 hs0 hb0 rfl rfl (own_keep O4.out fun b hb hlt => Below.heap_alloc w4 _ _ hlt) rfl (byts_length [0]).symm (by simp) (sl_cells (w := w4) (cs := #[.int .u8 0]) (l := [0]) rfl) (byts_one _) (by rw [byts_length]; exact Nat.le_refl _) (by rw [byts_length]; unfold maxLen; simp; omega) (by rw [byts_length]; simp; omega) (Nat.le_trans B34.out.size (by simp)) ?_; intro v5 w5 h1 h2 _; rw [byts_length, byts_join] at h1; have O5 := Lib.hid h1; have B35 := Lib.hid ((B34.out.alloc B34.out.size _).grown h2 (B34.out.alloc B34.out.size _).size (fun g hg => (O4.out.lt g hg).1)); clear h1 h2))
  obtain ⟨A5, c5, rfl⟩ := own_slice O5.out
  have F5 := Lib.hid (By.of_own O5.out HFb.out (by rw [List.length_append, ← Hm.out]; simp; omega))
  have F35 := Lib.hid (F3.out.below B35.out)
  have HB5 := Lib.hid (HB3.out.trans (B35.out.mono HB3.out.size))
  clear O5 O4 O3 B34 B35 F3 F3a HB3 e3
  have N5 := H3.out _ _ _ F5.out
  refine N5.mono ?_
  rintro e w6 ⟨rfl, b6⟩
  have HB6 := Lib.hid (HB5.out.trans (b6.mono HB5.out.size))
  have F6 := Lib.hid (F35.out.below b6)
  clear HB5 F35 F5 b6 N5 H3
  go_wp2_with fail
  refine (H4.out _ _ _ F6.out).mono ?_
  rintro e w7 ⟨rfl, b7⟩
  have HB7 := Lib.hid (HB6.out.trans (b7.mono HB6.out.size))
  clear HB6 F6 b7 H4
  go_wp2_with fail
  go_ret
  exact ⟨rfl, HB7.out⟩
end Go.Proofs.Ytpicalkcgioimaa
