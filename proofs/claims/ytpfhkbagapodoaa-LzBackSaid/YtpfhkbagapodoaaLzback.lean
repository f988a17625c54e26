/- LzBack, under what the program's functions are held to. -/
import Derived.Test.YtpfhkbagapodoaaLzfar
import Derived.Deep.RegionHeldLaw
namespace Go.Proofs.Ytpfhkbagapodoaa
open Go.RowKit

set_option maxRecDepth 4000 in
set_option maxHeartbeats 8000000 in
theorem lzback_any (hU : UnpackC) {P : List Nat → List Nat} (hP : PackC P) (hO : PackOk P) (hM : MostC) {w : World} {A : Option Addr} {c : Nat} {l : List Nat} (hsl : Sl w w.heap.size A (byts l)) (hl : ∀ x ∈ l, x < 256) (hc : l.length ≤ c) (hA : A = none → c = 0) (u : Nat) (hu : u < 256) :
    Calls Try.prog 4 #[.slice A l.length c, .int .u8 (u : Int)] w fun e w' => e = .returned (.bool true) ∧ Below w.heap.size w w' := by
  have AW := Lib.hid (fun w => awake_any hU hP hO hM w)
  have BK := Lib.hid (back_of hU hP hO)
  have HM := Lib.hid hM
  clear hU hP hO hM
  by_cases h5 : 1000 < l.length
  · have q1 : decide (1000 < (l.length : Int)) = true := by simp; omega
    have q2 : decide (1000 < l.length) = true := by simpa using h5
    clear hsl hl hA hc h5
    generalize l.length = n at *
    go_enter Try.func4, Try.ntmps4
    go_wp2_with fail
    refine (AW.out _).mono ?_
    rintro e w1 ⟨rfl, hb⟩
    go_wp2_with fail
    go_ret
    exact ⟨rfl, hb⟩
  have q1 : decide (1000 < (l.length : Int)) = false := by simp; omega
  have q2 : decide (1000 < l.length) = false := by simpa using h5
  have hby : By w A c l := ⟨hsl, hl, hc, hA, by omega⟩
  have HY := Lib.hid hby
  obtain ⟨i0, hi0, hz0, hs0, hb0⟩ := byte_parts (P := Try.prog) (e := 5) (by kernel_rfl)
  obtain ⟨N, hN⟩ : ∃ N, N = l.length := ⟨_, rfl⟩
  have hNb : N ≤ 1000 := by omega
  have HN := Lib.hid hN
  have Ll := Lib.hid (show (byts l).length = N by rw [byts_length, hN])
  rw [← hN] at q1 q2 ⊢
  clear hsl hl hA hc h5 hby hN
  go_enter Try.func4, Try.ntmps4
  go_wp2_with fail
  refine (AW.out _).mono ?_
  rintro e w1 ⟨rfl, hb⟩
  have HB1 := Lib.hid hb
  have HY1 := Lib.hid (HY.out.below hb)
  have M1 := Lib.hid (show Mine w1 w1 none 0 0 [] from ⟨World.ownsRow_nil _ _ _ _, Below.refl _ _⟩)
  clear hb HY AW
  go_wp2_with fail
  go_loopw [5, 6] (fun v i wr => ∃ (j m : Nat) (A' : Option Addr) (c' : Nat) (L : List Nat), j ≤ u + 1 ∧ i = .int .i64 j ∧ v = .slice A' m c' ∧ Mine w1 wr A' m c' L ∧ (∀ x ∈ L, x < 256) ∧ m ≤ 4096) (fun _ i _ => u + 1 - (intOf i).toNat)
  case atStart => exact ⟨0, 0, none, 0, [], Nat.zero_le _, rfl, rfl, M1.out, by simp, by decide⟩
  case round =>
    obtain ⟨j, m, A', c', L, hj, rfl, rfl, hm, hL, hmb⟩ := hrel
    have M := Lib.hid hm
    have HL := Lib.hid hL
    clear hm hL M1
    by_cases hgo : j ≤ u ∧ m + N ≤ 4096
    · obtain ⟨g1, g2⟩ := hgo
      have q3 : decide ((j : Int) ≤ (u : Int)) = true := by rw [decide_eq_true_eq]; omega
      have q3' : decide (j ≤ u) = true := by rw [decide_eq_true_eq]; omega
      have q4 : decide ((m : Int) + (N : Int) ≤ 4096) = true := by rw [decide_eq_true_eq]; omega
      have q4' : decide (m + N ≤ 4096) = true := by rw [decide_eq_true_eq]; omega
      have Yw := Lib.hid (HY1.out.below M.out.bel)
      go_wp2_with (at_builtin; refine wpList_append_sl (base := w1.heap.size) _ rfl (.tmp 31) (.tmp 32) _ rfl Try.underlying22 hi0 hz0 hs0 hb0 rfl rfl M.out.own rfl Ll.out.symm Yw.out.nil Yw.out.sl (byts_one _) (by rw [Ll.out, HN.out]; exact Yw.out.cap) (by rw [Ll.out]; unfold maxLen; omega) (by rw [Ll.out]; omega) M.out.bel.size ?_; intro v6 w6 h1 h2 _; obtain ⟨A6, c6, rfl, m6⟩ := M.out.app (r := l) HN.out.symm (show m + N = m + N from rfl) h1 h2; have M6 := Lib.hid m6; clear h1 h2 m6)
      go_roundw
      case rel => exact ⟨j + 1, m + N, A6, c6, L ++ l, by omega, by go_num, rfl, M6.out, fun x hx => by
        rcases List.mem_append.1 hx with h | h
        · exact HL.out x h
        · exact HY1.out.lt x h, g2⟩
      case measure => simp [intOf]; omega
    · have X := Lib.hid (By.of_own M.out.own HL.out (by have := M.out.len; omega))
      have hXl := M.out.len
      obtain ⟨hpl, p1, p2, p3⟩ := BK.out L HL.out (by omega)
      rw [hXl] at hpl p1 p2 p3
      have P1 := Lib.hid p1
      have P2 := Lib.hid p2
      have P3 := Lib.hid p3
      obtain ⟨zl, hzl⟩ : ∃ zl, zl = (P L).length := ⟨_, rfl⟩
      rw [← hzl] at hpl P1 P2 P3
      obtain ⟨mx, hmx⟩ : ∃ mx : Nat, mx = m + m / 255 + 16 := ⟨_, rfl⟩
      obtain ⟨D0, hD0⟩ : ∃ D0 : Nat, D0 = m / 255 := ⟨_, rfl⟩
      obtain ⟨D1, hD1⟩ : ∃ D1 : Nat, D1 = m + D0 := ⟨_, rfl⟩
      have e1 : (m : Int) / 255 = (D0 : Int) := by omega
      have e1w : IntKind.i64.wrap (D0 : Int) = (D0 : Int) := IntWalk.i64_in _ (by omega)
      have e2 : (m : Int) + (D0 : Int) = (D1 : Int) := by omega
      have e2' : IntKind.i64.wrap ((m : Int) + (D0 : Int)) = (D1 : Int) := by rw [e2]; exact IntWalk.i64_in _ (by omega)
      have e2w : IntKind.i64.wrap (D1 : Int) = (D1 : Int) := IntWalk.i64_in _ (by omega)
      have e3 : (D1 : Int) + 16 = (mx : Int) := by omega
      have e3' : IntKind.i64.wrap ((D1 : Int) + 16) = (mx : Int) := by rw [e3]; exact IntWalk.i64_in _ (by omega)
      have e3w : IntKind.i64.wrap (mx : Int) = (mx : Int) := IntWalk.i64_in _ (by omega)
      have q5 : decide ((zl : Int) ≤ (mx : Int)) = true := by rw [decide_eq_true_eq]; omega
      have q5' : decide (zl ≤ mx) = true := by rw [decide_eq_true_eq]; omega
      have C6 := Lib.hid (fun W => HM.out m (m : Int) W hmb rfl)
      rw [← hmx] at C6
      have HXl := Lib.hid hXl
      have HBm := Lib.hid (HB1.out.trans (M.out.bel.mono HB1.out.size))
      have Hzl := Lib.hid hzl
      clear hpl p1 p2 p3 hmx hD0 hD1 hXl hzl BK HM HB1 HY1
      by_cases g1 : j ≤ u
      · have q3 : decide ((j : Int) ≤ (u : Int)) = true := by rw [decide_eq_true_eq]; omega
        have q3' : decide (j ≤ u) = true := by rw [decide_eq_true_eq]; omega
        have q4 : decide ((m : Int) + (N : Int) ≤ 4096) = false := by rw [decide_eq_false_iff_not]; omega
        have q4' : decide (m + N ≤ 4096) = false := by rw [decide_eq_false_iff_not]; omega
        clear hgo
        go_wp2_with fail
        refine (P1.out _ _ _ X.out).mono ?_
        rintro e w6 ⟨A6, c6, rfl, y6, b6⟩
        have HB6 := Lib.hid (HBm.out.trans (b6.mono HBm.out.size))
        have X6 := Lib.hid (X.out.below b6)
        have Y6 := Lib.hid y6
        have N6 := Lib.hid (P3.out _ _ _ y6)
        clear y6 b6 HBm X P3 M
        go_wp2_with fail
        refine N6.out.mono ?_
        rintro e w7 ⟨A7, c7, rfl, y7, b7⟩
        have HB7 := Lib.hid (HB6.out.trans (b7.mono HB6.out.size))
        have X7 := Lib.hid (X6.out.below b7)
        have Y7 := Lib.hid y7
        have Z7 := Lib.hid (Y6.out.below b7)
        have N7 := Lib.hid (P2.out _ _ _ Z7.out)
        clear y7 b7 HB6 X6 Y6 N6 P2
        go_wp2_with fail
        refine N7.out.mono ?_
        rintro e w8 ⟨A8, c8, rfl, y8, b8⟩
        have HB8 := Lib.hid (HB7.out.trans (b8.mono HB7.out.size))
        have X8 := Lib.hid (X7.out.below b8)
        have Z8 := Lib.hid (Z7.out.below b8)
        have Y78 := Lib.hid (Y7.out.below b8)
        have Y8 := Lib.hid y8
        clear y8 b8 HB7 X7 Y7 Z7 N7
        obtain ⟨st, hst⟩ : ∃ st, st = bstr L := ⟨_, rfl⟩
        obtain ⟨zs, hzs⟩ : ∃ zs, zs = bstr (P L) := ⟨_, rfl⟩
        have kp : ∀ w', Below w8.heap.size w8 w' → (convert 22 9 (.slice A7 m c7)).run Try.prog w' = .ok (.string st) w' ∧ (convert 22 9 (.slice A' m c')).run Try.prog w' = .ok (.string st) w' ∧ (convert 22 9 (.slice A8 m c8)).run Try.prog w' = .ok (.string st) w' ∧ (convert 22 9 (.slice A6 zl c6)).run Try.prog w' = .ok (.string zs) w' := fun w' hb => by
          have k1 := conv_b (cap := c7) (Y78.out.below hb).sl
          have k2 := conv_b (cap := c') (X8.out.below hb).sl
          have k3 := conv_b (cap := c8) (Y8.out.below hb).sl
          have k4 := conv_b (cap := c6) (Z8.out.below hb).sl
          rw [HXl.out, ← hst] at k1 k2 k3
          rw [← Hzl.out, ← hzs] at k4
          exact ⟨k1, k2, k3, k4⟩
        have Kp := Lib.hid kp
        have Hzs := Lib.hid hzs
        have hbc : Below w8.heap.size w8 w8 := Below.refl _ _
        have Xs := Lib.hid (fun W (hb : Below w8.heap.size w8 W) => (X8.out.below hb).sl)
        have Lm := Lib.hid (show (byts L).length = m by rw [byts_length, HXl.out])
        have hmc := X8.out.cap
        rw [HXl.out] at hmc
        have Xn := Lib.hid X8.out.nil
        clear kp hst hzs X8 Z8 Y78 Y8
        go_wp2_with fail
        go_region_held_law (fun w' => (convert 22 9 (.slice A7 m c7)).run Try.prog w' = .ok (.string st) w' ∧ (convert 22 9 (.slice A' m c')).run Try.prog w' = .ok (.string st) w' ∧ (convert 22 9 (.slice A8 m c8)).run Try.prog w' = .ok (.string st) w' ∧ (convert 22 9 (.slice A6 zl c6)).run Try.prog w' = .ok (.string zs) w') (first | exact Kp.out _ hbc | exact Kp.out _ hbc.drew | exact Kp.out _ (hbc.alloc hbc.size _) | exact Kp.out _ (hbc.drew.alloc hbc.size _)) (first
          | (go_at_call 14; (with_reducible refine (C6.out _).mono ?_); rintro e w9 ⟨rfl, rfl⟩)
          | (go_at_call 13; (with_reducible refine (P1.out _ _ _ Y10.out).mono ?_); rintro e w11 ⟨A11, c11, rfl, y11, b11⟩; have k9 := conv_b (cap := c11) y11.sl; rw [← Hzl.out, ← Hzs.out] at k9; have hbc := hbc.trans (b11.mono hbc.size); clear y11 b11)
          | (refine step_append_slg (base := w8.heap.size) _ (by rfl) (.tmp 92) (.tmp 93) _ rfl Try.underlying22 hi0 hz0 hs0 hb0 rfl rfl (mine_empty (w0 := w8) hbc.drew).own rfl Lm.out.symm Xn.out (Xs.out _ (mine_empty (w0 := w8) hbc.drew).bel) (byts_one _) (by rw [Lm.out]; exact hmc) (by rw [Lm.out]; unfold maxLen; omega) (by rw [Lm.out]; omega) (mine_empty (w0 := w8) hbc.drew).bel.size ?_; intro v10 w10 h1 h2 _; obtain ⟨A10, c10, rfl, m10⟩ := (mine_empty (w0 := w8) hbc.drew).app (r := L) HXl.out (Nat.zero_add m) h1 h2; have hbc := m10.bel; have Y10 := Lib.hid (By.of_own (l := L) m10.own HL.out (by have := HXl.out; omega)); clear h1 h2 m10))
        all_goals
          go_wp2_with fail
          go_ret
          exact ⟨rfl, HB8.out.trans (hbc.mono HB8.out.size)⟩
      · have q3 : decide ((j : Int) ≤ (u : Int)) = false := by rw [decide_eq_false_iff_not]; omega
        have q3' : decide (j ≤ u) = false := by rw [decide_eq_false_iff_not]; omega
        clear hgo
        go_wp2_with fail
        refine (P1.out _ _ _ X.out).mono ?_
        rintro e w6 ⟨A6, c6, rfl, y6, b6⟩
        have HB6 := Lib.hid (HBm.out.trans (b6.mono HBm.out.size))
        have X6 := Lib.hid (X.out.below b6)
        have Y6 := Lib.hid y6
        have N6 := Lib.hid (P3.out _ _ _ y6)
        clear y6 b6 HBm X P3 M
        go_wp2_with fail
        refine N6.out.mono ?_
        rintro e w7 ⟨A7, c7, rfl, y7, b7⟩
        have HB7 := Lib.hid (HB6.out.trans (b7.mono HB6.out.size))
        have X7 := Lib.hid (X6.out.below b7)
        have Y7 := Lib.hid y7
        have Z7 := Lib.hid (Y6.out.below b7)
        have N7 := Lib.hid (P2.out _ _ _ Z7.out)
        clear y7 b7 HB6 X6 Y6 N6 P2
        go_wp2_with fail
        refine N7.out.mono ?_
        rintro e w8 ⟨A8, c8, rfl, y8, b8⟩
        have HB8 := Lib.hid (HB7.out.trans (b8.mono HB7.out.size))
        have X8 := Lib.hid (X7.out.below b8)
        have Z8 := Lib.hid (Z7.out.below b8)
        have Y78 := Lib.hid (Y7.out.below b8)
        have Y8 := Lib.hid y8
        clear y8 b8 HB7 X7 Y7 Z7 N7
        obtain ⟨st, hst⟩ : ∃ st, st = bstr L := ⟨_, rfl⟩
        obtain ⟨zs, hzs⟩ : ∃ zs, zs = bstr (P L) := ⟨_, rfl⟩
        have kp : ∀ w', Below w8.heap.size w8 w' → (convert 22 9 (.slice A7 m c7)).run Try.prog w' = .ok (.string st) w' ∧ (convert 22 9 (.slice A' m c')).run Try.prog w' = .ok (.string st) w' ∧ (convert 22 9 (.slice A8 m c8)).run Try.prog w' = .ok (.string st) w' ∧ (convert 22 9 (.slice A6 zl c6)).run Try.prog w' = .ok (.string zs) w' := fun w' hb => by
          have k1 := conv_b (cap := c7) (Y78.out.below hb).sl
          have k2 := conv_b (cap := c') (X8.out.below hb).sl
          have k3 := conv_b (cap := c8) (Y8.out.below hb).sl
          have k4 := conv_b (cap := c6) (Z8.out.below hb).sl
          rw [HXl.out, ← hst] at k1 k2 k3
          rw [← Hzl.out, ← hzs] at k4
          exact ⟨k1, k2, k3, k4⟩
        have Kp := Lib.hid kp
        have Hzs := Lib.hid hzs
        have hbc : Below w8.heap.size w8 w8 := Below.refl _ _
        have Xs := Lib.hid (fun W (hb : Below w8.heap.size w8 W) => (X8.out.below hb).sl)
        have Lm := Lib.hid (show (byts L).length = m by rw [byts_length, HXl.out])
        have hmc := X8.out.cap
        rw [HXl.out] at hmc
        have Xn := Lib.hid X8.out.nil
        clear kp hst hzs X8 Z8 Y78 Y8
        go_wp2_with fail
        go_region_held_law (fun w' => (convert 22 9 (.slice A7 m c7)).run Try.prog w' = .ok (.string st) w' ∧ (convert 22 9 (.slice A' m c')).run Try.prog w' = .ok (.string st) w' ∧ (convert 22 9 (.slice A8 m c8)).run Try.prog w' = .ok (.string st) w' ∧ (convert 22 9 (.slice A6 zl c6)).run Try.prog w' = .ok (.string zs) w') (first | exact Kp.out _ hbc | exact Kp.out _ hbc.drew | exact Kp.out _ (hbc.alloc hbc.size _) | exact Kp.out _ (hbc.drew.alloc hbc.size _)) (first
          | (go_at_call 14; (with_reducible refine (C6.out _).mono ?_); rintro e w9 ⟨rfl, rfl⟩)
          | (go_at_call 13; (with_reducible refine (P1.out _ _ _ Y10.out).mono ?_); rintro e w11 ⟨A11, c11, rfl, y11, b11⟩; have k9 := conv_b (cap := c11) y11.sl; rw [← Hzl.out, ← Hzs.out] at k9; have hbc := hbc.trans (b11.mono hbc.size); clear y11 b11)
          | (refine step_append_slg (base := w8.heap.size) _ (by rfl) (.tmp 92) (.tmp 93) _ rfl Try.underlying22 hi0 hz0 hs0 hb0 rfl rfl (mine_empty (w0 := w8) hbc.drew).own rfl Lm.out.symm Xn.out (Xs.out _ (mine_empty (w0 := w8) hbc.drew).bel) (byts_one _) (by rw [Lm.out]; exact hmc) (by rw [Lm.out]; unfold maxLen; omega) (by rw [Lm.out]; omega) (mine_empty (w0 := w8) hbc.drew).bel.size ?_; intro v10 w10 h1 h2 _; obtain ⟨A10, c10, rfl, m10⟩ := (mine_empty (w0 := w8) hbc.drew).app (r := L) HXl.out (Nat.zero_add m) h1 h2; have hbc := m10.bel; have Y10 := Lib.hid (By.of_own (l := L) m10.own HL.out (by have := HXl.out; omega)); clear h1 h2 m10))
        all_goals
          go_wp2_with fail
          go_ret
          exact ⟨rfl, HB8.out.trans (hbc.mono HB8.out.size)⟩
end Go.Proofs.Ytpfhkbagapodoaa
