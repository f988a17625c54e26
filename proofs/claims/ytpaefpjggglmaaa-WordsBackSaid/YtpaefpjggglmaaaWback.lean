/- WordsBack, under what the program's functions are held to. -/
import Derived.Test.YtpaefpjggglmaaaWc
import Derived.Deep.RegionHeldLaw
namespace Go.Proofs.Ytpaefpjggglmaaa
open Go.RowKit

set_option maxRecDepth 4000 in
set_option maxHeartbeats 8000000 in
theorem wback_any (hU : WUnpackC) {P : List Nat → List Nat} (hP : WPackC P) (hO : WPackOk P) {w : World} {A : Option Addr} {c : Nat} {l : List Nat} (hsl : Sl w w.heap.size A (byts l)) (hl : ∀ x ∈ l, x < 256) (hc : l.length ≤ c) (hA : A = none → c = 0) :
    Calls Try.prog 4 #[.slice A l.length c] w fun e w' => e = .returned (.bool true) ∧ Below w.heap.size w w' := by
  have AW := Lib.hid (fun w => wawake_any hU hP hO w)
  have BK := Lib.hid (wback_of hU hP hO)
  clear hU hP hO
  by_cases h5 : 1500 < l.length
  · have q1 : decide (1500 < (l.length : Int)) = true := by simp; omega
    have q2 : decide (1500 < l.length) = true := by simpa using h5
    clear hsl hl hA hc h5
    generalize l.length = n at *
    go_enter Try.func4, Try.ntmps4
    go_wp2_with fail
    refine (AW.out _).mono ?_
    rintro e w1 ⟨rfl, hb⟩
    go_wp2_with fail
    go_ret
    exact ⟨rfl, hb⟩
  have q1 : decide (1500 < (l.length : Int)) = false := by simp; omega
  have q2 : decide (1500 < l.length) = false := by simpa using h5
  have hby : By w A c l := ⟨hsl, hl, hc, hA, by omega⟩
  have HY := Lib.hid hby
  obtain ⟨i0, hi0, hz0, hs0, hb0⟩ := byte_parts (P := Try.prog) (e := 5) (by kernel_rfl)
  obtain ⟨hpl, p1, p2, p3⟩ := BK.out l hl (by omega)
  obtain ⟨m, hm⟩ : ∃ m, m = l.length := ⟨_, rfl⟩
  rw [← hm] at hpl p1 p2 p3 q1 q2 ⊢
  have hmb : m ≤ 1500 := by omega
  have P1 := Lib.hid p1
  have P2 := Lib.hid p2
  have P3 := Lib.hid p3
  obtain ⟨zl, hzl⟩ : ∃ zl, zl = (P l).length := ⟨_, rfl⟩
  rw [← hzl] at hpl P1 P2 P3
  obtain ⟨D0, hD0⟩ : ∃ D0 : Nat, D0 = 11 * m := ⟨_, rfl⟩
  obtain ⟨D1, hD1⟩ : ∃ D1 : Nat, D1 = D0 + 7 := ⟨_, rfl⟩
  obtain ⟨D2, hD2⟩ : ∃ D2 : Nat, D2 = D1 / 8 := ⟨_, rfl⟩
  obtain ⟨mx, hmx⟩ : ∃ mx : Nat, mx = 272 + D2 := ⟨_, rfl⟩
  have e1 : (11 : Int) * (m : Int) = (D0 : Int) := by omega
  have e1' : IntKind.i64.wrap ((11 : Int) * (m : Int)) = (D0 : Int) := by rw [e1]; exact IntWalk.i64_in _ (by omega)
  have e1w : IntKind.i64.wrap (D0 : Int) = (D0 : Int) := IntWalk.i64_in _ (by omega)
  have e2 : (D0 : Int) + 7 = (D1 : Int) := by omega
  have e2' : IntKind.i64.wrap ((D0 : Int) + 7) = (D1 : Int) := by rw [e2]; exact IntWalk.i64_in _ (by omega)
  have e2w : IntKind.i64.wrap (D1 : Int) = (D1 : Int) := IntWalk.i64_in _ (by omega)
  have e3 : (D1 : Int) / 8 = (D2 : Int) := by omega
  have e3w : IntKind.i64.wrap (D2 : Int) = (D2 : Int) := IntWalk.i64_in _ (by omega)
  have e4 : (272 : Int) + (D2 : Int) = (mx : Int) := by omega
  have e4' : IntKind.i64.wrap ((272 : Int) + (D2 : Int)) = (mx : Int) := by rw [e4]; exact IntWalk.i64_in _ (by omega)
  have e4w : IntKind.i64.wrap (mx : Int) = (mx : Int) := IntWalk.i64_in _ (by omega)
  have q5 : decide ((zl : Int) ≤ (mx : Int)) = true := by rw [decide_eq_true_eq]; omega
  have q5' : decide (zl ≤ mx) = true := by rw [decide_eq_true_eq]; omega
  have HXl := Lib.hid hm.symm
  have Hzl := Lib.hid hzl
  have HL := Lib.hid hl
  have hmc0 : m ≤ c := by omega
  clear hpl p1 p2 p3 hmx hD0 hD1 hD2 hzl hsl hl hA hc h5 hby hm BK
  go_enter Try.func4, Try.ntmps4
  go_wp2_with fail
  refine (AW.out _).mono ?_
  rintro e w1 ⟨rfl, hb⟩
  have HB1 := Lib.hid hb
  have X := Lib.hid (HY.out.below hb)
  clear hb HY AW
  go_wp2_with fail
  refine (P1.out _ _ _ X.out).mono ?_
  rintro e w6 ⟨A6, c6, rfl, y6, b6⟩
  have HB6 := Lib.hid (HB1.out.trans (b6.mono HB1.out.size))
  have X6 := Lib.hid (X.out.below b6)
  have Y6 := Lib.hid y6
  have N6 := Lib.hid (P3.out _ _ _ y6)
  clear y6 b6 HB1 X P3
  go_wp2_with fail
  refine N6.out.mono ?_
  rintro e w7 ⟨A7, c7, rfl, y7, b7⟩
  have HB7 := Lib.hid (HB6.out.trans (b7.mono HB6.out.size))
  have X7 := Lib.hid (X6.out.below b7)
  have Y7 := Lib.hid y7
  have Z7 := Lib.hid (Y6.out.below b7)
  have N7 := Lib.hid (P2.out _ _ _ Z7.out)
  clear y7 b7 HB6 X6 Y6 N6 P2
  go_wp2_with fail
  refine N7.out.mono ?_
  rintro e w8 ⟨A8, c8, rfl, y8, b8⟩
  have HB8 := Lib.hid (HB7.out.trans (b8.mono HB7.out.size))
  have X8 := Lib.hid (X7.out.below b8)
  have Z8 := Lib.hid (Z7.out.below b8)
  have Y78 := Lib.hid (Y7.out.below b8)
  have Y8 := Lib.hid y8
  clear y8 b8 HB7 X7 Y7 Z7 N7
  obtain ⟨st, hst⟩ : ∃ st, st = bstr l := ⟨_, rfl⟩
  obtain ⟨zs, hzs⟩ : ∃ zs, zs = bstr (P l) := ⟨_, rfl⟩
  have kp : ∀ w', Below w8.heap.size w8 w' → (convert 22 9 (.slice A7 m c7)).run Try.prog w' = .ok (.string st) w' ∧ (convert 22 9 (.slice A m c)).run Try.prog w' = .ok (.string st) w' ∧ (convert 22 9 (.slice A8 m c8)).run Try.prog w' = .ok (.string st) w' ∧ (convert 22 9 (.slice A6 zl c6)).run Try.prog w' = .ok (.string zs) w' := fun w' hb => by
    have k1 := conv_b (cap := c7) (Y78.out.below hb).sl
    have k2 := conv_b (cap := c) (X8.out.below hb).sl
    have k3 := conv_b (cap := c8) (Y8.out.below hb).sl
    have k4 := conv_b (cap := c6) (Z8.out.below hb).sl
    rw [HXl.out, ← hst] at k1 k2 k3
    rw [← Hzl.out, ← hzs] at k4
    exact ⟨k1, k2, k3, k4⟩
  have Kp := Lib.hid kp
  have Hzs := Lib.hid hzs
  have hbc : Below w8.heap.size w8 w8 := Below.refl _ _
  have Xs := Lib.hid (fun W (hb : Below w8.heap.size w8 W) => (X8.out.below hb).sl)
  have Lm := Lib.hid (show (byts l).length = m by rw [byts_length, HXl.out])
  have hmc := X8.out.cap
  rw [HXl.out] at hmc
  have Xn := Lib.hid X8.out.nil
  clear kp hst hzs X8 Z8 Y78 Y8
  go_wp2_with fail
  go_region_held_law (fun w' => (convert 22 9 (.slice A7 m c7)).run Try.prog w' = .ok (.string st) w' ∧ (convert 22 9 (.slice A m c)).run Try.prog w' = .ok (.string st) w' ∧ (convert 22 9 (.slice A8 m c8)).run Try.prog w' = .ok (.string st) w' ∧ (convert 22 9 (.slice A6 zl c6)).run Try.prog w' = .ok (.string zs) w') (first | exact Kp.out _ hbc | exact Kp.out _ hbc.drew | exact Kp.out _ (hbc.alloc hbc.size _) | exact Kp.out _ (hbc.drew.alloc hbc.size _)) (first
    | (go_at_call 11; (with_reducible refine (P1.out _ _ _ Y10.out).mono ?_); rintro e w11 ⟨A11, c11, rfl, y11, b11⟩; have k9 := conv_b (cap := c11) y11.sl; rw [← Hzl.out, ← Hzs.out] at k9; have hbc := hbc.trans (b11.mono hbc.size); clear y11 b11)
    | (refine step_append_slg (base := w8.heap.size) _ (by rfl) (.tmp 61) (.tmp 62) _ rfl Try.underlying22 hi0 hz0 hs0 hb0 rfl rfl (mine_empty (w0 := w8) hbc.drew).own rfl Lm.out.symm Xn.out (Xs.out _ (mine_empty (w0 := w8) hbc.drew).bel) (byts_one _) (by rw [Lm.out]; exact hmc) (by rw [Lm.out]; unfold maxLen; omega) (by rw [Lm.out]; omega) (mine_empty (w0 := w8) hbc.drew).bel.size ?_; intro v10 w10 h1 h2 _; obtain ⟨A10, c10, rfl, m10⟩ := (mine_empty (w0 := w8) hbc.drew).app (r := l) HXl.out (Nat.zero_add m) h1 h2; have hbc := m10.bel; have Y10 := Lib.hid (By.of_own (l := l) m10.own HL.out (by have := HXl.out; omega)); clear h1 h2 m10))
  all_goals
    go_wp2_with fail
    go_ret
    exact ⟨rfl, HB8.out.trans (hbc.mono HB8.out.size)⟩
end Go.Proofs.Ytpaefpjggglmaaa
