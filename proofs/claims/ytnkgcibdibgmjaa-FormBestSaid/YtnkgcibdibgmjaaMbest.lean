/- FormBest: the form that is chosen is read as the bytes; it is just the one that the sizes and the gain say. -/
import Derived.Test.YtnkgcibdibgmjaaMoc
import Derived.Test.YtnkgcibdibgmjaaFixw
namespace Go.Proofs.Ytnkgcibdibgmjaa
open Go.RowKit Flt

set_option maxRecDepth 10000 in
set_option maxHeartbeats 8000000 in
theorem mbest_any {P1 P2 : List Nat → List Nat} (hB : BestC P1 P2) (h1 : PackC P1) (h2 : WPackC P2) (hM : MoOk P1 P2) {w : World} {A : Option Addr} {c : Nat} {l : List Nat} (hsl : Sl w w.heap.size A (byts l)) (hl : ∀ x ∈ l, x < 256) (hc : l.length ≤ c) (hA : A = none → c = 0) {x : Nat} (hx : x < 2 ^ 64) :
    Calls Try.prog 3 #[.slice A l.length c, .float .f64 x] w fun e w' => e = .returned (.bool true) ∧ Below w.heap.size w w' := by
  have AW := Lib.hid (fun w => mawake_any hB hM w)
  by_cases h5 : 1200 < l.length
  · have q1 : decide (1200 < (l.length : Int)) = true := by simp; omega
    have q2 : decide (1200 < l.length) = true := by simpa using h5
    clear hsl hl hA hc h5
    generalize l.length = n at *
    go_enter Try.func3, Try.ntmps3
    go_wp2_with fail
    refine (AW.out _).mono ?_
    rintro e w1 ⟨rfl, hb⟩
    go_wp2_with fail
    go_ret
    exact ⟨rfl, hb⟩
  obtain ⟨i0, hi0, hz0, hs0, hb0⟩ := byte_parts (P := Try.prog) (e := 5) (by kernel_rfl)
  have HY := Lib.hid (show By w A c l from ⟨hsl, hl, hc, hA, by omega⟩)
  obtain ⟨Z, hZ⟩ : ∃ Z, Z = Mo.best P1 P2 x l := ⟨_, rfl⟩
  have back := Mo.back hM hl (by omega) x
  have hzl := Mo.best_len (P1 := P1) (P2 := P2) (b := l) x (by omega)
  have hmost := pack_most hM.one hl (by omega)
  have hb1 := hM.lt l hl
  have hmost2 := hM.two.most (P1 l) hb1 (by omega)
  rw [← hZ] at back hzl
  have NB := Lib.hid (fun W A' c' (h : By W A' c' l) => hB W A' c' l x l.length h (by omega) rfl hx)
  rw [← hZ] at NB
  obtain ⟨k, hk⟩ : ∃ k, k = Z.1 := ⟨_, rfl⟩
  obtain ⟨z, hz⟩ : ∃ z, z = Z.2 := ⟨_, rfl⟩
  rw [← hk, ← hz] at NB back
  rw [← hz] at hzl
  have N3 := Lib.hid (fun W A' c' (h : By W A' c' l) => h1 W A' c' l l.length h (by omega) rfl)
  obtain ⟨one, hone⟩ : ∃ one, one = P1 l := ⟨_, rfl⟩
  have hbest : Z = if one.length ≤ 4096 ∧ (Mo.both P2 one).length < one.length ∧ worthB x ((Mo.both P2 one).length : Int) (l.length : Int) = true then (2, Mo.both P2 one) else if worthB x (one.length : Int) (l.length : Int) = true then (1, one) else (0, l) := by
    rw [hZ, hone]; unfold Mo.best; rw [if_neg (by omega)]
  rw [← hone] at N3 hmost hmost2 hb1
  have N4 := Lib.hid (fun W A' c' (h : By W A' c' one) => h2 W A' c' one one.length h (by omega) rfl)
  have hboth := Mo.both_len (P2 := P2) one
  have htwo : Mo.both P2 one = [one.length % 256, one.length / 256] ++ P2 one := rfl
  obtain ⟨two, htw⟩ : ∃ two, two = Mo.both P2 one := ⟨_, rfl⟩
  rw [← htw] at hbest hboth htwo
  obtain ⟨m, hm⟩ : ∃ m, m = l.length := ⟨_, rfl⟩
  obtain ⟨n1, hn1⟩ : ∃ n, n = one.length := ⟨_, rfl⟩
  obtain ⟨n2, hn2⟩ : ∃ n, n = (P2 one).length := ⟨_, rfl⟩
  obtain ⟨tn, htn⟩ : ∃ n, n = two.length := ⟨_, rfl⟩
  rw [← hm] at NB back hzl h5 hc hbest N3 hmost ⊢
  rw [← hn1] at N3 N4 hmost hmost2 hbest htwo
  rw [← hn2] at N4 hmost2 hboth
  rw [← htn] at hbest hboth
  have q1 : decide (1200 < (m : Int)) = false := by rw [decide_eq_false_iff_not]; omega
  have q2 : decide (1200 < m) = false := by rw [decide_eq_false_iff_not]; omega
  obtain ⟨zn, hzn⟩ : ∃ zn, zn = z.length := ⟨_, rfl⟩
  rw [← hzn] at hzl
  rw [← hzn] at NB
  have NO := Lib.hid (fun W A' c' (h : By W A' c' z) => ropen_by h (by omega) (k : Int) (m : Int) zn hzn)
  rw [back] at NO
  obtain ⟨B0, hB0⟩ : ∃ B, B = n1 % 256 := ⟨_, rfl⟩
  obtain ⟨B1, hB1⟩ : ∃ B, B = n1 / 256 := ⟨_, rfl⟩
  have s1 : IntKind.u8.wrap (n1 : Int) = (B0 : Int) := by rw [IntKind.wrap_u8]; omega
  have s2 : (n1 : Int) / 256 = (B1 : Int) := by omega
  have hB1b : B1 < 256 := by omega
  have s3 : IntKind.u8.wrap (B1 : Int) = (B1 : Int) := by rw [IntKind.wrap_u8]; omega
  rw [← hB0, ← hB1] at htwo
  have hB0b : B0 < 256 := by omega
  have Hm := Lib.hid hm
  have Hzn := Lib.hid hzn
  have Hn1 := Lib.hid hn1
  have Hn2 := Lib.hid hn2
  have Htn := Lib.hid htn.symm
  have Htwo := Lib.hid htwo
  have Hle := Lib.hid hzl
  have Htb := Lib.hid (show tn = n2 + 2 from hboth)
  have Hzb : ∀ (A B : Nat × List Nat), Z = A → k = A.1 ∧ z = A.2 := fun A B h => by rw [hk, hz, h]; exact ⟨rfl, rfl⟩
  have HZb := Lib.hid (show (k, z) = Z from by rw [hk, hz])
  have Hbest := Lib.hid hbest
  have HOne := Lib.hid (show n1 ≤ 1300 by omega)
  have HTwo := Lib.hid (show n2 ≤ 3000 by omega)
  have Hm8 := Lib.hid (show m ≤ 1200 by omega)
  have hn1b : n1 ≤ 1300 := HOne.out
  have hn2b : n2 ≤ 3000 := HTwo.out
  have hmb : m ≤ 1200 := Hm8.out
  have WW := Lib.hid (fun (p : Nat) W => worth_any hx (p : Int) (m : Int) (by omega) W)
  clear hB h1 h2 hM hsl hl hA h5 back hZ hk hz hm hzn hone hbest hboth htwo htw hn1 hn2 htn hB0 hB1 hmost hmost2 hb1 Hzb hzl hx
  go_enter Try.func3, Try.ntmps3
  go_wp2_with fail
  refine (AW.out _).mono ?_
  rintro e w1 ⟨rfl, hb⟩
  have HB1 := Lib.hid hb
  have X := Lib.hid (HY.out.below hb)
  clear hb HY AW
  go_wp2_with fail
  refine (NB.out _ _ _ X.out).mono ?_
  rintro e w2 ⟨A1, c1, rfl, y2, b2⟩
  have HB2 := Lib.hid (HB1.out.trans (b2.mono HB1.out.size))
  have X2 := Lib.hid (X.out.below b2)
  have Y2 := Lib.hid y2
  have N2 := Lib.hid (NO.out _ _ _ y2)
  clear y2 b2 HB1 X NB NO
  go_wp2_with fail
  refine N2.out.mono ?_
  rintro e w3 ⟨A2, c2, rfl, y3, b3⟩
  have HB3 := Lib.hid (HB2.out.trans (b3.mono HB2.out.size))
  have X3 := Lib.hid (X2.out.below b3)
  have Y3 := Lib.hid (Y2.out.below b3)
  have U3 := Lib.hid y3
  have N5 := Lib.hid (N3.out _ _ _ X3.out)
  clear y3 b3 HB2 X2 Y2 N2 N3
  rw [show (l, 0).1.length = m from Hm.out.symm]
  go_wp2_with fail
  refine N5.out.mono ?_
  rintro e w4 ⟨A3, c3, rfl, y4, b4⟩
  have HB4 := Lib.hid (HB3.out.trans (b4.mono HB3.out.size))
  have X4 := Lib.hid (X3.out.below b4)
  have Y4 := Lib.hid (Y3.out.below b4)
  have U4 := Lib.hid (U3.out.below b4)
  have O4 := Lib.hid y4
  clear y4 b4 HB3 X3 Y3 U3 N5
  obtain ⟨g, hg⟩ : ∃ g, w4.heap.size = g := ⟨_, rfl⟩
  obtain ⟨W5, hW5⟩ : ∃ W, W = w4.alloc (.cells #[.int .u8 (B0 : Int), .int .u8 (B1 : Int)] 5) := ⟨_, rfl⟩
  have e5 : w4.alloc (.cells #[.int .u8 (B0 : Int), .int .u8 (B1 : Int)] 5) = W5 := hW5.symm
  have hal : Below w4.heap.size w4 W5 := by rw [hW5]; exact (Below.refl _ _).alloc (Nat.le_refl _) _
  have M5 := Lib.hid (show Mine w4 W5 (some ⟨g, 0, none⟩) 2 2 [B0, B1] from ⟨byblk_own (show ByBlk W5 g [B0, B1] by rw [hW5, ← hg]; exact Blk.new _ _ _) (by omega) rfl (by decide), hal⟩)
  have N6 := Lib.hid (N4.out _ _ _ (O4.out.below hal))
  clear hW5 hal N4
  go_wp2_with fail
  refine N6.out.mono ?_
  rintro e w6 ⟨A4, c4, rfl, y6, b6⟩
  have M6 := Lib.hid (M5.out.below b6)
  have P6 := Lib.hid y6
  have Lq := Lib.hid (show (byts (P2 one)).length = n2 by rw [byts_length, Hn2.out])
  have hc4 := P6.out.cap
  rw [← Hn2.out] at hc4
  have hnil := P6.out.nil
  clear y6 b6 M5 N6 e5 hg
  go_upto_region 9 with (at_builtin; refine wpList_append_sl (base := w4.heap.size) _ rfl (.tmp 40) (.tmp 42) _ rfl Try.underlying22 hi0 hz0 hs0 hb0 rfl rfl M6.out.own rfl Lq.out.symm hnil P6.out.sl (byts_one _) (by rw [Lq.out]; exact hc4) (by rw [Lq.out]; unfold maxLen; omega) (by rw [Lq.out]; omega) M6.out.bel.size ?_; intro v7 w7 k1 k2 _; obtain ⟨A5, c5, rfl, m7⟩ := M6.out.app (r := P2 one) Hn2.out.symm (show 2 + n2 = tn by have := Htb.out; omega) k1 k2; have M7 := Lib.hid m7; clear k1 k2 m7)
  have T5 := Lib.hid (By.of_own M7.out.own (show ∀ x ∈ [B0, B1] ++ P2 one, x < 256 from fun y hy => by
    rcases List.mem_append.1 hy with h | h
    · simp only [List.mem_cons, List.not_mem_nil, or_false] at h; omega
    · exact P6.out.lt y h) (by rw [List.length_append, ← Hn2.out]; simp; omega))
  rw [← Htwo.out] at T5
  have bel7 := M7.out.bel
  have HB5 := Lib.hid (HB4.out.trans (bel7.mono HB4.out.size))
  have X5 := Lib.hid (X4.out.below bel7)
  have Y5 := Lib.hid (Y4.out.below bel7)
  have U5 := Lib.hid (U4.out.below bel7)
  have O5 := Lib.hid (O4.out.below bel7)
  obtain ⟨st, hst⟩ : ∃ st, st = bstr l := ⟨_, rfl⟩
  obtain ⟨os, hos⟩ : ∃ st, st = bstr one := ⟨_, rfl⟩
  obtain ⟨ts, hts⟩ : ∃ st, st = bstr two := ⟨_, rfl⟩
  have Hst := Lib.hid hst
  have Hos := Lib.hid hos
  have Hts := Lib.hid hts
  have htnb : tn ≤ 4000 := by have := Htb.out; omega
  have hzb := Hbest.out
  have hkz := HZb.out
  have W2 := Lib.hid (WW.out tn)
  have W1 := Lib.hid (WW.out n1)
  clear hst hos hts bel7 M7 M6 P6 X4 Y4 U4 O4 HB4 Lq hc4 hnil hi0 hz0 hs0 hb0 s1 s2 s3 hB0b hB1b WW
  by_cases d1 : tn < n1
  · by_cases d2 : worthB x (tn : Int) (m : Int) = true
    · skip
      rw [if_pos ⟨by omega, d1, d2⟩] at hzb
      rw [hzb] at hkz
      injection hkz with hk hz
      have Hz := Lib.hid hz
      subst hk
      have v1 : decide ((tn : Int) < (n1 : Int)) = true := by rw [decide_eq_true_eq]; omega
      have v1' : decide (tn < n1) = true := by rw [decide_eq_true_eq]; omega
      rw [d2] at W2
      clear hz hzb Hbest HZb d1 d2
      have k1 := conv_b (cap := c1) (Y5.out).sl
      have k2 := conv_b (cap := c2) (U5.out).sl
      have k3 := conv_b (cap := c) (X5.out).sl
      have k4 := conv_b (cap := c3) (O5.out).sl
      have k5 := conv_b (cap := c5) (T5.out).sl
      rw [← Hzn.out, Hz.out, ← Hts.out] at k1
      rw [← Hm.out, ← Hst.out] at k2 k3
      rw [← Hn1.out, ← Hos.out] at k4
      rw [Htn.out, ← Hts.out] at k5
      have q5 : decide ((zn : Int) ≤ (m : Int)) = true := by rw [decide_eq_true_eq]; have := Hle.out; omega
      have q5' : decide (zn ≤ m) = true := by rw [decide_eq_true_eq]; exact Hle.out
      clear Y5 U5 X5 O5 T5
      go_wp2_with (first
        | (go_at_call 12; ((with_reducible refine (W2.out _).mono ?_); rintro e w' ⟨rfl, rfl⟩))
        | (go_at_call 12; ((with_reducible refine (W1.out _).mono ?_); rintro e w' ⟨rfl, rfl⟩)))
      go_ret
      exact ⟨rfl, HB5.out⟩
    · by_cases d3 : worthB x (n1 : Int) (m : Int) = true
      · skip
        rw [if_neg (fun h => d2 h.2.2)] at hzb
        rw [if_pos d3] at hzb
        rw [hzb] at hkz
        injection hkz with hk hz
        have Hz := Lib.hid hz
        subst hk
        have v1 : decide ((tn : Int) < (n1 : Int)) = true := by rw [decide_eq_true_eq]; omega
        have v1' : decide (tn < n1) = true := by rw [decide_eq_true_eq]; omega
        rw [show worthB x (tn : Int) (m : Int) = false by simpa using d2] at W2
        rw [d3] at W1
        clear hz hzb Hbest HZb d1 d2 d3
        have k1 := conv_b (cap := c1) (Y5.out).sl
        have k2 := conv_b (cap := c2) (U5.out).sl
        have k3 := conv_b (cap := c) (X5.out).sl
        have k4 := conv_b (cap := c3) (O5.out).sl
        have k5 := conv_b (cap := c5) (T5.out).sl
        rw [← Hzn.out, Hz.out, ← Hos.out] at k1
        rw [← Hm.out, ← Hst.out] at k2 k3
        rw [← Hn1.out, ← Hos.out] at k4
        rw [Htn.out, ← Hts.out] at k5
        have q5 : decide ((zn : Int) ≤ (m : Int)) = true := by rw [decide_eq_true_eq]; have := Hle.out; omega
        have q5' : decide (zn ≤ m) = true := by rw [decide_eq_true_eq]; exact Hle.out
        clear Y5 U5 X5 O5 T5
        go_wp2_with (first
          | (go_at_call 12; ((with_reducible refine (W2.out _).mono ?_); rintro e w' ⟨rfl, rfl⟩))
          | (go_at_call 12; ((with_reducible refine (W1.out _).mono ?_); rintro e w' ⟨rfl, rfl⟩)))
        go_ret
        exact ⟨rfl, HB5.out⟩
      · skip
        rw [if_neg (fun h => d2 h.2.2)] at hzb
        rw [if_neg d3] at hzb
        rw [hzb] at hkz
        injection hkz with hk hz
        have Hz := Lib.hid hz
        subst hk
        have v1 : decide ((tn : Int) < (n1 : Int)) = true := by rw [decide_eq_true_eq]; omega
        have v1' : decide (tn < n1) = true := by rw [decide_eq_true_eq]; omega
        rw [show worthB x (tn : Int) (m : Int) = false by simpa using d2] at W2
        rw [show worthB x (n1 : Int) (m : Int) = false by simpa using d3] at W1
        clear hz hzb Hbest HZb d1 d2 d3
        have k1 := conv_b (cap := c1) (Y5.out).sl
        have k2 := conv_b (cap := c2) (U5.out).sl
        have k3 := conv_b (cap := c) (X5.out).sl
        have k4 := conv_b (cap := c3) (O5.out).sl
        have k5 := conv_b (cap := c5) (T5.out).sl
        rw [← Hzn.out, Hz.out, ← Hst.out] at k1
        rw [← Hm.out, ← Hst.out] at k2 k3
        rw [← Hn1.out, ← Hos.out] at k4
        rw [Htn.out, ← Hts.out] at k5
        have q5 : decide ((zn : Int) ≤ (m : Int)) = true := by rw [decide_eq_true_eq]; have := Hle.out; omega
        have q5' : decide (zn ≤ m) = true := by rw [decide_eq_true_eq]; exact Hle.out
        clear Y5 U5 X5 O5 T5
        go_wp2_with (first
          | (go_at_call 12; ((with_reducible refine (W2.out _).mono ?_); rintro e w' ⟨rfl, rfl⟩))
          | (go_at_call 12; ((with_reducible refine (W1.out _).mono ?_); rintro e w' ⟨rfl, rfl⟩)))
        go_ret
        exact ⟨rfl, HB5.out⟩
  · by_cases d3 : worthB x (n1 : Int) (m : Int) = true
    · skip
      rw [if_neg (fun h => d1 h.2.1)] at hzb
      rw [if_pos d3] at hzb
      rw [hzb] at hkz
      injection hkz with hk hz
      have Hz := Lib.hid hz
      subst hk
      have v1 : decide ((tn : Int) < (n1 : Int)) = false := by rw [decide_eq_false_iff_not]; omega
      have v1' : decide (tn < n1) = false := by rw [decide_eq_false_iff_not]; omega
      rw [d3] at W1
      clear hz hzb Hbest HZb d1 d3
      have k1 := conv_b (cap := c1) (Y5.out).sl
      have k2 := conv_b (cap := c2) (U5.out).sl
      have k3 := conv_b (cap := c) (X5.out).sl
      have k4 := conv_b (cap := c3) (O5.out).sl
      have k5 := conv_b (cap := c5) (T5.out).sl
      rw [← Hzn.out, Hz.out, ← Hos.out] at k1
      rw [← Hm.out, ← Hst.out] at k2 k3
      rw [← Hn1.out, ← Hos.out] at k4
      rw [Htn.out, ← Hts.out] at k5
      have q5 : decide ((zn : Int) ≤ (m : Int)) = true := by rw [decide_eq_true_eq]; have := Hle.out; omega
      have q5' : decide (zn ≤ m) = true := by rw [decide_eq_true_eq]; exact Hle.out
      clear Y5 U5 X5 O5 T5
      go_wp2_with (first
        | (go_at_call 12; ((with_reducible refine (W2.out _).mono ?_); rintro e w' ⟨rfl, rfl⟩))
        | (go_at_call 12; ((with_reducible refine (W1.out _).mono ?_); rintro e w' ⟨rfl, rfl⟩)))
      go_ret
      exact ⟨rfl, HB5.out⟩
    · skip
      rw [if_neg (fun h => d1 h.2.1)] at hzb
      rw [if_neg d3] at hzb
      rw [hzb] at hkz
      injection hkz with hk hz
      have Hz := Lib.hid hz
      subst hk
      have v1 : decide ((tn : Int) < (n1 : Int)) = false := by rw [decide_eq_false_iff_not]; omega
      have v1' : decide (tn < n1) = false := by rw [decide_eq_false_iff_not]; omega
      rw [show worthB x (n1 : Int) (m : Int) = false by simpa using d3] at W1
      clear hz hzb Hbest HZb d1 d3
      have k1 := conv_b (cap := c1) (Y5.out).sl
      have k2 := conv_b (cap := c2) (U5.out).sl
      have k3 := conv_b (cap := c) (X5.out).sl
      have k4 := conv_b (cap := c3) (O5.out).sl
      have k5 := conv_b (cap := c5) (T5.out).sl
      rw [← Hzn.out, Hz.out, ← Hst.out] at k1
      rw [← Hm.out, ← Hst.out] at k2 k3
      rw [← Hn1.out, ← Hos.out] at k4
      rw [Htn.out, ← Hts.out] at k5
      have q5 : decide ((zn : Int) ≤ (m : Int)) = true := by rw [decide_eq_true_eq]; have := Hle.out; omega
      have q5' : decide (zn ≤ m) = true := by rw [decide_eq_true_eq]; exact Hle.out
      clear Y5 U5 X5 O5 T5
      go_wp2_with (first
        | (go_at_call 12; ((with_reducible refine (W2.out _).mono ?_); rintro e w' ⟨rfl, rfl⟩))
        | (go_at_call 12; ((with_reducible refine (W1.out _).mono ?_); rintro e w' ⟨rfl, rfl⟩)))
      go_ret
      exact ⟨rfl, HB5.out⟩
end Go.Proofs.Ytnkgcibdibgmjaa
