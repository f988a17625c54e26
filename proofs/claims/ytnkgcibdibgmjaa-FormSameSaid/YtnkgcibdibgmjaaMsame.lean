/- FormSame: the same bytes by the same gain have the same form; opened as another length they are told. -/
import Derived.Test.YtnkgcibdibgmjaaMoc
namespace Go.Proofs.Ytnkgcibdibgmjaa
open Go.RowKit Flt

set_option maxRecDepth 8000 in
set_option maxHeartbeats 8000000 in
theorem msame_any {P1 P2 : List Nat → List Nat} (hB : BestC P1 P2) (hO : OpenC) (hM : MoOk P1 P2) {w : World} {A : Option Addr} {c : Nat} {l : List Nat} (hsl : Sl w w.heap.size A (byts l)) (hl : ∀ x ∈ l, x < 256) (hc : l.length ≤ c) (hA : A = none → c = 0) {x : Nat} (hx : x < 2 ^ 64) (n : Int) :
    Calls Try.prog 6 #[.slice A l.length c, .float .f64 x, .int .i64 n] w fun e w' => e = .returned (.bool true) ∧ Below w.heap.size w w' := by
  have AW := Lib.hid (fun w => mawake_any hB hM w)
  by_cases h5 : 800 < l.length
  · have q1 : decide (800 < (l.length : Int)) = true := by simp; omega
    have q2 : decide (800 < l.length) = true := by simpa using h5
    clear hsl hl hA hc h5
    generalize l.length = n at *
    go_enter Try.func6, Try.ntmps6
    go_wp2_with fail
    refine (AW.out _).mono ?_
    rintro e w1 ⟨rfl, hb⟩
    go_wp2_with fail
    go_ret
    exact ⟨rfl, hb⟩
  obtain ⟨i0, hi0, hz0, hs0, hb0⟩ := byte_parts (P := Try.prog) (e := 5) (by kernel_rfl)
  have HY := Lib.hid (show By w A c l from ⟨hsl, hl, hc, hA, by omega⟩)
  obtain ⟨Z, hZ⟩ : ∃ Z, Z = Mo.best P1 P2 x l := ⟨_, rfl⟩
  have back := Mo.back hM hl (by omega) x
  have other := fun (h : n ≠ (l.length : Int)) => Mo.other hM hl (by omega) x h
  have hzl := Mo.best_len (P1 := P1) (P2 := P2) (b := l) x (by omega)
  rw [← hZ] at back other hzl
  have NB := Lib.hid (fun W A' c' (h : By W A' c' l) => hB W A' c' l x l.length h (by omega) rfl hx)
  rw [← hZ] at NB
  obtain ⟨k, hk⟩ : ∃ k, k = Z.1 := ⟨_, rfl⟩
  obtain ⟨z, hz⟩ : ∃ z, z = Z.2 := ⟨_, rfl⟩
  rw [← hk, ← hz] at NB back other
  rw [← hz] at hzl
  obtain ⟨m, hm⟩ : ∃ m, m = l.length := ⟨_, rfl⟩
  rw [← hm] at NB back other hzl h5 hc ⊢
  have q1 : decide (800 < (m : Int)) = false := by rw [decide_eq_false_iff_not]; omega
  have q2 : decide (800 < m) = false := by rw [decide_eq_false_iff_not]; omega
  obtain ⟨zn, hzn⟩ : ∃ zn, zn = z.length := ⟨_, rfl⟩
  rw [← hzn] at NB hzl
  have NO := Lib.hid (fun W A' c' (h : By W A' c' z) (i : Int) => hO W A' c' z (k : Int) i zn h (by omega) hzn)
  have Back := Lib.hid back
  have Other := Lib.hid other
  have Hm := Lib.hid hm
  have Hzn := Lib.hid hzn
  have Lm := Lib.hid (show (byts l).length = m by rw [byts_length, hm])
  have hm8 : m ≤ 800 := by omega
  clear hB hO hM hsl hl hA h5 back other hZ hk hz hm hzn
  go_enter Try.func6, Try.ntmps6
  go_wp2_with fail
  refine (AW.out _).mono ?_
  rintro e w1 ⟨rfl, hb⟩
  have HB1 := Lib.hid hb
  have X := Lib.hid (HY.out.below hb)
  clear hb HY AW
  go_wp2_with fail
  refine (NB.out _ _ _ X.out).mono ?_
  rintro e w2 ⟨A2, c2, rfl, y2, b2⟩
  have HB2 := Lib.hid (HB1.out.trans (b2.mono HB1.out.size))
  have X2 := Lib.hid (X.out.below b2)
  have Y2 := Lib.hid y2
  have M0 := Lib.hid (mine_empty (w0 := w2) (Below.refl _ w2))
  have hnil := X2.out.nil
  have Sz := Lib.hid (X2.out.sl.below ((Below.refl _ w2).alloc (Nat.le_refl _) (.cells #[] 5)))
  clear y2 b2 HB1 X
  go_wp2_with (at_builtin; refine wpList_append_sl (base := w2.heap.size) _ rfl (.tmp 27) (.tmp 28) _ rfl Try.underlying22 hi0 hz0 hs0 hb0 rfl rfl M0.out.own rfl Lm.out.symm hnil Sz.out (byts_one _) (by rw [Lm.out]; exact hc) (by rw [Lm.out]; unfold maxLen; omega) (by rw [Lm.out]; omega) M0.out.bel.size ?_; intro v6 w6 h1 h2 _; obtain ⟨A6, c6, rfl, m6⟩ := M0.out.app (r := l) Hm.out.symm (Nat.zero_add m) h1 h2; have M6 := Lib.hid m6; clear h1 h2 m6)
  have y6 := By.of_own M6.out.own (by rw [List.nil_append]; exact X2.out.lt) (by rw [List.nil_append, ← Hm.out]; omega)
  rw [List.nil_append] at y6
  have HB6 := Lib.hid (HB2.out.trans (M6.out.bel.mono HB2.out.size))
  have X6 := Lib.hid (X2.out.below M6.out.bel)
  have Y6 := Lib.hid (Y2.out.below M6.out.bel)
  have N6 := Lib.hid (NB.out _ _ _ y6)
  clear y6 M6 M0 Sz HB2 X2 Y2 NB hnil
  refine N6.out.mono ?_
  rintro e w7 ⟨A7, c7, rfl, y7, b7⟩
  have HB7 := Lib.hid (HB6.out.trans (b7.mono HB6.out.size))
  have X7 := Lib.hid (X6.out.below b7)
  have Y7 := Lib.hid (Y6.out.below b7)
  have Z7 := Lib.hid y7
  have N7 := Lib.hid (NO.out _ _ _ Y7.out (m : Int))
  rw [Back.out] at N7
  clear y7 b7 HB6 X6 Y6 N6
  go_wp2_with fail
  refine N7.out.mono ?_
  rintro e w8 ⟨A8, c8, rfl, y8, b8⟩
  have HB8 := Lib.hid (HB7.out.trans (b8.mono HB7.out.size))
  have X8 := Lib.hid (X7.out.below b8)
  have Y8 := Lib.hid (Y7.out.below b8)
  have Z8 := Lib.hid (Z7.out.below b8)
  have U8 := Lib.hid y8
  have N8 := Lib.hid (NO.out _ _ _ Y8.out n)
  clear y8 b8 HB7 X7 Y7 Z7 N7
  obtain ⟨st, hst⟩ : ∃ st, st = bstr l := ⟨_, rfl⟩
  obtain ⟨zs, hzs⟩ : ∃ zs, zs = bstr z := ⟨_, rfl⟩
  have Hst := Lib.hid hst
  have Hzs := Lib.hid hzs
  have hml : l.length = m := Hm.out.symm
  clear hst hzs NO
  rw [show (l, 0).1.length = m from hml]
  clear hml
  by_cases hn : n = (m : Int)
  · subst hn
    rw [Back.out] at N8
    go_wp2_with fail
    refine N8.out.mono ?_
    rintro e w9 ⟨A9, c9, rfl, y9, b9⟩
    have HB9 := Lib.hid (HB8.out.trans (b9.mono HB8.out.size))
    have k1 := conv_b (cap := c2) (Y8.out.below b9).sl
    have k2 := conv_b (cap := c7) (Z8.out.below b9).sl
    have k3 := conv_b (cap := c8) (U8.out.below b9).sl
    have k4 := conv_b (cap := c) (X8.out.below b9).sl
    rw [← Hzn.out, ← Hzs.out] at k1 k2
    rw [← Hm.out, ← Hst.out] at k3 k4
    clear y9 b9 HB8 X8 Y8 Z8 U8 N8
    go_wp2_with fail
    go_ret
    exact ⟨rfl, HB9.out⟩
  · obtain ⟨E, hE, he⟩ := Other.out hn
    rw [he] at N8
    have z1 : (n == (m : Int)) = false := by rw [beq_eq_false_iff_ne]; exact hn
    have z2 : (n != (m : Int)) = true := by rw [bne_iff_ne]; exact hn
    have z3 : ((E : Int) == 0) = false := by rw [beq_eq_false_iff_ne]; omega
    have z4 : ((E : Int) != 0) = true := by rw [bne_iff_ne]; omega
    have z3' : (E == 0) = false := by rw [beq_eq_false_iff_ne]; omega
    have z4' : (E != 0) = true := by rw [bne_iff_ne]; omega
    clear hn hE he
    go_wp2_with fail
    refine N8.out.mono ?_
    rintro e w9 ⟨A9, c9, rfl, y9, b9⟩
    have HB9 := Lib.hid (HB8.out.trans (b9.mono HB8.out.size))
    have k1 := conv_b (cap := c2) (Y8.out.below b9).sl
    have k2 := conv_b (cap := c7) (Z8.out.below b9).sl
    have k3 := conv_b (cap := c8) (U8.out.below b9).sl
    have k4 := conv_b (cap := c) (X8.out.below b9).sl
    rw [← Hzn.out, ← Hzs.out] at k1 k2
    rw [← Hm.out, ← Hst.out] at k3 k4
    clear y9 b9 HB8 X8 Y8 Z8 U8 N8
    go_wp2_with fail
    go_ret
    exact ⟨rfl, HB9.out⟩
end Go.Proofs.Ytnkgcibdibgmjaa
