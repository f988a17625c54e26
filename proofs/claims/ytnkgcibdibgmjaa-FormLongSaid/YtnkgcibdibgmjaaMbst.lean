/- The program's Best. -/
import Derived.Test.YtnkgcibdibgmjaaMopn
import Derived.Test.YtnkgcibdibgmjaaFixw
namespace Go.Proofs.Ytnkgcibdibgmjaa
open Go.RowKit Flt

/-- How Best ends. -/
def BestR (R : Nat × List Nat) (w : World) (e : Ending) (w' : World) : Prop := ∃ A' c', e = .returned (.tuple #[.int .i64 (R.1 : Int), .slice A' R.2.length c']) ∧ By w' A' c' R.2 ∧ Below w.heap.size w w'
theorem bestR_is {R : Nat × List Nat} {w w' : World} {k n : Nat} {z : List Nat} {A : Option Addr} {c : Nat} (h : R = (k, z)) (hn : n = z.length) (hy : By w' A c z) (hb : Below w.heap.size w w') : BestR R w (.returned (.tuple #[.int .i64 (k : Int), .slice A n c])) w' := by
  subst h; subst hn; exact ⟨A, c, rfl, hy, hb⟩

/-- A row of bytes in memory that is older than nothing of the caller's. -/
def RowR (R : List Nat) (w : World) (e : Ending) (w' : World) : Prop := ∃ A' c', e = .returned (.slice A' R.length c') ∧ By w' A' c' R ∧ Below w.heap.size w w'
theorem rowR_is {R : List Nat} {w w' : World} {n : Nat} {A : Option Addr} {c : Nat} (hn : n = R.length) (hy : By w' A c R) (hb : Below w.heap.size w w') : RowR R w (.returned (.slice A n c)) w' := by
  subst hn; exact ⟨A, c, rfl, hy, hb⟩
/-- The format of two steps, or nothing. -/
def twoV (P2 : List Nat → List Nat) (one : List Nat) : List Nat := if 4096 < one.length then [] else Mo.both P2 one

set_option maxRecDepth 8000 in
set_option maxHeartbeats 8000000 in
theorem two_of {P1 P2 : List Nat → List Nat} (h2 : WPackC P2) (hM : MoOk P1 P2) {w : World} {A : Option Addr} {c : Nat} {one : List Nat} (h : By w A c one) (hlen : one.length ≤ 5000) (n1 : Nat) (hn1 : n1 = one.length) :
    Calls Try.prog 16 #[.slice A n1 c] w (RowR (twoV P2 one) w) := by
  obtain ⟨R, hR⟩ : ∃ R, R = twoV P2 one := ⟨_, rfl⟩
  rw [← hR]
  unfold twoV at hR
  rw [← hn1] at hR
  by_cases hz : 4096 < n1
  · rw [if_pos hz] at hR
    have q1 : decide (4096 < (n1 : Int)) = true := by rw [decide_eq_true_eq]; omega
    have q1' : decide (4096 < n1) = true := by rw [decide_eq_true_eq]; exact hz
    subst hR
    clear h hlen hn1 hz h2 hM
    go_enter Try.func16, Try.ntmps16
    go_wp2_with fail
    go_ret
    exact rowR_is rfl (By.none _) (Below.refl _ _)
  rw [if_neg hz] at hR
  have q1 : decide (4096 < (n1 : Int)) = false := by rw [decide_eq_false_iff_not]; omega
  have q1' : decide (4096 < n1) = false := by rw [decide_eq_false_iff_not]; exact hz
  obtain ⟨i0, hi0, hz0, hs0, hb0⟩ := byte_parts (P := Try.prog) (e := 5) (by kernel_rfl)
  have hmost2 := hM.two.most one h.lt (by omega)
  have N4 := Lib.hid (fun W A' c' (hy : By W A' c' one) => h2 W A' c' one one.length hy (by omega) rfl)
  have hboth := Mo.both_len (P2 := P2) one
  have htwo : Mo.both P2 one = [one.length % 256, one.length / 256] ++ P2 one := rfl
  rw [← hR] at hboth htwo
  obtain ⟨n2, hn2⟩ : ∃ n, n = (P2 one).length := ⟨_, rfl⟩
  rw [← hn1] at N4 hmost2 htwo
  rw [← hn2] at N4 hmost2 hboth
  have Hn2 := Lib.hid hn2
  have Htwo := Lib.hid htwo
  have Htb := Lib.hid (show R.length = n2 + 2 from hboth)
  obtain ⟨tn, htn⟩ : ∃ n, n = n2 + 2 := ⟨_, rfl⟩
  have Htn := Lib.hid htn
  obtain ⟨B0, hB0⟩ : ∃ B, B = n1 % 256 := ⟨_, rfl⟩
  obtain ⟨B1, hB1⟩ : ∃ B, B = n1 / 256 := ⟨_, rfl⟩
  have s1 : IntKind.u8.wrap (n1 : Int) = (B0 : Int) := by rw [IntKind.wrap_u8]; omega
  have s2 : (n1 : Int) / 256 = (B1 : Int) := by omega
  have hB1b : B1 < 256 := by omega
  have s3 : IntKind.u8.wrap (B1 : Int) = (B1 : Int) := by rw [IntKind.wrap_u8]; omega
  have hB0b : B0 < 256 := by omega
  have HB01 := Lib.hid (show n1 % 256 = B0 ∧ n1 / 256 = B1 from ⟨hB0.symm, hB1.symm⟩)
  have hn2b : n2 ≤ 6000 := by omega
  have O4 := Lib.hid h
  clear hR hlen hn1 h2 hM hmost2 hboth htwo hn2 htn hB0 hB1 hz h
  obtain ⟨g, hg⟩ : ∃ g, w.heap.size = g := ⟨_, rfl⟩
  obtain ⟨W5, hW5⟩ : ∃ W, W = w.alloc (.cells #[.int .u8 (B0 : Int), .int .u8 (B1 : Int)] 5) := ⟨_, rfl⟩
  have e5 : w.alloc (.cells #[.int .u8 (B0 : Int), .int .u8 (B1 : Int)] 5) = W5 := hW5.symm
  have hal : Below w.heap.size w W5 := by rw [hW5]; exact (Below.refl _ _).alloc (Nat.le_refl _) _
  have M5 := Lib.hid (show Mine w W5 (some ⟨g, 0, none⟩) 2 2 [B0, B1] from ⟨byblk_own (show ByBlk W5 g [B0, B1] by rw [hW5, ← hg]; exact Blk.new _ _ _) (by omega) rfl (by decide), hal⟩)
  have N6 := Lib.hid (N4.out _ _ _ (O4.out.below hal))
  clear hW5 hal N4
  go_enter Try.func16, Try.ntmps16
  go_wp2_with fail
  refine N6.out.mono ?_
  rintro e w6 ⟨A4, c4, rfl, y6, b6⟩
  have M6 := Lib.hid (M5.out.below b6)
  have P6 := Lib.hid y6
  have Lq := Lib.hid (show (byts (P2 one)).length = n2 by rw [byts_length, Hn2.out])
  have hc4 := P6.out.cap
  rw [← Hn2.out] at hc4
  have hnil := P6.out.nil
  clear y6 b6 M5 N6 e5 hg
  go_wp2_with (at_builtin; refine wpList_append_sl (base := w.heap.size) _ rfl (.tmp 13) (.tmp 15) _ rfl Try.underlying22 hi0 hz0 hs0 hb0 rfl rfl M6.out.own rfl Lq.out.symm hnil P6.out.sl (byts_one _) (by rw [Lq.out]; exact hc4) (by rw [Lq.out]; unfold maxLen; omega) (by rw [Lq.out]; omega) M6.out.bel.size ?_; intro v7 w7 k1 k2 _; obtain ⟨A5, c5, rfl, m7⟩ := M6.out.app (r := P2 one) Hn2.out.symm (show 2 + n2 = tn by have := Htn.out; omega) k1 k2; have M7 := Lib.hid m7; clear k1 k2 m7)
  have T5 := Lib.hid (By.of_own M7.out.own (show ∀ x ∈ [B0, B1] ++ P2 one, x < 256 from fun y hy => by
    rcases List.mem_append.1 hy with h | h
    · simp only [List.mem_cons, List.not_mem_nil, or_false] at h; omega
    · exact P6.out.lt y h) (by rw [List.length_append, ← Hn2.out]; simp; omega))
  have htw2 := Htwo.out
  rw [HB01.out.1, HB01.out.2] at htw2
  rw [← htw2] at T5
  go_ret
  exact rowR_is (by rw [Htb.out, Htn.out]) T5.out M7.out.bel

set_option maxRecDepth 8000 in
set_option maxHeartbeats 8000000 in
theorem best_of {P1 P2 : List Nat → List Nat} (h1 : PackC P1) (h2 : WPackC P2) (hM : MoOk P1 P2) {w : World} {A : Option Addr} {c : Nat} {l : List Nat} (h : By w A c l) (hlen : l.length ≤ 100000) {x : Nat} (hx : x < 2 ^ 64) (m : Nat) (hm : m = l.length) :
    Calls Try.prog 8 #[.slice A m c, .float .f64 x] w (BestR (Mo.best P1 P2 x l) w) := by
  obtain ⟨R, hR⟩ : ∃ R, R = Mo.best P1 P2 x l := ⟨_, rfl⟩
  rw [← hR]
  unfold Mo.best at hR
  have HY := Lib.hid h
  by_cases h4 : 4096 < l.length
  · rw [if_pos h4] at hR
    have Hr := Lib.hid hR
    have q1 : decide (4096 < (m : Int)) = true := by rw [decide_eq_true_eq]; omega
    have q1' : decide (4096 < m) = true := by rw [decide_eq_true_eq]; omega
    clear hR h4 h hlen hm h1 h2 hM
    go_enter Try.func8, Try.ntmps8
    go_wp2_with fail
    go_returns
    exact bestR_is Hr.out rfl (By.none _) (Below.refl _ _)
  rw [if_neg h4] at hR
  have hl := h.lt
  have hmost := pack_most hM.one hl (by omega)
  have hb1 := hM.lt l hl
  have N3 := Lib.hid (h1 w A c l m h hlen hm)
  obtain ⟨one, hone⟩ : ∃ one, one = P1 l := ⟨_, rfl⟩
  rw [← hone] at N3 hmost hb1 hR
  have hmost2 := hM.two.most one hb1
  have N4 := Lib.hid (fun W A' c' (hy : By W A' c' one) => two_of h2 hM hy (by omega) one.length rfl)
  have hboth := Mo.both_len (P2 := P2) one
  obtain ⟨two, htw⟩ : ∃ two, two = twoV P2 one := ⟨_, rfl⟩
  rw [← htw] at N4
  obtain ⟨n1, hn1⟩ : ∃ n, n = one.length := ⟨_, rfl⟩
  obtain ⟨tn, htn⟩ : ∃ n, n = two.length := ⟨_, rfl⟩
  -- what the three tests say
  have hgo : (one.length ≤ 4096 ∧ (Mo.both P2 one).length < one.length ∧ worthB x ((Mo.both P2 one).length : Int) (l.length : Int) = true) ↔ (0 < tn ∧ tn < n1 ∧ worthB x (tn : Int) (m : Int) = true) := by
    rw [htn, hn1, hm, htw]
    unfold twoV
    by_cases c1 : 4096 < one.length
    · rw [if_pos c1]
      constructor
      · rintro ⟨a, _⟩; omega
      · rintro ⟨a, _⟩; simp at a
    · rw [if_neg c1]
      constructor
      · rintro ⟨_, a, b⟩; exact ⟨by omega, a, b⟩
      · rintro ⟨_, a, b⟩; exact ⟨by omega, a, b⟩
  have hto : (0 < tn ∧ tn < n1 ∧ worthB x (tn : Int) (m : Int) = true) → Mo.both P2 one = two := by
    rw [htw]
    intro hh
    unfold twoV
    by_cases c1 : 4096 < one.length
    · exfalso
      have : two = [] := by rw [htw]; unfold twoV; rw [if_pos c1]
      rw [htn, this] at hh
      simp at hh
    · rw [if_neg c1]
  have htb : tn ≤ 7000 := by
    rw [htn, htw]
    unfold twoV
    by_cases c1 : 4096 < one.length
    · rw [if_pos c1]; simp
    · rw [if_neg c1, hboth]; have := hmost2 (by omega); omega
  rw [← hn1] at N3 N4 hmost
  rw [← hm] at hmost h4
  have q1 : decide (4096 < (m : Int)) = false := by rw [decide_eq_false_iff_not]; omega
  have q1' : decide (4096 < m) = false := by rw [decide_eq_false_iff_not]; omega
  have hn1b : n1 ≤ 5000 := by omega
  have hmb : m ≤ 4096 := by omega
  have W1 := Lib.hid (fun W => worth_any hx (n1 : Int) (m : Int) (by omega) W)
  have W2 := Lib.hid (fun W => worth_any hx (tn : Int) (m : Int) (by omega) W)
  have CL := Lib.hid (fun W A' c' (hy : By W A' c' l) => yclone_any hy m hm)
  have Hm := Lib.hid hm
  have Hn1 := Lib.hid hn1
  have Htn := Lib.hid htn
  have HR := Lib.hid (show R = if 0 < tn ∧ tn < n1 ∧ worthB x (tn : Int) (m : Int) = true then (2, two) else if worthB x (n1 : Int) (m : Int) = true then (1, one) else (0, l) from by
    rw [hR]
    by_cases c1 : 0 < tn ∧ tn < n1 ∧ worthB x (tn : Int) (m : Int) = true
    · rw [if_pos (hgo.2 c1), if_pos c1, hto c1]
    · rw [if_neg (fun hh => c1 (hgo.1 hh)), if_neg c1, hn1, hm])
  have HM := Lib.hid (show 0 < tn ∨ tn = 0 by omega)
  clear hR h hlen hm h1 h2 hM hl hmost hb1 hone hmost2 hboth htw hn1 htn h4 hgo hto
  go_enter Try.func8, Try.ntmps8
  go_wp2_with fail
  refine N3.out.mono ?_
  rintro e w4 ⟨A3, c3, rfl, y4, b4⟩
  have X4 := Lib.hid (HY.out.below b4)
  have O4 := Lib.hid y4
  have B4 := Lib.hid b4
  have N5 := Lib.hid (N4.out w4 A3 c3 y4)
  clear y4 b4 N3 N4 HY
  go_wp2_with fail
  refine N5.out.mono ?_
  rintro e w5 ⟨A5, c5, hee, y5, b5⟩
  rw [← Htn.out] at hee
  subst hee
  have X5 := Lib.hid (X4.out.below b5)
  have O5 := Lib.hid (O4.out.below b5)
  have T5 := Lib.hid y5
  have HB5 := Lib.hid (B4.out.trans (b5.mono B4.out.size))
  have C5 := Lib.hid (CL.out w5 A c X5.out)
  have hr := HR.out
  clear y5 b5 X4 O4 B4 N5 CL
  by_cases d0 : 0 < tn
  · have v0 : decide (0 < (tn : Int)) = true := by rw [decide_eq_true_eq]; omega
    have v0' : decide (0 < tn) = true := by rw [decide_eq_true_eq]; omega
    by_cases d1 : tn < n1
    · have v1 : decide ((tn : Int) < (n1 : Int)) = true := by rw [decide_eq_true_eq]; omega
      have v1' : decide (tn < n1) = true := by rw [decide_eq_true_eq]; omega
      by_cases d2 : worthB x (tn : Int) (m : Int) = true
      · rw [if_pos ⟨d0, d1, d2⟩] at hr
        have Hr := Lib.hid hr
        rw [d2] at W2
        clear hr d0 d1 d2
        go_wp2_with (go_at_call 12; ((with_reducible refine (W2.out _).mono ?_); rintro e w' ⟨rfl, rfl⟩))
        go_returns
        exact bestR_is Hr.out Htn.out T5.out HB5.out
      · rw [if_neg (fun h => d2 h.2.2)] at hr
        rw [show worthB x (tn : Int) (m : Int) = false by simpa using d2] at W2
        clear d0 d1 d2
        by_cases d3 : worthB x (n1 : Int) (m : Int) = true
        · rw [if_pos d3] at hr
          have Hr := Lib.hid hr
          rw [d3] at W1
          clear hr d3
          go_wp2_with (first
            | (go_at_call 12; ((with_reducible refine (W2.out _).mono ?_); rintro e w' ⟨rfl, rfl⟩))
            | (go_at_call 12; ((with_reducible refine (W1.out _).mono ?_); rintro e w' ⟨rfl, rfl⟩)))
          go_returns
          exact bestR_is Hr.out Hn1.out O5.out HB5.out
        · rw [if_neg d3] at hr
          have Hr := Lib.hid hr
          rw [show worthB x (n1 : Int) (m : Int) = false by simpa using d3] at W1
          clear hr d3
          go_wp2_with (first
            | (go_at_call 12; ((with_reducible refine (W2.out _).mono ?_); rintro e w' ⟨rfl, rfl⟩))
            | (go_at_call 12; ((with_reducible refine (W1.out _).mono ?_); rintro e w' ⟨rfl, rfl⟩)))
          refine C5.out.mono ?_
          rintro e w6 ⟨A6, c6, rfl, y6, b6⟩
          have Fin := Lib.hid (bestR_is Hr.out Hm.out y6 (HB5.out.trans (b6.mono HB5.out.size)))
          clear y6 b6 C5 X5 O5 T5 Hr
          go_wp2_with fail
          go_returns
          exact Fin.out
    · have v1 : decide ((tn : Int) < (n1 : Int)) = false := by rw [decide_eq_false_iff_not]; omega
      have v1' : decide (tn < n1) = false := by rw [decide_eq_false_iff_not]; omega
      rw [if_neg (fun h => d1 h.2.1)] at hr
      clear d0 d1
      by_cases d3 : worthB x (n1 : Int) (m : Int) = true
      · rw [if_pos d3] at hr
        have Hr := Lib.hid hr
        rw [d3] at W1
        clear hr d3
        go_wp2_with (go_at_call 12; ((with_reducible refine (W1.out _).mono ?_); rintro e w' ⟨rfl, rfl⟩))
        go_returns
        exact bestR_is Hr.out Hn1.out O5.out HB5.out
      · rw [if_neg d3] at hr
        have Hr := Lib.hid hr
        rw [show worthB x (n1 : Int) (m : Int) = false by simpa using d3] at W1
        clear hr d3
        go_wp2_with (go_at_call 12; ((with_reducible refine (W1.out _).mono ?_); rintro e w' ⟨rfl, rfl⟩))
        refine C5.out.mono ?_
        rintro e w6 ⟨A6, c6, rfl, y6, b6⟩
        have Fin := Lib.hid (bestR_is Hr.out Hm.out y6 (HB5.out.trans (b6.mono HB5.out.size)))
        clear y6 b6 C5 X5 O5 T5 Hr
        go_wp2_with fail
        go_returns
        exact Fin.out
  · have v0 : decide (0 < (tn : Int)) = false := by rw [decide_eq_false_iff_not]; omega
    have v0' : decide (0 < tn) = false := by rw [decide_eq_false_iff_not]; omega
    rw [if_neg (fun h => d0 h.1)] at hr
    clear d0
    by_cases d3 : worthB x (n1 : Int) (m : Int) = true
    · rw [if_pos d3] at hr
      have Hr := Lib.hid hr
      rw [d3] at W1
      clear hr d3
      go_wp2_with (go_at_call 12; ((with_reducible refine (W1.out _).mono ?_); rintro e w' ⟨rfl, rfl⟩))
      go_returns
      exact bestR_is Hr.out Hn1.out O5.out HB5.out
    · rw [if_neg d3] at hr
      have Hr := Lib.hid hr
      rw [show worthB x (n1 : Int) (m : Int) = false by simpa using d3] at W1
      clear hr d3
      go_wp2_with (go_at_call 12; ((with_reducible refine (W1.out _).mono ?_); rintro e w' ⟨rfl, rfl⟩))
      refine C5.out.mono ?_
      rintro e w6 ⟨A6, c6, rfl, y6, b6⟩
      have Fin := Lib.hid (bestR_is Hr.out Hm.out y6 (HB5.out.trans (b6.mono HB5.out.size)))
      clear y6 b6 C5 X5 O5 T5 Hr
      go_wp2_with fail
      go_returns
      exact Fin.out
theorem best_has {P1 P2 : List Nat → List Nat} (h1 : PackC P1) (h2 : WPackC P2) (hM : MoOk P1 P2) : BestC P1 P2 := fun _ _ _ _ _ N h hl hN hx => best_of h1 h2 hM h hl hx N hN
end Go.Proofs.Ytnkgcibdibgmjaa
