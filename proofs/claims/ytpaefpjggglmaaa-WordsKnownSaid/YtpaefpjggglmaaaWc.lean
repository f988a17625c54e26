/- What the program's words.Unpack and words.Pack are held to (as hypotheses, to be met by its walks); the statements' own check that the program is awake; WordsRead. -/
import Derived.Test.YtpaefpjggglmaaaRunpw2
import Derived.Test.YtpaefpjggglmaaaStr
namespace Go.Proofs.Ytpaefpjggglmaaa
open Go.RowKit

/-- The program's Unpack says what the bytes say. -/
def WUnpackC : Prop := ∀ (w : World) (A : Option Addr) (c : Nat) (l : List Nat) (n : Int) (N : Nat), By w A c l → l.length ≤ 100000 → N = l.length →
  Calls Try.prog 9 #[.slice A N c, .int .i64 n] w (UnpR (Wd.unpack l n) w)
/-- The program's Pack is a function of the bytes. -/
def WPackC (P : List Nat → List Nat) : Prop := ∀ (w : World) (A : Option Addr) (c : Nat) (l : List Nat) (N : Nat), By w A c l → l.length ≤ 100000 → N = l.length →
  Calls Try.prog 11 #[.slice A N c] w fun e w' => ∃ A' c', e = .returned (.slice A' (P l).length c') ∧ By w' A' c' (P l) ∧ Below w.heap.size w w'
/-- It gives the bytes back, and is not too long; nothing for too many. -/
structure WPackOk (P : List Nat → List Nat) : Prop where
  back : ∀ l : List Nat, (∀ x ∈ l, x < 256) → l.length ≤ 4096 → Wd.unpack (P l) l.length = (l, 0)
  most : ∀ l : List Nat, (∀ x ∈ l, x < 256) → l.length ≤ 4096 → (P l).length ≤ 272 + (11 * l.length + 7) / 8
  none : ∀ l : List Nat, 4096 < l.length → P l = []
theorem wback_of (hU : WUnpackC) {P : List Nat → List Nat} (hP : WPackC P) (hO : WPackOk P) : ∀ l : List Nat, (∀ x ∈ l, x < 256) → l.length ≤ 4096 →
    (P l).length ≤ 272 + (11 * l.length + 7) / 8 ∧
    (∀ w A c, By w A c l → Calls Try.prog 11 #[.slice A l.length c] w fun e w' => ∃ A' c', e = .returned (.slice A' (P l).length c') ∧ By w' A' c' (P l) ∧ Below w.heap.size w w') ∧
    (∀ w A c, By w A c (P l) → Calls Try.prog 9 #[.slice A (P l).length c, .int .i64 (l.length : Int)] w fun e w' => ∃ A' c', e = .returned (.tuple #[.slice A' l.length c', .int .i64 0]) ∧ By w' A' c' l ∧ Below w.heap.size w w') ∧
    (∀ w A c, By w A c (P l) → Calls Try.prog 10 #[.slice A (P l).length c, .int .i64 (l.length : Int)] w fun e w' => ∃ A' c', e = .returned (.tuple #[.slice A' l.length c', .int .i64 0]) ∧ By w' A' c' l ∧ Below w.heap.size w w') := by
  intro l hl hlen
  have hm := hO.most l hl hlen
  have hb := hO.back l hl hlen
  refine ⟨hm, fun w A c h => hP w A c l l.length h (by omega) rfl, fun w A c h => ?_, fun w A c h => ?_⟩
  · exact (hU w A c (P l) l.length (P l).length h (by omega) rfl).mono fun e w' h => unpR_is hb h
  · exact (runpw_by h (by omega) l.length (P l).length rfl).mono fun e w' h => unpR_is hb h
/-- The bytes of the check. -/
def abra : List Nat := [97, 98, 114, 97, 99, 97, 100, 97, 98, 114, 97]
theorem bstr_abra : bstr abra = ⟨#[97, 98, 114, 97, 99, 97, 100, 97, 98, 114, 97]⟩ := by kernel_rfl
theorem nones_unpack : Wd.unpack (List.replicate 16 15) 0 = ([], 0) := by decide +kernel
/-- A row of which the first k bytes are set. -/
def setB (x n : Nat) : Nat → List Nat
  | 0 => List.replicate n 0
  | k + 1 => (setB x n k).set k x
theorem setB_len (x n : Nat) : ∀ k, (setB x n k).length = n
  | 0 => List.length_replicate
  | k + 1 => by rw [setB, List.length_set]; exact setB_len x n k

set_option maxRecDepth 4000 in
set_option maxHeartbeats 4000000 in
theorem wawake_any (hU : WUnpackC) {P : List Nat → List Nat} (hP : WPackC P) (hO : WPackOk P) (w : World) :
    Calls Try.prog 8 #[] w fun e w' => e = .returned (.bool true) ∧ Below w.heap.size w w' := by
  have kc := @run_const
  have hmk : ∀ w, (Instr.makeSlice 22 (.int .i64 16) (.int .i64 16)).run Try.prog w = .ok (.slice (some ⟨w.heap.size, 0, none⟩) 16 16) (w.alloc (.cells (zcells 16) 5)) := fun w => make_bytes 16 (by decide) w
  obtain ⟨hlen, p1, p2, p3⟩ := wback_of hU hP hO abra (by decide) (by decide)
  rw [show abra.length = 11 from rfl] at p1 p2 p3
  have P1 := Lib.hid p1
  have P3 := Lib.hid p3
  have HU := Lib.hid (fun w A c h => (hU w A c (List.replicate 16 15) 0 16 h (by decide) rfl).mono fun e w' h => unpR_is nones_unpack h)
  obtain ⟨C0, hC0⟩ : ∃ C, C = (#[.int .u8 97, .int .u8 98, .int .u8 114, .int .u8 97, .int .u8 99, .int .u8 97, .int .u8 100, .int .u8 97, .int .u8 98, .int .u8 114, .int .u8 97] : Array Value) := ⟨_, rfl⟩
  obtain ⟨w0, h0⟩ : ∃ x, x = w.alloc (.cells C0 5 (11, 12)) := ⟨_, rfl⟩
  have by0 : By w0 (some ⟨w.heap.size, 0, none⟩) 11 abra := by
    rw [h0]
    refine ⟨.inr ⟨w.heap.size, 0, rfl, by simp, fun i hi => ?_⟩, by decide, by decide, by simp, by decide⟩
    rw [Nat.zero_add, cell_fresh rfl, hC0]
    have : i < 11 := by simpa [byts, abra] using hi
    have : i = 0 ∨ i = 1 ∨ i = 2 ∨ i = 3 ∨ i = 4 ∨ i = 5 ∨ i = 6 ∨ i = 7 ∨ i = 8 ∨ i = 9 ∨ i = 10 := by omega
    rcases this with rfl | rfl | rfl | rfl | rfl | rfl | rfl | rfl | rfl | rfl | rfl <;> rfl
  have e0 : w.alloc (.cells C0 5 (11, 12)) = w0 := h0.symm
  have HB0 := Lib.hid (show Below w.heap.size w w0 by rw [h0]; exact (Below.refl _ _).alloc (Nat.le_refl _) _)
  have N1 := Lib.hid (P1.out w0 _ _ by0)
  rw [hC0] at e0
  clear hU hP hO p1 p2 p3 h0 by0 hC0
  go_enter Try.func8, Try.ntmps8
  go_wp2_with fail
  refine N1.out.mono ?_
  rintro e w1 ⟨A1, c1, rfl, by1, hb1⟩
  have HB1 := Lib.hid (HB0.out.trans (hb1.mono HB0.out.size))
  have N2 := Lib.hid (P3.out w1 _ _ by1)
  generalize (P abra).length = zl at *
  clear by1 hb1 HB0 N1 e0 kc
  go_wp2_with fail
  refine N2.out.mono ?_
  rintro e w2 ⟨A2, c2, rfl, by2, hb2⟩
  have HB2 := Lib.hid (HB1.out.trans (hb2.mono HB1.out.size))
  have Y2 := Lib.hid by2
  have hbz := byblk_zeros w2 16
  obtain ⟨W2, hW2⟩ : ∃ W, W = w2.alloc (.cells (zcells 16) 5) := ⟨_, rfl⟩
  have e2 : w2.alloc (.cells (zcells 16) 5) = W2 := hW2.symm
  have B2 := Lib.hid (show ByBlk W2 w2.heap.size (setB 15 16 0) by rw [hW2]; exact hbz)
  have hal : Below w2.heap.size w2 W2 := by rw [hW2]; exact (Below.refl _ _).alloc (Nat.le_refl _) _
  have HBz := Lib.hid hal
  clear by2 hb2 HB1 N2 hbz hW2 hal
  generalize hg : w2.heap.size = g at *
  go_wp2_with fail
  go_loopw [5] (fun i wr => ∃ k : Nat, k ≤ 16 ∧ i = .int .i64 k ∧ ByBlk wr g (setB 15 16 k) ∧ Below g w2 wr) (fun i _ => 16 - (intOf i).toNat)
  case atStart => exact ⟨0, by decide, rfl, B2.out, HBz.out⟩
  case round =>
    obtain ⟨k, hk, rfl, b, hb⟩ := hrel
    clear B2 HBz e2
    by_cases hlt : k < 16
    · have q0 : decide ((k : Int) < 16) = true := by rw [decide_eq_true_eq]; omega
      have q0' : decide (k < 16) = true := by rw [decide_eq_true_eq]; omega
      have cx := byblk_cell b (i := k) (by rw [setB_len]; exact hlt)
      have fx : wr.frozen? ⟨g, k, none⟩ = false := Blk.frozen b k
      have st := Lib.hid (byblk_set b k 15 (v := .int .u8 15) rfl)
      have Hb := Lib.hid (hb.setCell (p := ⟨g, k, none⟩) (Nat.le_refl _) (.int .u8 15))
      clear b hb
      generalize (setB 15 16 k).getD k 0 = y at *
      go_wp2_with fail
      go_roundw
      case rel => exact ⟨k + 1, by omega, by go_num, st.out, Hb.out⟩
      case measure => simp [intOf]; omega
    · have hk16 : k = 16 := by omega
      subst hk16
      have q0 : decide ((16 : Int) < 16) = false := by simp
      have hby : By wr (some ⟨g, 0, none⟩) 16 (List.replicate 16 15) := by
        have e : setB 15 16 16 = List.replicate 16 15 := by decide +kernel
        rw [e] at b
        exact ⟨byblk_sl b, by decide, by decide, by simp, by decide⟩
      have N3 := Lib.hid (HU.out wr _ _ hby)
      have hbw : Below w2.heap.size w2 wr := by rw [hg]; exact hb
      have HB3 := Lib.hid (HB2.out.trans (hbw.mono HB2.out.size))
      have Y3 := Lib.hid (Y2.out.below hbw)
      clear b hb hby HU hbw HB2 Y2
      go_wp2_with fail
      refine N3.out.mono ?_
      rintro e w4 ⟨A4, c4, rfl, by4, hb4⟩
      have HB4 := Lib.hid (HB3.out.trans (hb4.mono HB3.out.size))
      have k1 := conv_b (cap := c2) (Y3.out.below hb4).sl
      rw [show abra.length = 11 from rfl, bstr_abra] at k1
      clear by4 hb4 HB3 Y3 N3
      rw [show ([] : List Nat).length = 0 from rfl]
      go_wp2_with fail
      go_ret
      exact ⟨rfl, HB4.out⟩

set_option maxRecDepth 4000 in
set_option maxHeartbeats 4000000 in
theorem wreads_any (hU : WUnpackC) {P : List Nat → List Nat} (hP : WPackC P) (hO : WPackOk P) {w : World} {A : Option Addr} {c : Nat} {l : List Nat} (hsl : Sl w w.heap.size A (byts l)) (hl : ∀ x ∈ l, x < 256) (hc : l.length ≤ c) (hA : A = none → c = 0) (n : Int) :
    Calls Try.prog 3 #[.slice A l.length c, .int .i64 n] w fun e w' => e = .returned (.bool true) ∧ Below w.heap.size w w' := by
  have AW := Lib.hid (fun w => wawake_any hU hP hO w)
  have HU := Lib.hid hU
  clear hU hP hO
  by_cases h5 : 2000 < l.length
  · have q1 : decide (2000 < (l.length : Int)) = true := by simp; omega
    have q2 : decide (2000 < l.length) = true := by simpa using h5
    clear hsl hl hA hc h5
    generalize l.length = n at *
    go_enter Try.func3, Try.ntmps3
    go_wp2_with fail
    refine (AW.out _).mono ?_
    rintro e w1 ⟨rfl, hb⟩
    go_wp2_with fail
    go_ret
    exact ⟨rfl, hb⟩
  have q1 : decide (2000 < (l.length : Int)) = false := by simp; omega
  have q2 : decide (2000 < l.length) = false := by simpa using h5
  have hby : By w A c l := ⟨hsl, hl, hc, hA, by omega⟩
  have HY := Lib.hid hby
  have Hlen := Lib.hid (show l.length ≤ 100000 by omega)
  obtain ⟨N, hN⟩ : ∃ N, N = l.length := ⟨_, rfl⟩
  have HN := Lib.hid hN
  rw [← hN] at q1 q2 ⊢
  clear hsl hl hA hc h5 hby hN
  go_enter Try.func3, Try.ntmps3
  go_wp2_with fail
  refine (AW.out _).mono ?_
  rintro e w1 ⟨rfl, hb⟩
  have HB := Lib.hid hb
  have HY1 := Lib.hid (HY.out.below hb)
  have N1 := Lib.hid (HU.out w1 A c l n N HY1.out Hlen.out HN.out)
  have M1 := Lib.hid (fun W (h : By W A c l) => runpw_by h Hlen.out n N HN.out)
  generalize Wd.unpack l n = R at *
  obtain ⟨D, E⟩ := R
  clear hb HY AW HU
  go_wp2_with fail
  refine N1.out.mono ?_
  rintro e w2 ⟨A2, c2, rfl, by2, hb2⟩
  have HB2 := Lib.hid (HB.out.trans (hb2.mono HB.out.size))
  have HY2 := Lib.hid (HY1.out.below hb2)
  have D2 := Lib.hid by2
  clear by2 hb2 HB HY1 N1
  go_wp2_with fail
  refine (M1.out _ HY2.out).mono ?_
  rintro e w3 ⟨A3, c3, rfl, by3, hb3⟩
  have HB3 := Lib.hid (HB2.out.trans (hb3.mono HB2.out.size))
  have k1 := conv_b (cap := c2) (D2.out.below hb3).sl
  have k2 := conv_b (cap := c3) by3.sl
  clear by3 hb3 HB2 HY2 D2 M1
  simp only at k1 k2
  generalize bstr D = s at *
  generalize D.length = m at *
  go_wp2_with fail
  go_ret
  exact ⟨rfl, HB3.out⟩
end Go.Proofs.Ytpaefpjggglmaaa
