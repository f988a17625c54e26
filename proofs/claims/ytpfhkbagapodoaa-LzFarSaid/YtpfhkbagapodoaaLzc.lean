/- What the program's Unpack, Pack and Most are held to (as hypotheses, to be met by its walks); the statements' own check that the program is awake; LzReads. -/
import Derived.Test.YtpfhkbagapodoaaRlz4
namespace Go.Proofs.Ytpfhkbagapodoaa
open Go.RowKit

/-- The program's Unpack says what the block says. -/
def UnpackC : Prop := ∀ (w : World) (A : Option Addr) (c : Nat) (l : List Nat) (n : Int) (N : Nat), By w A c l → l.length ≤ 100000 → N = l.length →
  Calls Try.prog 11 #[.slice A N c, .int .i64 n] w (UnpR (Lz.unpack l n) w)
/-- The program's Pack is a function of the bytes. -/
def PackC (P : List Nat → List Nat) : Prop := ∀ (w : World) (A : Option Addr) (c : Nat) (l : List Nat) (N : Nat), By w A c l → l.length ≤ 100000 → N = l.length →
  Calls Try.prog 13 #[.slice A N c] w fun e w' => ∃ A' c', e = .returned (.slice A' (P l).length c') ∧ By w' A' c' (P l) ∧ Below w.heap.size w w'
/-- It writes sequences that give the bytes back; nothing for too many; little for a row of one byte. -/
structure PackOk (P : List Nat → List Nat) : Prop where
  seqs : ∀ l : List Nat, (∀ x ∈ l, x < 256) → l.length ≤ 4096 → ∃ ss r, P l = Lz.enc ss r ∧ Lz.good ss [] ∧ Lz.run ss [] ++ r = l
  none : ∀ l : List Nat, 4096 < l.length → P l = []
  small : ∀ k x : Nat, 64 ≤ k → k ≤ 4096 → x < 256 → (P (List.replicate k x)).length ≤ k / 4 + 16
def MostC : Prop := ∀ (n : Nat) (z : Int) (w : World), n ≤ 4096 → z = (n : Int) → Calls Try.prog 14 #[.int .i64 z] w fun e w' => e = .returned (.int .i64 ((n + n / 255 + 16 : Nat) : Int)) ∧ w' = w

section
variable {P : List Nat → List Nat}
theorem pack_back (hO : PackOk P) {l : List Nat} (hl : ∀ x ∈ l, x < 256) (hlen : l.length ≤ 4096) : Lz.unpack (P l) l.length = (l, 0) := by
  obtain ⟨ss, r, e, hg, hr⟩ := hO.seqs l hl hlen
  rw [e]
  subst hr
  exact Lz.unpack_enc ss r hg hlen
theorem pack_most (hO : PackOk P) {l : List Nat} (hl : ∀ x ∈ l, x < 256) (hlen : l.length ≤ 4096) : (P l).length ≤ l.length + l.length / 255 + 16 := by
  obtain ⟨ss, r, e, _, hr⟩ := hO.seqs l hl hlen
  rw [e]
  subst hr
  exact Lz.enc_most
end

/-- How Unpack ends where it gives the bytes. -/
theorem unpR_is {R : List Nat × Nat} {l : List Nat} {w w' : World} {e : Ending} (h : R = (l, 0)) (hu : UnpR R w e w') : ∃ A c, e = .returned (.tuple #[.slice A l.length c, .int .i64 0]) ∧ By w' A c l ∧ Below w.heap.size w w' := by
  subst h; exact hu
theorem unpR_err {R : List Nat × Nat} {E : Nat} {w w' : World} {e : Ending} (h : R = ([], E)) (hu : UnpR R w e w') : ∃ A c, e = .returned (.tuple #[.slice A 0 c, .int .i64 (E : Int)]) ∧ By w' A c [] ∧ Below w.heap.size w w' := by
  subst h; exact hu

theorem bstr_a : bstr [97] = ⟨#[97]⟩ := by kernel_rfl
theorem bstr_12 : bstr [97, 98, 99, 97, 98, 99, 97, 98, 99, 97, 98, 99] = ⟨#[97, 98, 99, 97, 98, 99, 97, 98, 99, 97, 98, 99]⟩ := by kernel_rfl
set_option maxRecDepth 4000 in
set_option maxHeartbeats 2000000 in
theorem awake_any (hU : UnpackC) {P : List Nat → List Nat} (hP : PackC P) (hO : PackOk P) (hM : MostC) (w : World) :
    Calls Try.prog 10 #[] w fun e w' => e = .returned (.bool true) ∧ Below w.heap.size w w' := by
  have kc := @run_const
  obtain ⟨w0, h0⟩ : ∃ x, x = w.alloc (.cells #[.int .u8 16, .int .u8 97] 5) := ⟨_, rfl⟩
  have by0 : By w0 (some ⟨w.heap.size, 0, none⟩) 2 [16, 97] := by rw [h0]; exact by_lit rfl rfl (by decide) (by decide)
  have b0 : Below w.heap.size w w0 := by rw [h0]; exact (Below.refl _ _).alloc (Nat.le_refl _) _
  have N1 := Lib.hid ((hU w0 (some ⟨w.heap.size, 0, none⟩) 2 [16, 97] 1 2 by0 (by decide) rfl).mono fun e w' h => unpR_is (l := [97]) rfl h)
  have HB0 := Lib.hid b0
  have e0 : w.alloc (.cells #[.int .u8 16, .int .u8 97] 5) = w0 := h0.symm
  have HP := Lib.hid hP
  have HM := Lib.hid hM
  clear h0 by0 b0 hU hP hM
  go_enter Try.func10, Try.ntmps10
  go_wp2_with fail
  refine N1.out.mono ?_
  rintro e w1 ⟨A1, c1, rfl, by1, hb1⟩
  obtain ⟨w1b, h1b⟩ : ∃ x, x = w1.alloc (.cells #[.int .u8 97, .int .u8 98, .int .u8 99, .int .u8 97, .int .u8 98, .int .u8 99, .int .u8 97, .int .u8 98, .int .u8 99, .int .u8 97, .int .u8 98, .int .u8 99] 5 (12, 13)) := ⟨_, rfl⟩
  have by1b : By w1b (some ⟨w1.heap.size, 0, none⟩) 12 [97, 98, 99, 97, 98, 99, 97, 98, 99, 97, 98, 99] := by
    rw [h1b]
    refine ⟨.inr ⟨w1.heap.size, 0, rfl, by simp, fun i hi => ?_⟩, by decide, by decide, by simp, by decide⟩
    rw [Nat.zero_add, cell_fresh rfl]
    have : i < 12 := by simpa [byts] using hi
    have : i = 0 ∨ i = 1 ∨ i = 2 ∨ i = 3 ∨ i = 4 ∨ i = 5 ∨ i = 6 ∨ i = 7 ∨ i = 8 ∨ i = 9 ∨ i = 10 ∨ i = 11 := by omega
    rcases this with rfl | rfl | rfl | rfl | rfl | rfl | rfl | rfl | rfl | rfl | rfl | rfl <;> rfl
  have b1b : Below w1.heap.size w1 w1b := by rw [h1b]; exact (Below.refl _ _).alloc (Nat.le_refl _) _
  have HB1 := Lib.hid ((HB0.out.trans (hb1.mono HB0.out.size)).trans (b1b.mono (HB0.out.trans (hb1.mono HB0.out.size)).size))
  have Y1 := Lib.hid (by1.below b1b)
  have N2 := Lib.hid (HP.out w1b _ 12 _ 12 by1b (by decide) rfl)
  have e1 : w1.alloc (.cells #[.int .u8 97, .int .u8 98, .int .u8 99, .int .u8 97, .int .u8 98, .int .u8 99, .int .u8 97, .int .u8 98, .int .u8 99, .int .u8 97, .int .u8 98, .int .u8 99] 5 (12, 13)) = w1b := h1b.symm
  have hpb := pack_back hO (l := [97, 98, 99, 97, 98, 99, 97, 98, 99, 97, 98, 99]) (by decide) (by decide)
  have hpl := pack_most hO (l := [97, 98, 99, 97, 98, 99, 97, 98, 99, 97, 98, 99]) (by decide) (by decide)
  have Hpb := Lib.hid hpb
  have Hpl := Lib.hid hpl
  clear h1b by1b b1b by1 hb1 HB0 N1 e0 hpb hpl HP
  rw [show [97].length = 1 from rfl]
  go_wp2_with fail
  clear kc e1
  refine N2.out.mono ?_
  generalize hz : P [97, 98, 99, 97, 98, 99, 97, 98, 99, 97, 98, 99] = z at *
  rintro e w2 ⟨A2, c2, rfl, by2, hb2⟩
  have HB2 := Lib.hid (HB1.out.trans (hb2.mono HB1.out.size))
  have Y2 := Lib.hid (Y1.out.below hb2)
  have N3 := Lib.hid ((runpack_by by2 (by have := Hpl.out; simp at this; omega) 12 z.length rfl).mono fun e w' h => unpR_is (l := [97, 98, 99, 97, 98, 99, 97, 98, 99, 97, 98, 99]) Hpb.out h)
  have Hz := Lib.hid hz
  clear by2 hb2 HB1 Y1 N2 hz
  generalize z.length = m at *
  go_wp2_with fail
  refine N3.out.mono ?_
  rintro e w3 ⟨A3, c3, rfl, by3, hb3⟩
  have HB3 := Lib.hid (HB2.out.trans (hb3.mono HB2.out.size))
  have k1 := conv_b (cap := c1) (Y2.out.below hb3).sl
  rw [show [97].length = 1 from rfl, bstr_a] at k1
  have k2 := conv_b (cap := c3) by3.sl
  rw [show [97, 98, 99, 97, 98, 99, 97, 98, 99, 97, 98, 99].length = 12 from rfl, bstr_12] at k2
  rw [show [97, 98, 99, 97, 98, 99, 97, 98, 99, 97, 98, 99].length = 12 from rfl]
  clear by3 hb3 HB2 Y2 N3
  go_wp2_with fail
  refine (HM.out 0 0 _ (by decide) rfl).mono ?_
  rintro e w4 ⟨rfl, rfl⟩
  go_wp2_with fail
  go_ret
  exact ⟨rfl, HB3.out⟩

set_option maxRecDepth 4000 in
set_option maxHeartbeats 4000000 in
theorem reads_any (hU : UnpackC) {P : List Nat → List Nat} (hP : PackC P) (hO : PackOk P) (hM : MostC) {w : World} {A : Option Addr} {c : Nat} {l : List Nat} (hsl : Sl w w.heap.size A (byts l)) (hl : ∀ x ∈ l, x < 256) (hc : l.length ≤ c) (hA : A = none → c = 0) (n : Int) :
    Calls Try.prog 3 #[.slice A l.length c, .int .i64 n] w fun e w' => e = .returned (.bool true) ∧ Below w.heap.size w w' := by
  have AW := Lib.hid (fun w => awake_any hU hP hO hM w)
  have HU := Lib.hid hU
  clear hU hP hO hM
  by_cases h5 : 5000 < l.length
  · have q1 : decide (5000 < (l.length : Int)) = true := by simp; omega
    have q2 : decide (5000 < l.length) = true := by simpa using h5
    clear hsl hl hA hc h5
    generalize l.length = n at *
    go_enter Try.func3, Try.ntmps3
    go_wp2_with fail
    refine (AW.out _).mono ?_
    rintro e w1 ⟨rfl, hb⟩
    go_wp2_with fail
    go_ret
    exact ⟨rfl, hb⟩
  have q1 : decide (5000 < (l.length : Int)) = false := by simp; omega
  have q2 : decide (5000 < l.length) = false := by simpa using h5
  have hby : By w A c l := ⟨hsl, hl, hc, hA, by omega⟩
  have HY := Lib.hid hby
  have Hlen := Lib.hid (show l.length ≤ 100000 by omega)
  obtain ⟨N, hN⟩ : ∃ N, N = l.length := ⟨_, rfl⟩
  have HN := Lib.hid hN
  rw [← hN] at q1 q2 ⊢
  clear hsl hl hA hc h5 hby hN
  go_enter Try.func3, Try.ntmps3
  go_wp2_with fail
  refine (AW.out _).mono ?_
  rintro e w1 ⟨rfl, hb⟩
  have HB := Lib.hid hb
  have HY1 := Lib.hid (HY.out.below hb)
  have N1 := Lib.hid (HU.out w1 A c l n N HY1.out Hlen.out HN.out)
  have M1 := Lib.hid (fun W (h : By W A c l) => runpack_by h Hlen.out n N HN.out)
  generalize Lz.unpack l n = R at *
  obtain ⟨D, E⟩ := R
  clear hb HY AW HU
  go_wp2_with fail
  refine N1.out.mono ?_
  rintro e w2 ⟨A2, c2, rfl, by2, hb2⟩
  have HB2 := Lib.hid (HB.out.trans (hb2.mono HB.out.size))
  have HY2 := Lib.hid (HY1.out.below hb2)
  have D2 := Lib.hid by2
  clear by2 hb2 HB HY1 N1
  go_wp2_with fail
  refine (M1.out _ HY2.out).mono ?_
  rintro e w3 ⟨A3, c3, rfl, by3, hb3⟩
  have HB3 := Lib.hid (HB2.out.trans (hb3.mono HB2.out.size))
  have k1 := conv_b (cap := c2) (D2.out.below hb3).sl
  have k2 := conv_b (cap := c3) by3.sl
  clear by3 hb3 HB2 HY2 D2 M1
  simp only at k1 k2
  generalize bstr D = s at *
  generalize D.length = m at *
  go_wp2_with fail
  go_ret
  exact ⟨rfl, HB3.out⟩
end Go.Proofs.Ytpfhkbagapodoaa
