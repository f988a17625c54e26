/- LeafOpens returns true for all arguments; the memory that was there stays as it is. -/
import Derived.Test.YtpicalkcgioimaaLby
namespace Go.Proofs.Ytpicalkcgioimaa
open Go.RowKit Crc

/-- The generation and the data that Open returns. -/
def outG (l : List Nat) (k : Nat) : Nat := if openE l k = 0 then g4 l 4 else 0
def outD (l : List Nat) (k : Nat) : List Nat := if openE l k = 0 then dataB l else []
/-- How Open ends, in one form. -/
def OpenG (G : Nat) (D : List Nat) (E : Nat) (w : World) (e : Ending) (w' : World) : Prop :=
  ∃ A c, e = .returned (.tuple #[.int .i64 (G : Int), .slice A D.length c, .int .i64 (E : Int)]) ∧ By w' A c D ∧ Below w.heap.size w w'
theorem By.none (w : World) : By w none 0 [] := ⟨Sl.nil _ _ _, by simp, by simp, fun _ => rfl, by simp⟩
theorem openR_all {l : List Nat} {k : Nat} {w w' : World} {e : Ending} (hl : ∀ x ∈ l, x < 256) (h : OpenR l k w e w') : OpenG (outG l k) (outD l k) (openE l k) w e w' := by
  by_cases h0 : openE l k = 0
  · obtain ⟨A, c, he, hb, hw⟩ := openR_ok hl h0 h
    unfold outG outD
    rw [if_pos h0, if_pos h0, h0]
    exact ⟨A, c, he, hb, hw⟩
  · obtain ⟨he, hw⟩ := openR_no rfl h0 h
    unfold outG outD
    rw [if_neg h0, if_neg h0]
    exact ⟨none, 0, he, By.none _, hw⟩
theorem open_all {w : World} {A : Option Addr} {c : Nat} {l : List Nat} (h : By w A c l) (k : Nat) (n : Nat) (hn : n = l.length) :
    Calls Try.prog 14 #[.slice A n c, .int .u8 (k : Int)] w (OpenG (outG l k) (outD l k) (openE l k) w) := (open_by h k _ rfl n hn).mono fun _ _ h' => openR_all h.lt h'
theorem ropen_all {w : World} {A : Option Addr} {c : Nat} {l : List Nat} (h : By w A c l) (k : Nat) (n : Nat) (hn : n = l.length) :
    Calls Try.prog 16 #[.slice A n c, .int .u8 (k : Int)] w (OpenG (outG l k) (outD l k) (openE l k) w) := (ropen_by h k _ rfl n hn).mono fun _ _ h' => openR_all h.lt h'
/-- The two values of Size. -/
theorem sizeV_parts (l : List Nat) : ∃ X Y : Nat, sizeV l = .tuple #[.int .i64 (X : Int), .int .i64 (Y : Int)] := ⟨_, _, rfl⟩

set_option maxRecDepth 4000 in
set_option maxHeartbeats 4000000 in
theorem opens_any {w : World} {A : Option Addr} {c : Nat} {l : List Nat} (hsl : Sl w w.heap.size A (byts l)) (hl : ∀ x ∈ l, x < 256) (hc : l.length ≤ c) (hA : A = none → c = 0) (k : Nat) :
    Calls Try.prog 4 #[.slice A l.length c, .int .u8 (k : Int)] w fun e w' => e = .returned (.bool true) ∧ Below w.heap.size w w' := by
  by_cases h5 : 5000 < l.length
  · have q1 : decide (5000 < (l.length : Int)) = true := by simp; omega
    have q2 : decide (5000 < l.length) = true := by simpa using h5
    clear hsl hl hA hc h5
    generalize l.length = n at *
    go_enter Try.func4, Try.ntmps4
    go_wp2_with fail
    refine (awake_any _).mono ?_
    rintro e w1 ⟨rfl, hb⟩
    go_wp2_with fail
    go_ret
    exact ⟨rfl, hb⟩
  have q1 : decide (5000 < (l.length : Int)) = false := by simp; omega
  have q2 : decide (5000 < l.length) = false := by simpa using h5
  have hby : By w A c l := ⟨hsl, hl, hc, hA, by omega⟩
  have HY := Lib.hid hby
  obtain ⟨n, hn⟩ : ∃ n, n = l.length := ⟨_, rfl⟩
  have HN := Lib.hid hn
  rw [← hn] at q1 q2 ⊢
  obtain ⟨X, Y, hv⟩ := sizeV_parts l
  have HV := Lib.hid hv
  clear hsl hl hA hc h5 hby hn hv
  go_enter Try.func4, Try.ntmps4
  go_wp2_with fail
  refine (awake_any _).mono ?_
  rintro e w1 ⟨rfl, hb⟩
  have HB := Lib.hid hb
  have HY1 := Lib.hid (HY.out.below hb)
  have N1 := Lib.hid (open_all HY1.out k n HN.out)
  have M1 := Lib.hid (fun W (h : By W A c l) => ropen_all h k n HN.out)
  generalize outG l k = G at *
  generalize outD l k = D at *
  generalize openE l k = E at *
  clear hb HY
  go_wp2_with fail
  refine N1.out.mono ?_
  rintro e w2 ⟨A2, c2, rfl, by2, hb2⟩
  have HB2 := Lib.hid (HB.out.trans (hb2.mono HB.out.size))
  have HY2 := Lib.hid (HY1.out.below hb2)
  have D2 := Lib.hid by2
  clear by2 hb2 HB HY1 N1
  go_wp2_with fail
  refine (M1.out _ HY2.out).mono ?_
  rintro e w3 ⟨A3, c3, rfl, by3, hb3⟩
  have HB3 := Lib.hid (HB2.out.trans (hb3.mono HB2.out.size))
  have HY3 := Lib.hid (HY2.out.below hb3)
  have D23 := Lib.hid (D2.out.below hb3)
  have D3 := Lib.hid by3
  have S3 := Lib.hid (size_by HY3.out n HN.out)
  clear by3 hb3 HB2 HY2 D2 M1
  go_wp2_with fail
  refine S3.out.mono ?_
  rintro e w4 ⟨rfl, n4, hw4⟩
  have b4 : Below w3.heap.size w3 w4 := by rw [hw4]; exact drewN_below n4
  have HB4 := Lib.hid (HB3.out.trans (b4.mono HB3.out.size))
  have S4 := Lib.hid (rsize_by (HY3.out.below b4) n HN.out)
  have D24 := Lib.hid (D23.out.below b4)
  have D34 := Lib.hid (D3.out.below b4)
  rw [HV.out]
  clear b4 hw4 HB3 HY3 D23 D3 S3
  go_wp2_with fail
  refine S4.out.mono ?_
  rintro e w5 ⟨rfl, n5, hw5⟩
  have b5 : Below w4.heap.size w4 w5 := by rw [hw5]; exact drewN_below n5
  have HB5 := Lib.hid (HB4.out.trans (b5.mono HB4.out.size))
  have k1 := conv_b (cap := c2) (D24.out.below b5).sl
  have k2 := conv_b (cap := c3) (D34.out.below b5).sl
  rw [HV.out]
  clear b5 hw5 HB4 D24 D34 S4
  generalize bstr D = s at *
  generalize D.length = m at *
  go_wp2_with fail
  go_ret
  exact ⟨rfl, HB5.out⟩
end Go.Proofs.Ytpicalkcgioimaa
