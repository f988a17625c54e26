/- LzFar, under what the program's functions are held to. -/
import Derived.Test.YtpfhkbagapodoaaLzc
namespace Go.Proofs.Ytpfhkbagapodoaa
open Go.RowKit

/-- What is packed comes back, told of the bytes. -/
def BackC (P : List Nat → List Nat) : Prop := ∀ L : List Nat, (∀ x ∈ L, x < 256) → L.length ≤ 4096 →
  (P L).length ≤ L.length + L.length / 255 + 16 ∧
  (∀ W A c, By W A c L → Calls Try.prog 13 #[.slice A L.length c] W fun e w' => ∃ A' c', e = .returned (.slice A' (P L).length c') ∧ By w' A' c' (P L) ∧ Below W.heap.size W w') ∧
  (∀ W A c, By W A c (P L) → Calls Try.prog 11 #[.slice A (P L).length c, .int .i64 (L.length : Int)] W fun e w' => ∃ A' c', e = .returned (.tuple #[.slice A' L.length c', .int .i64 0]) ∧ By w' A' c' L ∧ Below W.heap.size W w') ∧
  (∀ W A c, By W A c (P L) → Calls Try.prog 12 #[.slice A (P L).length c, .int .i64 (L.length : Int)] W fun e w' => ∃ A' c', e = .returned (.tuple #[.slice A' L.length c', .int .i64 0]) ∧ By w' A' c' L ∧ Below W.heap.size W w')
theorem back_of (hU : UnpackC) {P : List Nat → List Nat} (hP : PackC P) (hO : PackOk P) : BackC P := by
  intro L hL hlen
  have hpb := pack_back hO hL hlen
  have hpl := pack_most hO hL hlen
  refine ⟨hpl, fun W A c h => hP W A c L _ h (by omega) rfl, fun W A c h => ?_, fun W A c h => ?_⟩
  · exact (hU W A c (P L) (L.length : Int) _ h (by omega) rfl).mono fun e w' h' => unpR_is (l := L) hpb h'
  · exact (runpack_by h (by omega) (L.length : Int) _ rfl).mono fun e w' h' => unpR_is (l := L) hpb h'

set_option maxRecDepth 4000 in
set_option maxHeartbeats 4000000 in
theorem lzfar_any (hU : UnpackC) {P : List Nat → List Nat} (hP : PackC P) (hO : PackOk P) (hM : MostC) {w : World} {A : Option Addr} {c : Nat} {l : List Nat} (hsl : Sl w w.heap.size A (byts l)) (hl : ∀ x ∈ l, x < 256) (hc : l.length ≤ c) (hA : A = none → c = 0) (u f : Nat) (hu : u < 65536) :
    Calls Try.prog 9 #[.slice A l.length c, .int .u16 (u : Int), .int .u8 (f : Int)] w fun e w' => e = .returned (.bool true) ∧ Below w.heap.size w w' := by
  have AW := Lib.hid (fun w => awake_any hU hP hO hM w)
  have BK := Lib.hid (back_of hU hP hO)
  have HM := Lib.hid hM
  clear hU hP hO hM
  by_cases h5 : 200 < l.length
  · have q1 : decide (200 < (l.length : Int)) = true := by simp; omega
    have q2 : decide (200 < l.length) = true := by simpa using h5
    clear hsl hl hA hc h5
    generalize l.length = n at *
    go_enter Try.func9, Try.ntmps9
    go_wp2_with fail
    refine (AW.out _).mono ?_
    rintro e w1 ⟨rfl, hb⟩
    go_wp2_with fail
    go_ret
    exact ⟨rfl, hb⟩
  have q1 : decide (200 < (l.length : Int)) = false := by simp; omega
  have q2 : decide (200 < l.length) = false := by simpa using h5
  have hby : By w A c l := ⟨hsl, hl, hc, hA, by omega⟩
  have HY := Lib.hid hby
  obtain ⟨i0, hi0, hz0, hs0, hb0⟩ := byte_parts (P := Try.prog) (e := 5) (by kernel_rfl)
  obtain ⟨N, hN⟩ : ∃ N, N = l.length := ⟨_, rfl⟩
  have hNb : N ≤ 200 := by omega
  have HN := Lib.hid hN
  have Ll := Lib.hid (show (byts l).length = N by rw [byts_length, hN])
  obtain ⟨T, hT, hTb⟩ : ∃ T : Nat, (u : Int) % 3696 = T ∧ T ≤ 3695 := ⟨u % 3696, by omega, by omega⟩
  rw [← hN] at q1 q2 ⊢
  clear hsl hl hA hc h5 hby hN
  go_enter Try.func9, Try.ntmps9
  go_wp2_with fail
  refine (AW.out _).mono ?_
  rintro e w1 ⟨rfl, hb⟩
  have HB1 := Lib.hid hb
  have HY1 := Lib.hid (HY.out.below hb)
  have M1 := Lib.hid (mine_empty (w0 := w1) (w := w1) (Below.refl _ _))
  have Y1 := Lib.hid (HY1.out.below M1.out.bel)
  clear hb HY AW
  go_wp2_with (at_builtin; refine wpList_append_sl (base := w1.heap.size) _ rfl (.tmp 19) (.tmp 20) _ rfl Try.underlying22 hi0 hz0 hs0 hb0 rfl rfl M1.out.own rfl Ll.out.symm Y1.out.nil Y1.out.sl (byts_one _) (by rw [Ll.out, HN.out]; exact Y1.out.cap) (by rw [Ll.out]; unfold maxLen; omega) (by rw [Ll.out]; omega) M1.out.bel.size ?_; intro v2 w2 h1 h2 _; obtain ⟨A2, c2, rfl, m2⟩ := M1.out.app (r := l) HN.out.symm (Nat.zero_add N) h1 h2; have M2 := Lib.hid m2; clear h1 h2 m2)
  go_loopw [7, 8] (fun v i wr => ∃ (j m : Nat) (A' : Option Addr) (c' : Nat) (L : List Nat), j ≤ T ∧ i = .int .i64 j ∧ v = .slice A' m c' ∧ Mine w1 wr A' m c' L ∧ (∀ x ∈ L, x < 256) ∧ m = N + j) (fun _ i _ => T - (intOf i).toNat)
  case atStart => exact ⟨0, N, A2, c2, l, Nat.zero_le _, rfl, rfl, by simpa using M2.out, HY1.out.lt, rfl⟩
  case round =>
    obtain ⟨j, m, A', c', L, hj, rfl, rfl, hm, hL, hmj⟩ := hrel
    have M := Lib.hid hm
    have HL := Lib.hid hL
    have Hmj := Lib.hid hmj
    have hmb : m ≤ 3895 := by omega
    clear hm hL hmj M2 M1 Y1
    by_cases hlt : j < T
    · have q3 : decide ((j : Int) < (T : Int)) = true := by rw [decide_eq_true_eq]; omega
      obtain ⟨s, hs⟩ : ∃ s : Nat, s = j * j := ⟨_, rfl⟩
      have hss : (j : Int) * (j : Int) = (s : Int) := by rw [hs]; simp
      have hsb : s ≤ 3695 * 3695 := by rw [hs]; exact Nat.mul_le_mul (by omega) (by omega)
      obtain ⟨q, hq, hq7⟩ : ∃ q : Nat, (s : Int) % 7 = q ∧ q < 7 := ⟨s % 7, by omega, by omega⟩
      obtain ⟨y, hy, hyb⟩ : ∃ y : Nat, ((f : Int) + (q : Int)) % 256 = y ∧ y < 256 := ⟨(f + q) % 256, by omega, by omega⟩
      have Mz := Lib.hid (M.out.below (w' := wr.alloc (.cells #[.int .u8 (y : Int)] 5)) ((Below.refl _ _).alloc (Nat.le_refl _) _))
      have Sz := Lib.hid (sl_cells (w := wr) (cs := #[.int .u8 (y : Int)]) (l := [y]) rfl)
      have Hyb := Lib.hid hyb
      clear M hs hyb
      go_wp2_with (at_builtin; refine wpList_append_sl (base := w1.heap.size) _ rfl (.tmp 29) (.tmp 37) _ rfl Try.underlying22 hi0 hz0 hs0 hb0 rfl rfl Mz.out.own rfl (byts_length [y]).symm (by simp) Sz.out (byts_one _) (by rw [byts_length]; exact Nat.le_refl _) (by rw [byts_length]; unfold maxLen; simp; omega) (by rw [byts_length]; simp; omega) Mz.out.bel.size ?_; intro v6 w6 h1 h2 _; obtain ⟨A6, c6, rfl, m6⟩ := Mz.out.app (r := [y]) rfl (show m + 1 = m + 1 from rfl) h1 h2; have M6 := Lib.hid m6; clear h1 h2 m6)
      go_roundw
      case rel => exact ⟨j + 1, m + 1, A6, c6, L ++ [y], by omega, by go_num, rfl, M6.out, fun x hx => by
        rcases List.mem_append.1 hx with h | h
        · exact HL.out x h
        · have : x = y := by simpa using h
          have := Hyb.out
          omega, by have := Hmj.out; omega⟩
      case measure => simp [intOf]; omega
    · have hjT : j = T := by omega
      subst hjT
      have q3 : decide ((j : Int) < (j : Int)) = false := by simp
      have Yw := Lib.hid (HY1.out.below M.out.bel)
      obtain ⟨K, hK⟩ : ∃ K : Nat, K = m + N := ⟨_, rfl⟩
      have hKb : K ≤ 4096 := by omega
      have HK := Lib.hid hK
      clear hK
      go_wp2_with (at_builtin; refine wpList_append_sl (base := w1.heap.size) _ rfl (.tmp 39) (.tmp 40) _ rfl Try.underlying22 hi0 hz0 hs0 hb0 rfl rfl M.out.own rfl Ll.out.symm Yw.out.nil Yw.out.sl (byts_one _) (by rw [Ll.out, HN.out]; exact Yw.out.cap) (by rw [Ll.out]; unfold maxLen; omega) (by rw [Ll.out]; omega) M.out.bel.size ?_; intro v5 w5 h1 h2 _; obtain ⟨A5, c5, rfl, m5⟩ := M.out.app (r := l) HN.out.symm HK.out.symm h1 h2; have M5 := Lib.hid m5; clear h1 h2 m5)
      obtain ⟨X, hX⟩ : ∃ X, X = L ++ l := ⟨_, rfl⟩
      rw [← hX] at M5
      have hXb : ∀ x ∈ X, x < 256 := fun x hx => by
        rw [hX] at hx
        rcases List.mem_append.1 hx with h | h
        · exact HL.out x h
        · exact HY1.out.lt x h
      have hXl := M5.out.len
      obtain ⟨hpl, p1, p2, p3⟩ := BK.out X hXb (by omega)
      have X5 := Lib.hid (By.of_own M5.out.own hXb (by omega))
      rw [hXl] at hpl p1 p2 p3
      have P1 := Lib.hid (p1 _ _ _ X5.out)
      have P2 := Lib.hid p2
      have P3 := Lib.hid p3
      obtain ⟨zl, hzl⟩ : ∃ zl, zl = (P X).length := ⟨_, rfl⟩
      rw [← hzl] at hpl P1 P2 P3
      obtain ⟨mx, hmx⟩ : ∃ mx : Nat, mx = K + K / 255 + 16 := ⟨_, rfl⟩
      have q5 : decide ((zl : Int) ≤ (mx : Int)) = true := by rw [decide_eq_true_eq]; omega
      have q5' : decide (zl ≤ mx) = true := by rw [decide_eq_true_eq]; omega
      have C6 := Lib.hid (fun W => HM.out K (K : Int) W hKb rfl)
      rw [← hmx] at C6
      have HXl := Lib.hid hXl
      have HBm := Lib.hid (HB1.out.trans (M5.out.bel.mono HB1.out.size))
      clear hX hXb hpl p1 p2 p3 hzl hmx hXl M5 BK HM HB1 HY1 Yw M
      refine P1.out.mono ?_
      rintro e w6 ⟨A6, c6, rfl, y6, b6⟩
      have HB6 := Lib.hid (HBm.out.trans (b6.mono HBm.out.size))
      have X6 := Lib.hid (X5.out.below b6)
      have Y6 := Lib.hid y6
      have N6 := Lib.hid (P2.out _ _ _ y6)
      clear y6 b6 HBm X5 P1 P2
      go_wp2_with fail
      refine N6.out.mono ?_
      rintro e w7 ⟨A7, c7, rfl, y7, b7⟩
      have HB7 := Lib.hid (HB6.out.trans (b7.mono HB6.out.size))
      have X7 := Lib.hid (X6.out.below b7)
      have Y7 := Lib.hid y7
      have N7 := Lib.hid (P3.out _ _ _ (Y6.out.below b7))
      clear y7 b7 HB6 X6 Y6 N6 P3
      go_wp2_with fail
      refine N7.out.mono ?_
      rintro e w8 ⟨A8, c8, rfl, y8, b8⟩
      have HB8 := Lib.hid (HB7.out.trans (b8.mono HB7.out.size))
      have k1 := conv_b (cap := c7) (Y7.out.below b8).sl
      have k2 := conv_b (cap := c5) (X7.out.below b8).sl
      have k3 := conv_b (cap := c8) y8.sl
      rw [HXl.out] at k1 k2 k3
      clear y8 b8 HB7 X7 Y7 N7
      generalize bstr X = st at *
      go_wp2_with fail
      refine (C6.out _).mono ?_
      rintro e w9 ⟨rfl, rfl⟩
      go_wp2_with fail
      go_ret
      exact ⟨rfl, HB8.out⟩
end Go.Proofs.Ytpfhkbagapodoaa
