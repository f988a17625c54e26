/- LzKnown, under what the program's functions are held to. -/
import Derived.Test.YtpfhkbagapodoaaLzc
namespace Go.Proofs.Ytpfhkbagapodoaa
open Go.RowKit

theorem kcall (hU : UnpackC) {cs : Array Value} {l : List Nat} (h : cs = (byts l).toArray) (n : Int) (N : Nat) (hN : N = l.length) (hl : ∀ x ∈ l, x < 256) (hs : l.length ≤ 100000) {D : List Nat} {E : Nat} (hR : Lz.unpack l n = (D, E)) (m : Nat) (hm : m = D.length) (W : World) :
    Calls Try.prog 11 #[.slice (some ⟨W.heap.size, 0, none⟩) N N, .int .i64 n] (W.alloc (.cells cs 5)) fun e w' => ∃ A c, e = .returned (.tuple #[.slice A m c, .int .i64 (E : Int)]) ∧ By w' A c D ∧ Below W.heap.size W w' := by
  have b0 : Below W.heap.size W (W.alloc (.cells cs 5)) := (Below.refl _ _).alloc (Nat.le_refl _) _
  refine (hU _ _ N l n N (by_lit h hN hl (by omega)) hs hN).mono ?_
  rintro e w' ⟨A, c, he, hb, hw⟩
  rw [hR] at he hb
  exact ⟨A, c, by rw [he, hm], hb, b0.trans (hw.mono b0.size)⟩
theorem bstr_16 : bstr [97, 97, 97, 97, 97, 97, 97, 97, 97, 97, 97, 97, 97, 97, 97, 97] = ⟨#[97, 97, 97, 97, 97, 97, 97, 97, 97, 97, 97, 97, 97, 97, 97, 97]⟩ := by kernel_rfl
set_option maxRecDepth 8000 in
set_option maxHeartbeats 8000000 in
theorem lzknown_any (hU : UnpackC) {P : List Nat → List Nat} (hP : PackC P) (hO : PackOk P) (hM : MostC) (w : World) :
    Calls Try.prog 7 #[] w fun e w' => e = .returned (.bool true) ∧ Below w.heap.size w w' := by
  have AW := Lib.hid (fun w => awake_any hU hP hO hM w)
  have C0 := Lib.hid (kcall hU (cs := #[.int .u8 26, .int .u8 97, .int .u8 1, .int .u8 0, .int .u8 16, .int .u8 97]) (l := [26, 97, 1, 0, 16, 97]) rfl (16) 6 rfl (by decide) (by decide) (D := [97, 97, 97, 97, 97, 97, 97, 97, 97, 97, 97, 97, 97, 97, 97, 97]) (E := 0) (by decide) 16 rfl)
  have C1 := Lib.hid (fun (W : World) => (hU W none 0 [] 0 0 (By.none W) (by decide) rfl).mono fun e w' h => unpR_err (E := 2) (by decide) h)
  have C2 := Lib.hid (kcall hU (cs := #[.int .u8 0]) (l := [0]) rfl (0) 1 rfl (by decide) (by decide) (D := []) (E := 0) (by decide) 0 rfl)
  have C3 := Lib.hid (kcall hU (cs := #[.int .u8 32, .int .u8 97]) (l := [32, 97]) rfl (2) 2 rfl (by decide) (by decide) (D := []) (E := 2) (by decide) 0 rfl)
  have C4 := Lib.hid (kcall hU (cs := #[.int .u8 16, .int .u8 97, .int .u8 0, .int .u8 0, .int .u8 0]) (l := [16, 97, 0, 0, 0]) rfl (9) 5 rfl (by decide) (by decide) (D := []) (E := 4) (by decide) 0 rfl)
  have C5 := Lib.hid (kcall hU (cs := #[.int .u8 16, .int .u8 97, .int .u8 2, .int .u8 0, .int .u8 0]) (l := [16, 97, 2, 0, 0]) rfl (9) 5 rfl (by decide) (by decide) (D := []) (E := 4) (by decide) 0 rfl)
  have C6 := Lib.hid (kcall hU (cs := #[.int .u8 16, .int .u8 97, .int .u8 1]) (l := [16, 97, 1]) rfl (9) 3 rfl (by decide) (by decide) (D := []) (E := 2) (by decide) 0 rfl)
  have C7 := Lib.hid (kcall hU (cs := #[.int .u8 32, .int .u8 97, .int .u8 98]) (l := [32, 97, 98]) rfl (1) 3 rfl (by decide) (by decide) (D := []) (E := 3) (by decide) 0 rfl)
  have C8 := Lib.hid (kcall hU (cs := #[.int .u8 16, .int .u8 97]) (l := [16, 97]) rfl (2) 2 rfl (by decide) (by decide) (D := []) (E := 2) (by decide) 0 rfl)
  have C9 := Lib.hid (kcall hU (cs := #[.int .u8 240]) (l := [240]) rfl (99) 1 rfl (by decide) (by decide) (D := []) (E := 2) (by decide) 0 rfl)
  have C10 := Lib.hid (kcall hU (cs := #[.int .u8 16, .int .u8 97]) (l := [16, 97]) rfl (-1) 2 rfl (by decide) (by decide) (D := []) (E := 1) (by decide) 0 rfl)
  clear hU hP hO hM
  go_enter Try.func7, Try.ntmps7
  go_wp2_with fail
  refine (AW.out _).mono ?_
  rintro e w0 ⟨rfl, hb⟩
  have HB0 := Lib.hid hb
  clear hb AW
  go_wp2_with fail
  refine (C0.out _).mono ?_
  rintro e w1 ⟨A0, c0, rfl, y, b⟩
  have HB1 := Lib.hid (HB0.out.trans (b.mono HB0.out.size))
  have Y1 := Lib.hid y
  clear y
  clear b HB0 C0
  go_wp2_with fail
  refine (C1.out _).mono ?_
  rintro e w2 ⟨A1, c1, rfl, -, b⟩
  have HB2 := Lib.hid (HB1.out.trans (b.mono HB1.out.size))
  have Y2 := Lib.hid (Y1.out.below b)
  clear Y1
  clear b HB1 C1
  go_wp2_with fail
  refine (C2.out _).mono ?_
  rintro e w3 ⟨A2, c2, rfl, -, b⟩
  have HB3 := Lib.hid (HB2.out.trans (b.mono HB2.out.size))
  have Y3 := Lib.hid (Y2.out.below b)
  clear Y2
  clear b HB2 C2
  go_wp2_with fail
  refine (C3.out _).mono ?_
  rintro e w4 ⟨A3, c3, rfl, -, b⟩
  have HB4 := Lib.hid (HB3.out.trans (b.mono HB3.out.size))
  have Y4 := Lib.hid (Y3.out.below b)
  clear Y3
  clear b HB3 C3
  go_wp2_with fail
  refine (C4.out _).mono ?_
  rintro e w5 ⟨A4, c4, rfl, -, b⟩
  have HB5 := Lib.hid (HB4.out.trans (b.mono HB4.out.size))
  have Y5 := Lib.hid (Y4.out.below b)
  clear Y4
  clear b HB4 C4
  go_wp2_with fail
  refine (C5.out _).mono ?_
  rintro e w6 ⟨A5, c5, rfl, -, b⟩
  have HB6 := Lib.hid (HB5.out.trans (b.mono HB5.out.size))
  have Y6 := Lib.hid (Y5.out.below b)
  clear Y5
  clear b HB5 C5
  go_wp2_with fail
  refine (C6.out _).mono ?_
  rintro e w7 ⟨A6, c6, rfl, -, b⟩
  have HB7 := Lib.hid (HB6.out.trans (b.mono HB6.out.size))
  have Y7 := Lib.hid (Y6.out.below b)
  clear Y6
  clear b HB6 C6
  go_wp2_with fail
  refine (C7.out _).mono ?_
  rintro e w8 ⟨A7, c7, rfl, -, b⟩
  have HB8 := Lib.hid (HB7.out.trans (b.mono HB7.out.size))
  have Y8 := Lib.hid (Y7.out.below b)
  clear Y7
  clear b HB7 C7
  go_wp2_with fail
  refine (C8.out _).mono ?_
  rintro e w9 ⟨A8, c8, rfl, -, b⟩
  have HB9 := Lib.hid (HB8.out.trans (b.mono HB8.out.size))
  have Y9 := Lib.hid (Y8.out.below b)
  clear Y8
  clear b HB8 C8
  go_wp2_with fail
  refine (C9.out _).mono ?_
  rintro e w10 ⟨A9, c9, rfl, -, b⟩
  have HB10 := Lib.hid (HB9.out.trans (b.mono HB9.out.size))
  have Y10 := Lib.hid (Y9.out.below b)
  clear Y9
  clear b HB9 C9
  go_wp2_with fail
  refine (C10.out _).mono ?_
  rintro e w11 ⟨A10, c10, rfl, -, b⟩
  have HB11 := Lib.hid (HB10.out.trans (b.mono HB10.out.size))
  have Y11 := Lib.hid (Y10.out.below b)
  clear Y10
  clear b HB10 C10
  have k1 := conv_b (cap := c0) Y11.out.sl
  rw [show [97, 97, 97, 97, 97, 97, 97, 97, 97, 97, 97, 97, 97, 97, 97, 97].length = 16 from rfl, bstr_16] at k1
  go_wp2_with fail
  go_ret
  exact ⟨rfl, HB11.out⟩
end Go.Proofs.Ytpfhkbagapodoaa
