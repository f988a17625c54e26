/- The statement CrownKnown. -/
import Derived.Test.YthdmghocfngfgaaCnw
import Derived.Test.YthdmghocfngfgaaRcda
namespace Go.Proofs.Ythdmghocfngfgaa
open Go.RowKit Crc

/-- The crown that is known. -/
def kc : Cn.C := ⟨3, 256, 20, 4607182418800017408, 2, 1, 3, 1⟩
theorem kc_fix : Flt.fixB 4607182418800017408 = 4607182418800017408 := by kernel_rfl
theorem kc_ok : Cn.Ok kc := ⟨by decide, by decide, by decide, by decide, by decide, by decide, kc_fix, by decide, by decide, by decide, by decide, by decide, by decide, by decide, by decide⟩
/-- Its first bytes. -/
def kw : List Nat := [0xc0, 0x9e, 3, 0, 0, 0, 0, 1, 0, 0, 20, 0, 0, 0, 2, 0, 0, 0, 1, 0, 0, 0, 3, 0, 0, 0, 1, 0, 0, 0, 0, 0, 0, 0, 0, 0, 0xf0, 0x3f]
theorem kc_body : Cn.body kc = kw ++ List.replicate 22 0 := by decide
theorem kc_at {k : Nat} (h : k < 38) : (Cn.enc kc).getD k 0 = kw.getD k 0 := by
  unfold Cn.enc
  rw [kc_body, List.append_assoc, List.getD_eq_getElem?_getD, List.getD_eq_getElem?_getD, List.getElem?_append_left (by exact h)]
theorem kc_zero {k : Nat} (h : 38 ≤ k) (h2 : k < 60) : (Cn.enc kc).getD k 0 = 0 := by
  unfold Cn.enc
  rw [kc_body, List.append_assoc, List.getD_eq_getElem?_getD, List.getElem?_append_right (by exact h), List.getElem?_append_left (by simp; show k - 38 < 22; omega), List.getElem?_replicate]
  rw [if_pos (by show k - 38 < 22; omega)]
  rfl
/-- The bytes half way. -/
structure Kn (w W : World) (G b : Nat) : Prop where
  r1 : ByBlk W G (Cn.enc kc)
  r2 : ByBlk W b kw
  bel : Below w.heap.size w W
theorem Kn.below {w W W' : World} {G b : Nat} (h : Kn w W G b) (hb : Below W.heap.size W W') : Kn w W' G b := ⟨byblk_below h.r1 hb, byblk_below h.r2 hb, h.bel.trans (hb.mono h.bel.size)⟩
/-- The same, with a blank block. -/
structure Kz (w W : World) (G b Z : Nat) : Prop where
  kn : Kn w W G b
  r3 : ByBlk W Z (List.replicate 64 0)
theorem Kz.below {w W W' : World} {G b Z : Nat} (h : Kz w W G b Z) (hb : Below W.heap.size W W') : Kz w W' G b Z := ⟨h.kn.below hb, byblk_below h.r3 hb⟩
theorem ch_zz : Cn.chooseE (List.replicate 64 0) (List.replicate 64 0) = (0, 8) := by unfold Cn.chooseE; rw [if_pos ⟨Cn.blank_zeros, Cn.blank_zeros⟩]
theorem ch_same {l : List Nat} (hb : Cn.blank l = false) (hd : Cn.decE l = 0) : Cn.chooseE l l = (0, 4) := by
  unfold Cn.chooseE
  rw [hb, hd]
  simp
theorem ch_short {l m : List Nat} (hb : Cn.blank l = false) (hm : Cn.blank m = false) (hd : Cn.decE m ≠ 0) : Cn.chooseE l m = (0, 5) := by
  unfold Cn.chooseE
  rw [hb, hm]
  simp [hd]
theorem chv_err {a b : List Nat} {n e : Nat} (h : Cn.chooseE a b = (n, e)) (he : e ≠ 0) : chV a b = zeroC := by unfold chV; rw [h, if_neg he]
/-- Choose where it answers an error. -/
theorem lch {la lb : List Nat} {A B : Option Addr} {ca cb na nb e : Nat} (h : Cn.chooseE la lb = (0, e)) (he : e ≠ 0) {W : World} (ha : By W A ca la) (hb : By W B cb lb) (hna : na = la.length) (hnb : nb = lb.length) :
    Calls Try.prog 21 #[.slice A na ca, .slice B nb cb] W fun x w' => x = .returned (.tuple #[crV zeroC, .int .i64 0, .int .i64 (e : Int)]) ∧ Below W.heap.size W w' := by
  have l1 := ha.len
  have l2 := hb.len
  refine (choose_any A B ca cb la lb ha.lt hb.lt ha.cap hb.cap na nb hna hnb (by omega) (by omega) ha.sl hb.sl).mono ?_
  rintro x w' ⟨rfl, hbl⟩
  rw [chv_err h he, h]
  exact ⟨rfl, hbl⟩
theorem by_blk {W : World} {G : Nat} {l : List Nat} (h : ByBlk W G l) (hl : ∀ x ∈ l, x < 256) (h64 : l.length = 64) : By W (some ⟨G, 0, none⟩) 64 l := ⟨byblk_sl h, hl, by omega, by simp, by omega⟩

set_option maxRecDepth 8000 in
set_option maxHeartbeats 16000000 in
theorem cknown_any (w : World) : Calls Try.prog 9 #[] w fun e w' => e = .returned (.bool true) ∧ Below w.heap.size w w' := by
  have AW := Lib.hid cawake_any
  have NA : Hid (∀ W : World, ∃ W3 q, W.alloc (.cells (crC kc) 26) = W3 ∧ W.heap.size = q ∧ Blk W3 q 26 (crC kc) ∧ Below W.heap.size W W3) := Lib.hid (fun W => ⟨_, _, rfl, rfl, Blk.new _ _ _, (Below.refl _ _).alloc (Nat.le_refl _) _⟩)
  have LC : Hid (∀ W, Calls Try.prog 12 #[crV kc] W fun e w' => e = .returned (crV kc) ∧ Below W.heap.size W w') := Lib.hid (lcrown_any kc)
  have EC : Hid (∀ W, Calls Try.prog 11 #[.agg #[.int .i64 3, .int .i64 256, .int .i64 20, .float .f64 4607182418800017408, .int .i64 2, .int .i64 1, .int .i64 3, .int .i64 1]] W fun e w' => ∃ G, e = .returned (.tuple #[.slice (some ⟨G, 0, none⟩) 64 64, .int .i64 0]) ∧ Below W.heap.size W w' ∧ ByBlk w' G (Cn.enc kc)) := Lib.hid (fun W => by
    refine (lenc kc kc_ok (by decide) W).mono ?_
    rintro e w' ⟨G, rfl, _, hr, hb⟩
    exact ⟨G, rfl, hb, hr⟩)
  have hsf := store_float
  simp only [crC, crV, kc] at NA LC
  go_enter Try.func9, Try.ntmps9
  go_upto_region 3 with (go_at_call 10; (with_reducible refine (AW.out _).mono ?_); rintro e w1 ⟨rfl, hb1⟩)
  obtain ⟨W3, xb, hW3, hxb, k3, hb3⟩ := NA.out w1
  have a0 := k3.cell 0
  have a1 := k3.cell 1
  have a2 := k3.cell 2
  have a3 := k3.cell 3
  have a4 := k3.cell 4
  have a5 := k3.cell 5
  have a6 := k3.cell 6
  have a7 := k3.cell 7
  have hb3 := hb1.trans (hb3.mono hb1.size)
  go_upto_region 7 with (first
    | (go_at_call 12; (with_reducible refine (LC.out _).mono ?_); rintro e w4 ⟨rfl, hb4⟩; have hb4 := hb3.trans (hb4.mono hb3.size))
    | (go_at_call 11; (with_reducible refine (EC.out _).mono ?_); rintro e w5 ⟨G, rfl, hb5, hG⟩; have hb5 := hb4.trans (hb5.mono hb4.size)))
  obtain ⟨W7, hW7⟩ : ∃ W, w5.alloc (.cells #[.int .u8 192, .int .u8 158, .int .u8 3, .int .u8 0, .int .u8 0, .int .u8 0, .int .u8 0, .int .u8 1, .int .u8 0, .int .u8 0, .int .u8 20, .int .u8 0, .int .u8 0, .int .u8 0, .int .u8 2, .int .u8 0, .int .u8 0, .int .u8 0, .int .u8 1, .int .u8 0, .int .u8 0, .int .u8 0, .int .u8 3, .int .u8 0, .int .u8 0, .int .u8 0, .int .u8 1, .int .u8 0, .int .u8 0, .int .u8 0, .int .u8 0, .int .u8 0, .int .u8 0, .int .u8 0, .int .u8 0, .int .u8 0, .int .u8 240, .int .u8 63] 5) = W := ⟨_, rfl⟩
  obtain ⟨wb, hwb⟩ : ∃ x, w5.heap.size = x := ⟨_, rfl⟩
  have k7 : ByBlk W7 w5.heap.size kw := by rw [← hW7]; exact Blk.new _ _ _
  have hb7 : Below w5.heap.size w5 W7 := by rw [← hW7]; exact (Below.refl _ _).alloc (Nat.le_refl _) _
  have hk : Kn w W7 G wb := ⟨byblk_below hG hb7, hwb ▸ k7, hb5.trans (hb7.mono hb5.size)⟩
  have HK := Lib.hid hk
  clear hk k7 hb7 hG a0 a1 a2 a3 a4 a5 a6 a7 k3 hW3 hxb
  go_upto_region 9 with fail
  go_loopw [5] (fun i wr => ∃ k : Nat, k ≤ 60 ∧ i = .int .i64 (k : Int) ∧ Kn w wr G wb) (fun i _ => 60 - (intOf i).toNat)
  case atStart => exact ⟨0, by omega, rfl, HK.out⟩
  case round =>
    obtain ⟨k, hk60, rfl, hk⟩ := hrel
    clear HK
    have HK := Lib.hid hk
    by_cases hlt : k < 60
    · have q1 : decide (k < 60) = true := by simpa using hlt
      have c1 := byblk_cell hk.r1 (i := k) (by rw [Cn.enc_len]; omega)
      by_cases h38 : k < 38
      · have q2 : decide (k < 38) = true := by simpa using h38
        have q3 : decide (38 ≤ k) = false := by simp; omega
        have q4 : decide (38 ≤ (k : Int)) = false := by simp; omega
        have q5 : decide ((k : Int) < 38) = true := by simp; omega
        have c2 := byblk_cell hk.r2 (i := k) h38
        rw [kc_at h38] at c1
        generalize kw.getD k 0 = v at *
        clear hk
        go_wp2_with fail
        go_quiet (fail)
        go_wp2_with fail
        go_roundw
        case rel => exact ⟨k + 1, by omega, by go_num, HK.out.below (drewN_below _)⟩
        case measure => simp [intOf]; omega
      · have q2 : decide (k < 38) = false := by simpa using h38
        have q3 : decide (38 ≤ k) = true := by simp; omega
        have q4 : decide (38 ≤ (k : Int)) = true := by simp; omega
        have q5 : decide ((k : Int) < 38) = false := by simp; omega
        rw [kc_zero (by omega) hlt] at c1
        clear hk
        go_wp2_with fail
        go_quiet (fail)
        go_wp2_with fail
        go_roundw
        case rel => exact ⟨k + 1, by omega, by go_num, HK.out.below (drewN_below _)⟩
        case measure => simp [intOf]; omega
    · have q1 : decide (k < 60) = false := by simpa using hlt
      have q2 : decide ((k : Int) < 60) = false := by simp; omega
      clear hk hlt hk60
      obtain ⟨W8, hW8⟩ : ∃ W, wr.alloc (.cells (zcells 64) 5) = W := ⟨_, rfl⟩
      obtain ⟨Z, hZ⟩ : ∃ x, wr.heap.size = x := ⟨_, rfl⟩
      have k8 : ByBlk W8 wr.heap.size (List.replicate 64 0) := by rw [← hW8]; exact byblk_zeros wr 64
      have hb8 : Below wr.heap.size wr W8 := by rw [← hW8]; exact (Below.refl _ _).alloc (Nat.le_refl _) _
      have hz0 : Kz w W8 G wb Z := ⟨HK.out.below hb8, hZ ▸ k8⟩
      have hz := Lib.hid hz0
      have mk : (Instr.makeSlice 28 (.int .i64 64) (.int .i64 64)).run Try.prog wr = .ok (.slice (some ⟨wr.heap.size, 0, none⟩) 64 64) (wr.alloc (.cells (zcells 64) 5)) := make_bytes 64 (by decide) wr
      rw [hW8, hZ] at mk
      obtain ⟨i0, hi0, hz0', hs0, hbb0⟩ := byte_parts (P := Try.prog) (e := 5) (by kernel_rfl)
      have ct : ∀ w, (Instr.slice 28 (.slice (some ⟨G, 0, none⟩) 64 64) none (some (.int .i64 9)) none).run Try.prog w = .ok (.slice (some ⟨G, 0, none⟩) 9 64) w := fun w =>
        run_slice_to (P := Try.prog) Try.underlying28 hi0 (some ⟨G, 0, none⟩) 64 64 9 (by omega) w
      have cf : ∀ w, (Instr.slice 28 (.slice (some ⟨Z, 0, none⟩) 64 64) (some (.int .i64 1)) none none).run Try.prog w = .ok (.slice (some ⟨Z, 1, none⟩) 63 63) w := fun w =>
        run_slice_from (P := Try.prog) Try.underlying28 hi0 hs0 (some ⟨Z, 0, none⟩) 64 64 1 (by omega) w
      have hE := Cn.enc_lt kc
      have hE64 := Cn.enc_len kc
      have BE : ∀ W, Kz w W G wb Z → By W (some ⟨G, 0, none⟩) 64 (Cn.enc kc) := fun W h => by_blk h.kn.r1 hE hE64
      have BZ : ∀ W, Kz w W G wb Z → By W (some ⟨Z, 0, none⟩) 64 (List.replicate 64 0) := fun W h => by_blk h.r3 zeros_lt (by simp)
      have CH1 : Hid (∀ W, Kz w W G wb Z → Calls Try.prog 21 #[.slice (some ⟨Z, 0, none⟩) 64 64, .slice (some ⟨Z, 0, none⟩) 64 64] W fun x w' => x = .returned (.tuple #[.agg #[.int .i64 0, .int .i64 0, .int .i64 0, .float .f64 0, .int .i64 0, .int .i64 0, .int .i64 0, .int .i64 0], .int .i64 0, .int .i64 8]) ∧ Kz w w' G wb Z) := Lib.hid (fun W h => by
        refine (lch ch_zz (by decide) (BZ W h) (BZ W h) (by simp) (by simp)).mono ?_
        rintro x w' ⟨rfl, hb⟩
        exact ⟨rfl, h.below hb⟩)
      have CH2 : Hid (∀ W, Kz w W G wb Z → Calls Try.prog 21 #[.slice (some ⟨G, 0, none⟩) 64 64, .slice (some ⟨Z, 0, none⟩) 64 64] W fun x w' => x = .returned (.tuple #[.agg #[.int .i64 0, .int .i64 0, .int .i64 0, .float .f64 0, .int .i64 0, .int .i64 0, .int .i64 0, .int .i64 0], .int .i64 0, .int .i64 5]) ∧ Kz w w' G wb Z) := Lib.hid (fun W h => by
        have h1 := choose_one kc_ok (by decide)
        rw [if_neg (by decide)] at h1
        refine (lch h1 (by decide) (BE W h) (BZ W h) hE64.symm (by simp)).mono ?_
        rintro x w' ⟨rfl, hb⟩
        exact ⟨rfl, h.below hb⟩)
      have CH3 : Hid (∀ W, Kz w W G wb Z → Calls Try.prog 21 #[.slice (some ⟨G, 0, none⟩) 64 64, .slice (some ⟨G, 0, none⟩) 64 64] W fun x w' => x = .returned (.tuple #[.agg #[.int .i64 0, .int .i64 0, .int .i64 0, .float .f64 0, .int .i64 0, .int .i64 0, .int .i64 0, .int .i64 0], .int .i64 0, .int .i64 4]) ∧ Kz w w' G wb Z) := Lib.hid (fun W h => by
        refine (lch (ch_same (Cn.enc_blank kc) (Cn.dec_enc kc_ok (by decide))) (by decide) (BE W h) (BE W h) hE64.symm hE64.symm).mono ?_
        rintro x w' ⟨rfl, hb⟩
        exact ⟨rfl, h.below hb⟩)
      have CH4 : Hid (∀ W, Kz w W G wb Z → Calls Try.prog 21 #[.slice (some ⟨G, 0, none⟩) 64 64, .slice (some ⟨G, 0, none⟩) 9 64] W fun x w' => x = .returned (.tuple #[.agg #[.int .i64 0, .int .i64 0, .int .i64 0, .float .f64 0, .int .i64 0, .int .i64 0, .int .i64 0, .int .i64 0], .int .i64 0, .int .i64 5]) ∧ Kz w w' G wb Z) := Lib.hid (fun W h => by
        have hl9 : ((Cn.enc kc).take 9).length = 9 := by rw [List.length_take, hE64]; rfl
        have hb9 : Cn.blank ((Cn.enc kc).take 9) = false := by unfold Cn.blank; rw [hl9]; rfl
        have hd9 : Cn.decE ((Cn.enc kc).take 9) ≠ 0 := by unfold Cn.decE; rw [if_pos (by rw [hl9]; decide)]; decide
        refine (lch (ch_short (Cn.enc_blank kc) hb9 hd9) (by decide) (BE W h) ((BE W h).to 9) hE64.symm hl9.symm).mono ?_
        rintro x w' ⟨rfl, hb⟩
        exact ⟨rfl, h.below hb⟩)
      obtain ⟨D, hD⟩ : ∃ D, Cn.decE (List.replicate 64 0) = D := ⟨_, rfl⟩
      have hD0 : D ≠ 0 := by rw [← hD]; exact Cn.dec_zeros
      have DZ : Hid (∀ W, Kz w W G wb Z → Calls Try.prog 16 #[.slice (some ⟨Z, 0, none⟩) 64 64] W fun x w' => x = .returned (.tuple #[.agg #[.int .i64 0, .int .i64 0, .int .i64 0, .float .f64 0, .int .i64 0, .int .i64 0, .int .i64 0, .int .i64 0], .int .i64 (D : Int)]) ∧ Kz w w' G wb Z) := Lib.hid (fun W h => by
        refine (ldec zeros_lt (by simp) h.r3).mono ?_
        rintro x w' ⟨rfl, hb⟩
        rw [hD, if_neg hD0]
        exact ⟨rfl, h.below hb⟩)
      have BN : Hid (∀ W, Calls Try.prog 19 #[.slice none 0 0] W fun x w' => x = .returned (.bool false) ∧ w' = W) := Lib.hid (fun W => by
        have := cblank_any none 0 [] (by simp) 0 rfl (by decide) (w := W) (B := 0) (.inl rfl)
        exact this)
      have B63 : Hid (∀ W, Kz w W G wb Z → Calls Try.prog 19 #[.slice (some ⟨Z, 1, none⟩) 63 63] W fun x w' => x = .returned (.bool false) ∧ w' = W) := Lib.hid (fun W h => by
        have hs := (byblk_sl h.r3).from (cap := 64) (k := 1) (by rw [byts_length]; simp)
        rw [byts_drop] at hs
        have := cblank_any (some ⟨Z, 1, none⟩) 63 ((List.replicate 64 0).drop 1) (fun x hx => zeros_lt x (List.mem_of_mem_drop hx)) 63 (by simp) (by decide) hs
        rw [show Cn.blank ((List.replicate 64 0).drop 1) = false by decide] at this
        exact this)
      have d1 : (D == 0) = false := by simp; omega
      have d2 : (D != 0) = true := by simp; omega
      have d3 : ((D : Int) != 0) = true := by simp; omega
      clear BE BZ hE hE64 hD hD0 k8 hb8 hz0 HK hi0 hz0' hs0 hbb0
      go_wp2_with (first
        | (go_at_call 21; (with_reducible refine (CH1.out _ hz.out).mono ?_); rintro e w9 ⟨rfl, h9⟩; have hz := Lib.hid (h9.below ((Below.refl _ _).alloc (Nat.le_refl _) (.cells #[.int .i64 0, .int .i64 0, .int .i64 0, .float .f64 0, .int .i64 0, .int .i64 0, .int .i64 0, .int .i64 0] 36))))
        | (go_at_call 21; (with_reducible refine (CH2.out _ hz.out).mono ?_); rintro e w9 ⟨rfl, h9⟩; have hz := Lib.hid (h9.below ((Below.refl _ _).alloc (Nat.le_refl _) (.cells #[.int .i64 0, .int .i64 0, .int .i64 0, .float .f64 0, .int .i64 0, .int .i64 0, .int .i64 0, .int .i64 0] 36))))
        | (go_at_call 21; (with_reducible refine (CH3.out _ hz.out).mono ?_); rintro e w9 ⟨rfl, h9⟩; have hz := Lib.hid (h9.below ((Below.refl _ _).alloc (Nat.le_refl _) (.cells #[.int .i64 0, .int .i64 0, .int .i64 0, .float .f64 0, .int .i64 0, .int .i64 0, .int .i64 0, .int .i64 0] 36))))
        | (go_at_call 21; (with_reducible refine (CH4.out _ hz.out).mono ?_); rintro e w9 ⟨rfl, h9⟩; have hz := Lib.hid (h9.below ((Below.refl _ _).alloc (Nat.le_refl _) (.cells #[.int .i64 0, .int .i64 0, .int .i64 0, .float .f64 0, .int .i64 0, .int .i64 0, .int .i64 0, .int .i64 0] 36))))
        | (go_at_call 16; (with_reducible refine (DZ.out _ hz.out).mono ?_); rintro e w9 ⟨rfl, h9⟩; have hz := Lib.hid (h9.below ((Below.refl _ _).alloc (Nat.le_refl _) (.cells #[.int .i64 0, .int .i64 0, .int .i64 0, .float .f64 0, .int .i64 0, .int .i64 0, .int .i64 0, .int .i64 0] 36))))
        | (go_at_call 19; (with_reducible refine (BN.out _).mono ?_); rintro e w9 ⟨rfl, h9⟩; subst h9)
        | (go_at_call 19; (with_reducible refine (B63.out _ hz.out).mono ?_); rintro e w9 ⟨rfl, h9⟩; subst h9))
      go_ret
      exact ⟨rfl, hz.out.kn.bel⟩
end Go.Proofs.Ythdmghocfngfgaa
