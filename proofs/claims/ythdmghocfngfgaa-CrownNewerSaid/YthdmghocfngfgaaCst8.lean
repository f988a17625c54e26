/- The statement CrownNewer, for all arguments: the other ways, and the whole. -/
import Derived.Test.YthdmghocfngfgaaCst7
namespace Go.Proofs.Ythdmghocfngfgaa
open Go.RowKit Crc

set_option maxRecDepth 4000 in
set_option maxHeartbeats 16000000 in
theorem cnew_of1 (c d : Cn.C) (hc : Cn.Ok c) (hd : Cn.Ok d) (gc : c.gain < 18446744073709551616) (gd : d.gain < 18446744073709551616) (hgt : d.gen < c.gen) (hf : c.gen = 1) (w : World) :
    Calls Try.prog 7 #[crV c, crV d, .bool false] w fun e w' => e = .returned (.bool true) ∧ Below w.heap.size w w' := by
  obtain ⟨W0, hW0⟩ : ∃ W, w.alloc (.cells (crC c) 26) = W := ⟨_, rfl⟩
  obtain ⟨W1, hW1⟩ : ∃ W, W0.alloc (.cells (crC d) 26) = W := ⟨_, rfl⟩
  have k0 : Blk W0 w.heap.size 26 (crC c) := by rw [← hW0]; exact Blk.new _ _ _
  have hb0 : Below w.heap.size w W0 := by rw [← hW0]; exact (Below.refl _ _).alloc (Nat.le_refl _) _
  have k1 : Blk W1 w.heap.size 26 (crC c) := by rw [← hW1]; exact k0.alloc _
  have n1 : Blk W1 W0.heap.size 26 (crC d) := by rw [← hW1]; exact Blk.new _ _ _
  have hb1 : Below w.heap.size w W1 := by rw [← hW1]; exact hb0.alloc hb0.size _
  obtain ⟨xb, hx⟩ : ∃ x, w.heap.size = x := ⟨_, rfl⟩
  obtain ⟨xd, hn⟩ : ∃ x, W0.heap.size = x := ⟨_, rfl⟩
  rw [hn] at n1
  have CE : Hid (∀ W, Below W1.heap.size W1 W → (W.cell? ⟨xb, 0, none⟩ = some (.int .i64 c.gen) ∧ W.cell? ⟨xb, 1, none⟩ = some (.int .i64 c.bl) ∧ W.cell? ⟨xb, 2, none⟩ = some (.int .i64 c.se) ∧ W.cell? ⟨xb, 3, none⟩ = some (.float .f64 c.gain) ∧ W.cell? ⟨xb, 4, none⟩ = some (.int .i64 c.at_) ∧ W.cell? ⟨xb, 5, none⟩ = some (.int .i64 c.n) ∧ W.cell? ⟨xb, 6, none⟩ = some (.int .i64 c.kg) ∧ W.cell? ⟨xb, 7, none⟩ = some (.int .i64 c.ht)) ∧ (W.cell? ⟨xd, 0, none⟩ = some (.int .i64 d.gen) ∧ W.cell? ⟨xd, 1, none⟩ = some (.int .i64 d.bl) ∧ W.cell? ⟨xd, 2, none⟩ = some (.int .i64 d.se) ∧ W.cell? ⟨xd, 3, none⟩ = some (.float .f64 d.gain) ∧ W.cell? ⟨xd, 4, none⟩ = some (.int .i64 d.at_) ∧ W.cell? ⟨xd, 5, none⟩ = some (.int .i64 d.n) ∧ W.cell? ⟨xd, 6, none⟩ = some (.int .i64 d.kg) ∧ W.cell? ⟨xd, 7, none⟩ = some (.int .i64 d.ht))) := Lib.hid (fun W h => ⟨xcells (hx ▸ k1.keep (h.block _ k1.lt)), xcells (n1.keep (h.block _ n1.lt))⟩)
  have AW0 : Hid (∀ W, Below W1.heap.size W1 W → Calls Try.prog 10 #[] W fun e w' => e = .returned (.bool true) ∧ Below W1.heap.size W1 w') := Lib.hid (fun W h => by
    refine (cawake_any W).mono ?_
    rintro e w' ⟨rfl, hb⟩
    exact ⟨rfl, h.trans (hb.mono h.size)⟩)
  have Mc : Hid (∀ W, Below W1.heap.size W1 W → Calls Try.prog 15 #[crV c] W fun e w' => e = .returned (.bool true) ∧ Below W1.heap.size W1 w') := Lib.hid (fun W h => by
    have h1 := rmayc_any c W
    rw [show Cn.okB c = true by unfold Cn.okB; exact decide_eq_true hc] at h1
    refine h1.mono ?_
    rintro e w' ⟨rfl, hb⟩
    exact ⟨rfl, h.trans (hb.mono h.size)⟩)
  have Md : Hid (∀ W, Below W1.heap.size W1 W → Calls Try.prog 15 #[crV d] W fun e w' => e = .returned (.bool true) ∧ Below W1.heap.size W1 w') := Lib.hid (fun W h => by
    have h1 := rmayc_any d W
    rw [show Cn.okB d = true by unfold Cn.okB; exact decide_eq_true hd] at h1
    refine h1.mono ?_
    rintro e w' ⟨rfl, hb⟩
    exact ⟨rfl, h.trans (hb.mono h.size)⟩)
  have Lc : Hid (∀ W, Below W1.heap.size W1 W → Calls Try.prog 12 #[crV c] W fun e w' => e = .returned (crV c) ∧ Below W1.heap.size W1 w') := Lib.hid (fun W h => by
    refine (lcrown_any c W).mono ?_
    rintro e w' ⟨rfl, hb⟩
    exact ⟨rfl, h.trans (hb.mono h.size)⟩)
  have Ec1 : Hid (∀ W, Below W1.heap.size W1 W → Calls Try.prog 11 #[crV c] W fun e w' => ∃ G, e = .returned (.tuple #[.slice (some ⟨G, 0, none⟩) 64 64, .int .i64 0]) ∧ Below W1.heap.size W1 w' ∧ ByBlk w' G (Cn.enc c)) := Lib.hid (fun W h => by
    refine (lenc c hc gc W).mono ?_
    rintro e w' ⟨G, rfl, _, hr, hb⟩
    exact ⟨G, rfl, h.trans (hb.mono h.size), hr⟩)
  have Ld : Hid (∀ W G, Below W1.heap.size W1 W → ByBlk W G (Cn.enc c) → Calls Try.prog 12 #[crV d] W fun e w' => e = .returned (crV d) ∧ Below W1.heap.size W1 w' ∧ ByBlk w' G (Cn.enc c)) := Lib.hid (fun W G h hG => by
    refine (lcrown_any d W).mono ?_
    rintro e w' ⟨rfl, hb⟩
    exact ⟨rfl, h.trans (hb.mono h.size), byblk_below hG hb⟩)
  have Ed1 : Hid (∀ W G, Below W1.heap.size W1 W → ByBlk W G (Cn.enc c) → Calls Try.prog 11 #[crV d] W fun e w' => ∃ K, e = .returned (.tuple #[.slice (some ⟨K, 0, none⟩) 64 64, .int .i64 0]) ∧ Nw W1 w' c d xb xd G K) := Lib.hid (fun W G h hG => by
    refine (lenc d hd gd W).mono ?_
    rintro e w' ⟨K, rfl, _, hr, hb⟩
    exact ⟨K, rfl, h.trans (hb.mono h.size), byblk_below hG hb, hr⟩)
  have CH : Hid (∀ W G K, Nw W1 W c d xb xd G K → Calls Try.prog 21 #[.slice (some ⟨G, 0, none⟩) 64 64, .slice (some ⟨K, 0, none⟩) 64 64] W fun e w' => e = .returned (.tuple #[crV c, .int .i64 0, .int .i64 0]) ∧ Below W.heap.size W w') := Lib.hid (fun W G K h => by
    have h1 := lchoose hc hd gc gd (by omega) h.r1 h.r2
    rw [if_pos hgt, if_pos hgt] at h1
    exact h1)
  have C1 : Hid (∀ W G K g, g = W.heap.size → Nw W1 W c d xb xd G K → Calls Try.prog 21 #[.slice (some ⟨G, 0, none⟩) 64 64, .slice (some ⟨g, 0, none⟩) 64 64] (W.alloc (.cells (zcells 64) 5)) fun e w' => e = .returned (.tuple #[crV c, .int .i64 0, .int .i64 0]) ∧ Below W.heap.size W w') := Lib.hid (fun W G K g hg h => by
    subst hg
    have ha : Below W.heap.size W (W.alloc (.cells (zcells 64) 5)) := (Below.refl _ _).alloc (Nat.le_refl _) _
    have h1 := lchoose1 hc gc (h.below ha).r1 (byblk_zeros W 64)
    rw [if_pos hf, if_pos hf] at h1
    refine h1.mono ?_
    rintro e w' ⟨rfl, hb⟩
    exact ⟨rfl, ha.trans (hb.mono ha.size)⟩)
  have Sn : Hid (∀ W, Calls Try.prog 17 #[crV c, crV c] W fun e w' => e = .returned (.bool true) ∧ Below W.heap.size W w') := Lib.hid (same_self c)
  have Sp : Hid (∀ W, Calls Try.prog 17 #[crV c, crV c] W fun e w' => e = .returned (.bool true) ∧ Below W.heap.size W w') := Lib.hid (same_self c)
  have MK : Hid (∀ W, (Instr.makeSlice 28 (.int .i64 64) (.int .i64 64)).run Try.prog W = .ok (.slice (some ⟨W.heap.size, 0, none⟩) 64 64) (W.alloc (.cells (zcells 64) 5))) := Lib.hid (make_bytes 64 (by decide))
  have HB1 := Lib.hid hb1
  have hbc := Below.refl W1.heap.size W1
  have g1 : decide (c.gen < d.gen) = false := by simp; omega
  have g2 : (c.gen == d.gen) = false := by simp; omega
  have g3 : (c.gen == 1) = true := by simp; omega
  obtain ⟨⟨a0, a1, a2, a3, a4, a5, a6, a7⟩, b0, b1, b2, b3, b4, b5, b6, b7⟩ := CE.out W1 (Below.refl _ _)
  have hsf := store_float
  clear k0 k1 n1 hb0 hb1 hc hd gc gd hgt hf
  obtain ⟨x1, x2, x3, x4, x5, x6, x7, x8⟩ := c
  obtain ⟨z1, z2, z3, z4, z5, z6, z7, z8⟩ := d
  simp only [crC, crV] at hW0 hW1 Mc Md Lc Ld Ec1 Ed1 CH C1 Sn Sp CE a0 a1 a2 a3 a4 a5 a6 a7 b0 b1 b2 b3 b4 b5 b6 b7 g1 g2 g3 ⊢
  go_enter Try.func7, Try.ntmps7
  go_upto_region 12 with (first
    | (go_at_call 10; (with_reducible refine (AW0.out _ hbc).mono ?_); rintro e w1 ⟨rfl, hbc⟩; obtain ⟨⟨a0, a1, a2, a3, a4, a5, a6, a7⟩, b0, b1, b2, b3, b4, b5, b6, b7⟩ := CE.out _ hbc)
    | (go_at_call 15; (with_reducible refine (Mc.out _ hbc).mono ?_); rintro e w1 ⟨rfl, hbc⟩; obtain ⟨⟨a0, a1, a2, a3, a4, a5, a6, a7⟩, b0, b1, b2, b3, b4, b5, b6, b7⟩ := CE.out _ hbc)
    | (go_at_call 15; (with_reducible refine (Md.out _ hbc).mono ?_); rintro e w1 ⟨rfl, hbc⟩; obtain ⟨⟨a0, a1, a2, a3, a4, a5, a6, a7⟩, b0, b1, b2, b3, b4, b5, b6, b7⟩ := CE.out _ hbc)
    | (go_at_call 12; (with_reducible refine (Lc.out _ hbc).mono ?_); rintro e w1 ⟨rfl, hbc⟩)
    | (go_at_call 11; (with_reducible refine (Ec1.out _ hbc).mono ?_); rintro e w1 ⟨G, rfl, hbc, hG⟩; obtain ⟨⟨a0, a1, a2, a3, a4, a5, a6, a7⟩, b0, b1, b2, b3, b4, b5, b6, b7⟩ := CE.out _ hbc)
    | (go_at_call 12; (with_reducible refine (Ld.out _ _ hbc hG).mono ?_); rintro e w1 ⟨rfl, hbc, hG⟩)
    | (go_at_call 11; (with_reducible refine (Ed1.out _ _ hbc hG).mono ?_); rintro e w1 ⟨K, rfl, hN⟩; obtain ⟨⟨a0, a1, a2, a3, a4, a5, a6, a7⟩, b0, b1, b2, b3, b4, b5, b6, b7⟩ := CE.out _ hN.bel))
  go_upto_region 13 with (go_at_call 21; (with_reducible refine (CH.out _ _ _ hN).mono ?_); rintro e w2 ⟨rfl, hb2⟩; have hN := hN.below hb2; obtain ⟨W3, q12, hW3, hq12, k12, hb3⟩ := new_alloc (W := w2) (t := 36) (Cn.C.mk x1 x2 x3 x4 x5 x6 x7 x8); simp only [crC] at hW3; have hN := hN.below hb3; obtain ⟨⟨a0, a1, a2, a3, a4, a5, a6, a7⟩, b0, b1, b2, b3, b4, b5, b6, b7⟩ := CE.out _ hN.bel)
  obtain ⟨W4, q15, hW4, hq15, k15, hb4⟩ := new_alloc (W := W3) (t := 26) (Cn.C.mk x1 x2 x3 x4 x5 x6 x7 x8)
  simp only [crC] at hW4
  have l12 := k12.lt
  have lG := Blk.lt hN.r1
  have lK := Blk.lt hN.r2
  have lW := hN.bel.size
  rw [hq15] at l12 lG lK lW
  have hN := hN.below hb4
  have k12 := k12.keep (hb4.block _ k12.lt)
  obtain ⟨⟨a0, a1, a2, a3, a4, a5, a6, a7⟩, b0, b1, b2, b3, b4, b5, b6, b7⟩ := CE.out _ hN.bel
  go_upto_region 16 with fail
  have mk := MK.out W4
  go_upto_region 17 with (go_at_call 21; (with_reducible refine (C1.out _ _ _ _ rfl hN).mono ?_); rintro e w6 ⟨rfl, hb6⟩; have hN := hN.below hb6; have k12 := k12.keep (hb6.block _ k12.lt); have k15 := k15.keep (hb6.block _ k15.lt); obtain ⟨W7, q16, hW7, hq16, k16, hb7⟩ := new_alloc (W := w6) (t := 36) (Cn.C.mk x1 x2 x3 x4 x5 x6 x7 x8); simp only [crC] at hW7; have hN := hN.below hb7; have k12 := k12.keep (hb7.block _ k12.lt); have k15 := k15.keep (hb7.block _ k15.lt); obtain ⟨⟨a0, a1, a2, a3, a4, a5, a6, a7⟩, b0, b1, b2, b3, b4, b5, b6, b7⟩ := CE.out _ hN.bel)
  obtain ⟨W8, q19, hW8, hq19, k19, hb8⟩ := new_alloc (W := W7) (t := 26) (Cn.C.mk x1 x2 x3 x4 x5 x6 x7 x8)
  simp only [crC] at hW8
  have l12 := k12.lt
  have l15 := k15.lt
  have l16 := k16.lt
  have lG := Blk.lt hN.r1
  have lK := Blk.lt hN.r2
  have lW := hN.bel.size
  rw [hq19] at l12 l15 l16 lG lK lW
  have hN := hN.below hb8
  have k12 := k12.keep (hb8.block _ k12.lt)
  have k15 := k15.keep (hb8.block _ k15.lt)
  have k16 := k16.keep (hb8.block _ k16.lt)
  obtain ⟨⟨a0, a1, a2, a3, a4, a5, a6, a7⟩, b0, b1, b2, b3, b4, b5, b6, b7⟩ := CE.out _ hN.bel
  go_upto_region 20 with fail
  obtain ⟨m0, m1, m2, m3, m4, m5, m6, m7⟩ := crcells k12
  obtain ⟨o0, o1, o2, o3, o4, o5, o6, o7⟩ := rcells k15
  obtain ⟨s0, s1, s2, s3, s4, s5, s6, s7⟩ := rcells k19
  simp only at m0 m1 m2 m3 m4 m5 m6 m7 o0 o1 o2 o3 o4 o5 o6 o7 s0 s1 s2 s3 s4 s5 s6 s7
  go_wp2_with (first
    | (go_at_call 17; (with_reducible refine (Sn.out _).mono ?_); rintro e w10 ⟨rfl, hb10⟩; have hN := hN.below hb10; obtain ⟨s0, s1, s2, s3, s4, s5, s6, s7⟩ := rcells (k19.keep (hb10.block _ k19.lt)); obtain ⟨m0, m1, m2, m3, m4, m5, m6, m7⟩ := crcells (k16.keep (hb10.block _ k16.lt)); simp only at m0 m1 m2 m3 m4 m5 m6 m7 s0 s1 s2 s3 s4 s5 s6 s7)
    | (go_at_call 17; (with_reducible refine (Sp.out _).mono ?_); rintro e w11 ⟨rfl, hb11⟩; have hN := hN.below hb11))
  go_ret
  exact ⟨rfl, HB1.out.trans (hN.bel.mono HB1.out.size)⟩

set_option maxRecDepth 4000 in
set_option maxHeartbeats 16000000 in
theorem cnew_ofx (c d : Cn.C) (hc : Cn.Ok c) (hd : Cn.Ok d) (gc : c.gain < 18446744073709551616) (gd : d.gain < 18446744073709551616) (hgt : d.gen < c.gen) (hf : c.gen ≠ 1) (w : World) :
    Calls Try.prog 7 #[crV c, crV d, .bool false] w fun e w' => e = .returned (.bool true) ∧ Below w.heap.size w w' := by
  obtain ⟨W0, hW0⟩ : ∃ W, w.alloc (.cells (crC c) 26) = W := ⟨_, rfl⟩
  obtain ⟨W1, hW1⟩ : ∃ W, W0.alloc (.cells (crC d) 26) = W := ⟨_, rfl⟩
  have k0 : Blk W0 w.heap.size 26 (crC c) := by rw [← hW0]; exact Blk.new _ _ _
  have hb0 : Below w.heap.size w W0 := by rw [← hW0]; exact (Below.refl _ _).alloc (Nat.le_refl _) _
  have k1 : Blk W1 w.heap.size 26 (crC c) := by rw [← hW1]; exact k0.alloc _
  have n1 : Blk W1 W0.heap.size 26 (crC d) := by rw [← hW1]; exact Blk.new _ _ _
  have hb1 : Below w.heap.size w W1 := by rw [← hW1]; exact hb0.alloc hb0.size _
  obtain ⟨xb, hx⟩ : ∃ x, w.heap.size = x := ⟨_, rfl⟩
  obtain ⟨xd, hn⟩ : ∃ x, W0.heap.size = x := ⟨_, rfl⟩
  rw [hn] at n1
  have CE : Hid (∀ W, Below W1.heap.size W1 W → (W.cell? ⟨xb, 0, none⟩ = some (.int .i64 c.gen) ∧ W.cell? ⟨xb, 1, none⟩ = some (.int .i64 c.bl) ∧ W.cell? ⟨xb, 2, none⟩ = some (.int .i64 c.se) ∧ W.cell? ⟨xb, 3, none⟩ = some (.float .f64 c.gain) ∧ W.cell? ⟨xb, 4, none⟩ = some (.int .i64 c.at_) ∧ W.cell? ⟨xb, 5, none⟩ = some (.int .i64 c.n) ∧ W.cell? ⟨xb, 6, none⟩ = some (.int .i64 c.kg) ∧ W.cell? ⟨xb, 7, none⟩ = some (.int .i64 c.ht)) ∧ (W.cell? ⟨xd, 0, none⟩ = some (.int .i64 d.gen) ∧ W.cell? ⟨xd, 1, none⟩ = some (.int .i64 d.bl) ∧ W.cell? ⟨xd, 2, none⟩ = some (.int .i64 d.se) ∧ W.cell? ⟨xd, 3, none⟩ = some (.float .f64 d.gain) ∧ W.cell? ⟨xd, 4, none⟩ = some (.int .i64 d.at_) ∧ W.cell? ⟨xd, 5, none⟩ = some (.int .i64 d.n) ∧ W.cell? ⟨xd, 6, none⟩ = some (.int .i64 d.kg) ∧ W.cell? ⟨xd, 7, none⟩ = some (.int .i64 d.ht))) := Lib.hid (fun W h => ⟨xcells (hx ▸ k1.keep (h.block _ k1.lt)), xcells (n1.keep (h.block _ n1.lt))⟩)
  have AW0 : Hid (∀ W, Below W1.heap.size W1 W → Calls Try.prog 10 #[] W fun e w' => e = .returned (.bool true) ∧ Below W1.heap.size W1 w') := Lib.hid (fun W h => by
    refine (cawake_any W).mono ?_
    rintro e w' ⟨rfl, hb⟩
    exact ⟨rfl, h.trans (hb.mono h.size)⟩)
  have Mc : Hid (∀ W, Below W1.heap.size W1 W → Calls Try.prog 15 #[crV c] W fun e w' => e = .returned (.bool true) ∧ Below W1.heap.size W1 w') := Lib.hid (fun W h => by
    have h1 := rmayc_any c W
    rw [show Cn.okB c = true by unfold Cn.okB; exact decide_eq_true hc] at h1
    refine h1.mono ?_
    rintro e w' ⟨rfl, hb⟩
    exact ⟨rfl, h.trans (hb.mono h.size)⟩)
  have Md : Hid (∀ W, Below W1.heap.size W1 W → Calls Try.prog 15 #[crV d] W fun e w' => e = .returned (.bool true) ∧ Below W1.heap.size W1 w') := Lib.hid (fun W h => by
    have h1 := rmayc_any d W
    rw [show Cn.okB d = true by unfold Cn.okB; exact decide_eq_true hd] at h1
    refine h1.mono ?_
    rintro e w' ⟨rfl, hb⟩
    exact ⟨rfl, h.trans (hb.mono h.size)⟩)
  have Lc : Hid (∀ W, Below W1.heap.size W1 W → Calls Try.prog 12 #[crV c] W fun e w' => e = .returned (crV c) ∧ Below W1.heap.size W1 w') := Lib.hid (fun W h => by
    refine (lcrown_any c W).mono ?_
    rintro e w' ⟨rfl, hb⟩
    exact ⟨rfl, h.trans (hb.mono h.size)⟩)
  have Ec1 : Hid (∀ W, Below W1.heap.size W1 W → Calls Try.prog 11 #[crV c] W fun e w' => ∃ G, e = .returned (.tuple #[.slice (some ⟨G, 0, none⟩) 64 64, .int .i64 0]) ∧ Below W1.heap.size W1 w' ∧ ByBlk w' G (Cn.enc c)) := Lib.hid (fun W h => by
    refine (lenc c hc gc W).mono ?_
    rintro e w' ⟨G, rfl, _, hr, hb⟩
    exact ⟨G, rfl, h.trans (hb.mono h.size), hr⟩)
  have Ld : Hid (∀ W G, Below W1.heap.size W1 W → ByBlk W G (Cn.enc c) → Calls Try.prog 12 #[crV d] W fun e w' => e = .returned (crV d) ∧ Below W1.heap.size W1 w' ∧ ByBlk w' G (Cn.enc c)) := Lib.hid (fun W G h hG => by
    refine (lcrown_any d W).mono ?_
    rintro e w' ⟨rfl, hb⟩
    exact ⟨rfl, h.trans (hb.mono h.size), byblk_below hG hb⟩)
  have Ed1 : Hid (∀ W G, Below W1.heap.size W1 W → ByBlk W G (Cn.enc c) → Calls Try.prog 11 #[crV d] W fun e w' => ∃ K, e = .returned (.tuple #[.slice (some ⟨K, 0, none⟩) 64 64, .int .i64 0]) ∧ Nw W1 w' c d xb xd G K) := Lib.hid (fun W G h hG => by
    refine (lenc d hd gd W).mono ?_
    rintro e w' ⟨K, rfl, _, hr, hb⟩
    exact ⟨K, rfl, h.trans (hb.mono h.size), byblk_below hG hb, hr⟩)
  have CH : Hid (∀ W G K, Nw W1 W c d xb xd G K → Calls Try.prog 21 #[.slice (some ⟨G, 0, none⟩) 64 64, .slice (some ⟨K, 0, none⟩) 64 64] W fun e w' => e = .returned (.tuple #[crV c, .int .i64 0, .int .i64 0]) ∧ Below W.heap.size W w') := Lib.hid (fun W G K h => by
    have h1 := lchoose hc hd gc gd (by omega) h.r1 h.r2
    rw [if_pos hgt, if_pos hgt] at h1
    exact h1)
  have C1 : Hid (∀ W G K g, g = W.heap.size → Nw W1 W c d xb xd G K → Calls Try.prog 21 #[.slice (some ⟨G, 0, none⟩) 64 64, .slice (some ⟨g, 0, none⟩) 64 64] (W.alloc (.cells (zcells 64) 5)) fun e w' => e = .returned (.tuple #[crV zeroC, .int .i64 0, .int .i64 5]) ∧ Below W.heap.size W w') := Lib.hid (fun W G K g hg h => by
    subst hg
    have ha : Below W.heap.size W (W.alloc (.cells (zcells 64) 5)) := (Below.refl _ _).alloc (Nat.le_refl _) _
    have h1 := lchoose1 hc gc (h.below ha).r1 (byblk_zeros W 64)
    rw [if_neg hf, if_neg hf] at h1
    refine h1.mono ?_
    rintro e w' ⟨rfl, hb⟩
    exact ⟨rfl, ha.trans (hb.mono ha.size)⟩)
  have Sn : Hid (∀ W, Calls Try.prog 17 #[crV c, crV c] W fun e w' => e = .returned (.bool true) ∧ Below W.heap.size W w') := Lib.hid (same_self c)
  have Sp : Hid (∀ W, Calls Try.prog 17 #[crV c, crV c] W fun e w' => e = .returned (.bool true) ∧ Below W.heap.size W w') := Lib.hid (same_self c)
  have MK : Hid (∀ W, (Instr.makeSlice 28 (.int .i64 64) (.int .i64 64)).run Try.prog W = .ok (.slice (some ⟨W.heap.size, 0, none⟩) 64 64) (W.alloc (.cells (zcells 64) 5))) := Lib.hid (make_bytes 64 (by decide))
  have HB1 := Lib.hid hb1
  have hbc := Below.refl W1.heap.size W1
  have g1 : decide (c.gen < d.gen) = false := by simp; omega
  have g2 : (c.gen == d.gen) = false := by simp; omega
  have g3 : (c.gen == 1) = false := by simp; omega
  obtain ⟨⟨a0, a1, a2, a3, a4, a5, a6, a7⟩, b0, b1, b2, b3, b4, b5, b6, b7⟩ := CE.out W1 (Below.refl _ _)
  have hsf := store_float
  clear k0 k1 n1 hb0 hb1 hc hd gc gd hgt hf
  obtain ⟨x1, x2, x3, x4, x5, x6, x7, x8⟩ := c
  obtain ⟨z1, z2, z3, z4, z5, z6, z7, z8⟩ := d
  simp only [crC, crV, zeroC] at hW0 hW1 Mc Md Lc Ld Ec1 Ed1 CH C1 Sn Sp CE a0 a1 a2 a3 a4 a5 a6 a7 b0 b1 b2 b3 b4 b5 b6 b7 g1 g2 g3 ⊢
  go_enter Try.func7, Try.ntmps7
  go_upto_region 12 with (first
    | (go_at_call 10; (with_reducible refine (AW0.out _ hbc).mono ?_); rintro e w1 ⟨rfl, hbc⟩; obtain ⟨⟨a0, a1, a2, a3, a4, a5, a6, a7⟩, b0, b1, b2, b3, b4, b5, b6, b7⟩ := CE.out _ hbc)
    | (go_at_call 15; (with_reducible refine (Mc.out _ hbc).mono ?_); rintro e w1 ⟨rfl, hbc⟩; obtain ⟨⟨a0, a1, a2, a3, a4, a5, a6, a7⟩, b0, b1, b2, b3, b4, b5, b6, b7⟩ := CE.out _ hbc)
    | (go_at_call 15; (with_reducible refine (Md.out _ hbc).mono ?_); rintro e w1 ⟨rfl, hbc⟩; obtain ⟨⟨a0, a1, a2, a3, a4, a5, a6, a7⟩, b0, b1, b2, b3, b4, b5, b6, b7⟩ := CE.out _ hbc)
    | (go_at_call 12; (with_reducible refine (Lc.out _ hbc).mono ?_); rintro e w1 ⟨rfl, hbc⟩)
    | (go_at_call 11; (with_reducible refine (Ec1.out _ hbc).mono ?_); rintro e w1 ⟨G, rfl, hbc, hG⟩; obtain ⟨⟨a0, a1, a2, a3, a4, a5, a6, a7⟩, b0, b1, b2, b3, b4, b5, b6, b7⟩ := CE.out _ hbc)
    | (go_at_call 12; (with_reducible refine (Ld.out _ _ hbc hG).mono ?_); rintro e w1 ⟨rfl, hbc, hG⟩)
    | (go_at_call 11; (with_reducible refine (Ed1.out _ _ hbc hG).mono ?_); rintro e w1 ⟨K, rfl, hN⟩; obtain ⟨⟨a0, a1, a2, a3, a4, a5, a6, a7⟩, b0, b1, b2, b3, b4, b5, b6, b7⟩ := CE.out _ hN.bel))
  go_upto_region 13 with (go_at_call 21; (with_reducible refine (CH.out _ _ _ hN).mono ?_); rintro e w2 ⟨rfl, hb2⟩; have hN := hN.below hb2; obtain ⟨W3, q12, hW3, hq12, k12, hb3⟩ := new_alloc (W := w2) (t := 36) (Cn.C.mk x1 x2 x3 x4 x5 x6 x7 x8); simp only [crC] at hW3; have hN := hN.below hb3; obtain ⟨⟨a0, a1, a2, a3, a4, a5, a6, a7⟩, b0, b1, b2, b3, b4, b5, b6, b7⟩ := CE.out _ hN.bel)
  obtain ⟨W4, q15, hW4, hq15, k15, hb4⟩ := new_alloc (W := W3) (t := 26) (Cn.C.mk x1 x2 x3 x4 x5 x6 x7 x8)
  simp only [crC] at hW4
  have l12 := k12.lt
  have lG := Blk.lt hN.r1
  have lK := Blk.lt hN.r2
  have lW := hN.bel.size
  rw [hq15] at l12 lG lK lW
  have hN := hN.below hb4
  have k12 := k12.keep (hb4.block _ k12.lt)
  obtain ⟨⟨a0, a1, a2, a3, a4, a5, a6, a7⟩, b0, b1, b2, b3, b4, b5, b6, b7⟩ := CE.out _ hN.bel
  go_upto_region 16 with fail
  have mk := MK.out W4
  go_upto_region 17 with (go_at_call 21; (with_reducible refine (C1.out _ _ _ _ rfl hN).mono ?_); rintro e w6 ⟨rfl, hb6⟩; have hN := hN.below hb6; have k12 := k12.keep (hb6.block _ k12.lt); have k15 := k15.keep (hb6.block _ k15.lt); have hb7 : Below w6.heap.size w6 (w6.alloc (.cells #[.int .i64 0, .int .i64 0, .int .i64 0, .float .f64 0, .int .i64 0, .int .i64 0, .int .i64 0, .int .i64 0] 36)) := (Below.refl _ _).alloc (Nat.le_refl _) _; have hN := hN.below hb7; have k12 := k12.keep (hb7.block _ k12.lt); have k15 := k15.keep (hb7.block _ k15.lt); obtain ⟨⟨a0, a1, a2, a3, a4, a5, a6, a7⟩, b0, b1, b2, b3, b4, b5, b6, b7⟩ := CE.out _ hN.bel)
  obtain ⟨W8, q19, hW8, hq19, k19, hb8⟩ := new_alloc (W := (w6.alloc (.cells #[.int .i64 0, .int .i64 0, .int .i64 0, .float .f64 0, .int .i64 0, .int .i64 0, .int .i64 0, .int .i64 0] 36))) (t := 26) (Cn.C.mk x1 x2 x3 x4 x5 x6 x7 x8)
  simp only [crC] at hW8
  have l12 := k12.lt
  have l15 := k15.lt
  have lG := Blk.lt hN.r1
  have lK := Blk.lt hN.r2
  have lW := hN.bel.size
  rw [hq19] at l12 l15 lG lK lW
  have hq20 : w6.heap.size + 1 = q19 := by simpa using hq19
  have hN := hN.below hb8
  have k12 := k12.keep (hb8.block _ k12.lt)
  have k15 := k15.keep (hb8.block _ k15.lt)
  skip
  obtain ⟨⟨a0, a1, a2, a3, a4, a5, a6, a7⟩, b0, b1, b2, b3, b4, b5, b6, b7⟩ := CE.out _ hN.bel
  go_upto_region 20 with fail
  obtain ⟨m0, m1, m2, m3, m4, m5, m6, m7⟩ := crcells k12
  obtain ⟨o0, o1, o2, o3, o4, o5, o6, o7⟩ := rcells k15
  obtain ⟨s0, s1, s2, s3, s4, s5, s6, s7⟩ := rcells k19
  simp only at m0 m1 m2 m3 m4 m5 m6 m7 o0 o1 o2 o3 o4 o5 o6 o7 s0 s1 s2 s3 s4 s5 s6 s7
  go_wp2_with (first
    | (go_at_call 17; (with_reducible refine (Sn.out _).mono ?_); rintro e w10 ⟨rfl, hb10⟩; have hN := hN.below hb10; obtain ⟨s0, s1, s2, s3, s4, s5, s6, s7⟩ := rcells (k19.keep (hb10.block _ k19.lt)); simp only at s0 s1 s2 s3 s4 s5 s6 s7)
    | (go_at_call 17; (with_reducible refine (Sp.out _).mono ?_); rintro e w11 ⟨rfl, hb11⟩; have hN := hN.below hb11))
  go_ret
  exact ⟨rfl, HB1.out.trans (hN.bel.mono HB1.out.size)⟩

set_option maxRecDepth 4000 in
set_option maxHeartbeats 16000000 in
theorem cnew_ot1 (c d : Cn.C) (hc : Cn.Ok c) (hd : Cn.Ok d) (gc : c.gain < 18446744073709551616) (gd : d.gain < 18446744073709551616) (hgt : d.gen < c.gen) (hf : d.gen = 1) (w : World) :
    Calls Try.prog 7 #[crV c, crV d, .bool true] w fun e w' => e = .returned (.bool true) ∧ Below w.heap.size w w' := by
  obtain ⟨W0, hW0⟩ : ∃ W, w.alloc (.cells (crC c) 26) = W := ⟨_, rfl⟩
  obtain ⟨W1, hW1⟩ : ∃ W, W0.alloc (.cells (crC d) 26) = W := ⟨_, rfl⟩
  have k0 : Blk W0 w.heap.size 26 (crC c) := by rw [← hW0]; exact Blk.new _ _ _
  have hb0 : Below w.heap.size w W0 := by rw [← hW0]; exact (Below.refl _ _).alloc (Nat.le_refl _) _
  have k1 : Blk W1 w.heap.size 26 (crC c) := by rw [← hW1]; exact k0.alloc _
  have n1 : Blk W1 W0.heap.size 26 (crC d) := by rw [← hW1]; exact Blk.new _ _ _
  have hb1 : Below w.heap.size w W1 := by rw [← hW1]; exact hb0.alloc hb0.size _
  obtain ⟨xb, hx⟩ : ∃ x, w.heap.size = x := ⟨_, rfl⟩
  obtain ⟨xd, hn⟩ : ∃ x, W0.heap.size = x := ⟨_, rfl⟩
  rw [hn] at n1
  have CE : Hid (∀ W, Below W1.heap.size W1 W → (W.cell? ⟨xb, 0, none⟩ = some (.int .i64 c.gen) ∧ W.cell? ⟨xb, 1, none⟩ = some (.int .i64 c.bl) ∧ W.cell? ⟨xb, 2, none⟩ = some (.int .i64 c.se) ∧ W.cell? ⟨xb, 3, none⟩ = some (.float .f64 c.gain) ∧ W.cell? ⟨xb, 4, none⟩ = some (.int .i64 c.at_) ∧ W.cell? ⟨xb, 5, none⟩ = some (.int .i64 c.n) ∧ W.cell? ⟨xb, 6, none⟩ = some (.int .i64 c.kg) ∧ W.cell? ⟨xb, 7, none⟩ = some (.int .i64 c.ht)) ∧ (W.cell? ⟨xd, 0, none⟩ = some (.int .i64 d.gen) ∧ W.cell? ⟨xd, 1, none⟩ = some (.int .i64 d.bl) ∧ W.cell? ⟨xd, 2, none⟩ = some (.int .i64 d.se) ∧ W.cell? ⟨xd, 3, none⟩ = some (.float .f64 d.gain) ∧ W.cell? ⟨xd, 4, none⟩ = some (.int .i64 d.at_) ∧ W.cell? ⟨xd, 5, none⟩ = some (.int .i64 d.n) ∧ W.cell? ⟨xd, 6, none⟩ = some (.int .i64 d.kg) ∧ W.cell? ⟨xd, 7, none⟩ = some (.int .i64 d.ht))) := Lib.hid (fun W h => ⟨xcells (hx ▸ k1.keep (h.block _ k1.lt)), xcells (n1.keep (h.block _ n1.lt))⟩)
  have AW0 : Hid (∀ W, Below W1.heap.size W1 W → Calls Try.prog 10 #[] W fun e w' => e = .returned (.bool true) ∧ Below W1.heap.size W1 w') := Lib.hid (fun W h => by
    refine (cawake_any W).mono ?_
    rintro e w' ⟨rfl, hb⟩
    exact ⟨rfl, h.trans (hb.mono h.size)⟩)
  have Mc : Hid (∀ W, Below W1.heap.size W1 W → Calls Try.prog 15 #[crV c] W fun e w' => e = .returned (.bool true) ∧ Below W1.heap.size W1 w') := Lib.hid (fun W h => by
    have h1 := rmayc_any c W
    rw [show Cn.okB c = true by unfold Cn.okB; exact decide_eq_true hc] at h1
    refine h1.mono ?_
    rintro e w' ⟨rfl, hb⟩
    exact ⟨rfl, h.trans (hb.mono h.size)⟩)
  have Md : Hid (∀ W, Below W1.heap.size W1 W → Calls Try.prog 15 #[crV d] W fun e w' => e = .returned (.bool true) ∧ Below W1.heap.size W1 w') := Lib.hid (fun W h => by
    have h1 := rmayc_any d W
    rw [show Cn.okB d = true by unfold Cn.okB; exact decide_eq_true hd] at h1
    refine h1.mono ?_
    rintro e w' ⟨rfl, hb⟩
    exact ⟨rfl, h.trans (hb.mono h.size)⟩)
  have Lc : Hid (∀ W, Below W1.heap.size W1 W → Calls Try.prog 12 #[crV c] W fun e w' => e = .returned (crV c) ∧ Below W1.heap.size W1 w') := Lib.hid (fun W h => by
    refine (lcrown_any c W).mono ?_
    rintro e w' ⟨rfl, hb⟩
    exact ⟨rfl, h.trans (hb.mono h.size)⟩)
  have Ec1 : Hid (∀ W, Below W1.heap.size W1 W → Calls Try.prog 11 #[crV c] W fun e w' => ∃ G, e = .returned (.tuple #[.slice (some ⟨G, 0, none⟩) 64 64, .int .i64 0]) ∧ Below W1.heap.size W1 w' ∧ ByBlk w' G (Cn.enc c)) := Lib.hid (fun W h => by
    refine (lenc c hc gc W).mono ?_
    rintro e w' ⟨G, rfl, _, hr, hb⟩
    exact ⟨G, rfl, h.trans (hb.mono h.size), hr⟩)
  have Ld : Hid (∀ W G, Below W1.heap.size W1 W → ByBlk W G (Cn.enc c) → Calls Try.prog 12 #[crV d] W fun e w' => e = .returned (crV d) ∧ Below W1.heap.size W1 w' ∧ ByBlk w' G (Cn.enc c)) := Lib.hid (fun W G h hG => by
    refine (lcrown_any d W).mono ?_
    rintro e w' ⟨rfl, hb⟩
    exact ⟨rfl, h.trans (hb.mono h.size), byblk_below hG hb⟩)
  have Ed1 : Hid (∀ W G, Below W1.heap.size W1 W → ByBlk W G (Cn.enc c) → Calls Try.prog 11 #[crV d] W fun e w' => ∃ K, e = .returned (.tuple #[.slice (some ⟨K, 0, none⟩) 64 64, .int .i64 0]) ∧ Nw W1 w' c d xb xd G K) := Lib.hid (fun W G h hG => by
    refine (lenc d hd gd W).mono ?_
    rintro e w' ⟨K, rfl, _, hr, hb⟩
    exact ⟨K, rfl, h.trans (hb.mono h.size), byblk_below hG hb, hr⟩)
  have CH : Hid (∀ W G K, Nw W1 W c d xb xd G K → Calls Try.prog 21 #[.slice (some ⟨K, 0, none⟩) 64 64, .slice (some ⟨G, 0, none⟩) 64 64] W fun e w' => e = .returned (.tuple #[crV c, .int .i64 1, .int .i64 0]) ∧ Below W.heap.size W w') := Lib.hid (fun W G K h => by
    have h1 := lchoose hd hc gd gc (by omega) h.r2 h.r1
    rw [if_neg (by omega), if_neg (by omega)] at h1
    exact h1)
  have C1 : Hid (∀ W G K g, g = W.heap.size → Nw W1 W c d xb xd G K → Calls Try.prog 21 #[.slice (some ⟨K, 0, none⟩) 64 64, .slice (some ⟨g, 0, none⟩) 64 64] (W.alloc (.cells (zcells 64) 5)) fun e w' => e = .returned (.tuple #[crV d, .int .i64 0, .int .i64 0]) ∧ Below W.heap.size W w') := Lib.hid (fun W G K g hg h => by
    subst hg
    have ha : Below W.heap.size W (W.alloc (.cells (zcells 64) 5)) := (Below.refl _ _).alloc (Nat.le_refl _) _
    have h1 := lchoose1 hd gd (h.below ha).r2 (byblk_zeros W 64)
    rw [if_pos hf, if_pos hf] at h1
    refine h1.mono ?_
    rintro e w' ⟨rfl, hb⟩
    exact ⟨rfl, ha.trans (hb.mono ha.size)⟩)
  have Sn : Hid (∀ W, Calls Try.prog 17 #[crV c, crV c] W fun e w' => e = .returned (.bool true) ∧ Below W.heap.size W w') := Lib.hid (same_self c)
  have Sp : Hid (∀ W, Calls Try.prog 17 #[crV d, crV d] W fun e w' => e = .returned (.bool true) ∧ Below W.heap.size W w') := Lib.hid (same_self d)
  have MK : Hid (∀ W, (Instr.makeSlice 28 (.int .i64 64) (.int .i64 64)).run Try.prog W = .ok (.slice (some ⟨W.heap.size, 0, none⟩) 64 64) (W.alloc (.cells (zcells 64) 5))) := Lib.hid (make_bytes 64 (by decide))
  have HB1 := Lib.hid hb1
  have hbc := Below.refl W1.heap.size W1
  have g1 : decide (c.gen < d.gen) = false := by simp; omega
  have g2 : (c.gen == d.gen) = false := by simp; omega
  have g3 : (d.gen == 1) = true := by simp; omega
  obtain ⟨⟨a0, a1, a2, a3, a4, a5, a6, a7⟩, b0, b1, b2, b3, b4, b5, b6, b7⟩ := CE.out W1 (Below.refl _ _)
  have hsf := store_float
  clear k0 k1 n1 hb0 hb1 hc hd gc gd hgt hf
  obtain ⟨x1, x2, x3, x4, x5, x6, x7, x8⟩ := c
  obtain ⟨z1, z2, z3, z4, z5, z6, z7, z8⟩ := d
  simp only [crC, crV] at hW0 hW1 Mc Md Lc Ld Ec1 Ed1 CH C1 Sn Sp CE a0 a1 a2 a3 a4 a5 a6 a7 b0 b1 b2 b3 b4 b5 b6 b7 g1 g2 g3 ⊢
  go_enter Try.func7, Try.ntmps7
  go_upto_region 12 with (first
    | (go_at_call 10; (with_reducible refine (AW0.out _ hbc).mono ?_); rintro e w1 ⟨rfl, hbc⟩; obtain ⟨⟨a0, a1, a2, a3, a4, a5, a6, a7⟩, b0, b1, b2, b3, b4, b5, b6, b7⟩ := CE.out _ hbc)
    | (go_at_call 15; (with_reducible refine (Mc.out _ hbc).mono ?_); rintro e w1 ⟨rfl, hbc⟩; obtain ⟨⟨a0, a1, a2, a3, a4, a5, a6, a7⟩, b0, b1, b2, b3, b4, b5, b6, b7⟩ := CE.out _ hbc)
    | (go_at_call 15; (with_reducible refine (Md.out _ hbc).mono ?_); rintro e w1 ⟨rfl, hbc⟩; obtain ⟨⟨a0, a1, a2, a3, a4, a5, a6, a7⟩, b0, b1, b2, b3, b4, b5, b6, b7⟩ := CE.out _ hbc)
    | (go_at_call 12; (with_reducible refine (Lc.out _ hbc).mono ?_); rintro e w1 ⟨rfl, hbc⟩)
    | (go_at_call 11; (with_reducible refine (Ec1.out _ hbc).mono ?_); rintro e w1 ⟨G, rfl, hbc, hG⟩; obtain ⟨⟨a0, a1, a2, a3, a4, a5, a6, a7⟩, b0, b1, b2, b3, b4, b5, b6, b7⟩ := CE.out _ hbc)
    | (go_at_call 12; (with_reducible refine (Ld.out _ _ hbc hG).mono ?_); rintro e w1 ⟨rfl, hbc, hG⟩)
    | (go_at_call 11; (with_reducible refine (Ed1.out _ _ hbc hG).mono ?_); rintro e w1 ⟨K, rfl, hN⟩; obtain ⟨⟨a0, a1, a2, a3, a4, a5, a6, a7⟩, b0, b1, b2, b3, b4, b5, b6, b7⟩ := CE.out _ hN.bel))
  go_upto_region 13 with (go_at_call 21; (with_reducible refine (CH.out _ _ _ hN).mono ?_); rintro e w2 ⟨rfl, hb2⟩; have hN := hN.below hb2; obtain ⟨W3, q12, hW3, hq12, k12, hb3⟩ := new_alloc (W := w2) (t := 36) (Cn.C.mk x1 x2 x3 x4 x5 x6 x7 x8); simp only [crC] at hW3; have hN := hN.below hb3; obtain ⟨⟨a0, a1, a2, a3, a4, a5, a6, a7⟩, b0, b1, b2, b3, b4, b5, b6, b7⟩ := CE.out _ hN.bel)
  obtain ⟨W4, q15, hW4, hq15, k15, hb4⟩ := new_alloc (W := W3) (t := 26) (Cn.C.mk x1 x2 x3 x4 x5 x6 x7 x8)
  simp only [crC] at hW4
  have l12 := k12.lt
  have lG := Blk.lt hN.r1
  have lK := Blk.lt hN.r2
  have lW := hN.bel.size
  rw [hq15] at l12 lG lK lW
  have hN := hN.below hb4
  have k12 := k12.keep (hb4.block _ k12.lt)
  obtain ⟨⟨a0, a1, a2, a3, a4, a5, a6, a7⟩, b0, b1, b2, b3, b4, b5, b6, b7⟩ := CE.out _ hN.bel
  go_upto_region 16 with fail
  have mk := MK.out W4
  go_upto_region 17 with (go_at_call 21; (with_reducible refine (C1.out _ _ _ _ rfl hN).mono ?_); rintro e w6 ⟨rfl, hb6⟩; have hN := hN.below hb6; have k12 := k12.keep (hb6.block _ k12.lt); have k15 := k15.keep (hb6.block _ k15.lt); obtain ⟨W7, q16, hW7, hq16, k16, hb7⟩ := new_alloc (W := w6) (t := 36) (Cn.C.mk z1 z2 z3 z4 z5 z6 z7 z8); simp only [crC] at hW7; have hN := hN.below hb7; have k12 := k12.keep (hb7.block _ k12.lt); have k15 := k15.keep (hb7.block _ k15.lt); obtain ⟨⟨a0, a1, a2, a3, a4, a5, a6, a7⟩, b0, b1, b2, b3, b4, b5, b6, b7⟩ := CE.out _ hN.bel)
  obtain ⟨W8, q19, hW8, hq19, k19, hb8⟩ := new_alloc (W := W7) (t := 26) (Cn.C.mk x1 x2 x3 x4 x5 x6 x7 x8)
  simp only [crC] at hW8
  have l12 := k12.lt
  have l15 := k15.lt
  have l16 := k16.lt
  have lG := Blk.lt hN.r1
  have lK := Blk.lt hN.r2
  have lW := hN.bel.size
  rw [hq19] at l12 l15 l16 lG lK lW
  have hN := hN.below hb8
  have k12 := k12.keep (hb8.block _ k12.lt)
  have k15 := k15.keep (hb8.block _ k15.lt)
  have k16 := k16.keep (hb8.block _ k16.lt)
  obtain ⟨⟨a0, a1, a2, a3, a4, a5, a6, a7⟩, b0, b1, b2, b3, b4, b5, b6, b7⟩ := CE.out _ hN.bel
  obtain ⟨W9, hW9, k19', hb9⟩ := rcr_put k19 (Cn.C.mk z1 z2 z3 z4 z5 z6 z7 z8)
  have hb9 := hb9 q19 (Nat.le_refl _)
  obtain ⟨e0, e1, e2, e3, e4, e5, e6, e7⟩ := rcells k19
  obtain ⟨f0, f1, f2, f3, f4, f5, f6, f7⟩ := rfroz k19
  simp only at hW9 e0 e1 e2 e3 e4 e5 e6 e7
  have hN := hN.keep lG lK lW hb9
  have k12 := k12.keep (hb9.block _ l12)
  have k15 := k15.keep (hb9.block _ l15)
  have k16 := k16.keep (hb9.block _ l16)
  have k19 := k19'
  go_upto_region 20 with fail
  clear e0 e1 e2 e3 e4 e5 e6 e7 f0 f1 f2 f3 f4 f5 f6 f7
  obtain ⟨m0, m1, m2, m3, m4, m5, m6, m7⟩ := crcells k12
  obtain ⟨o0, o1, o2, o3, o4, o5, o6, o7⟩ := rcells k15
  obtain ⟨s0, s1, s2, s3, s4, s5, s6, s7⟩ := rcells k19
  simp only at m0 m1 m2 m3 m4 m5 m6 m7 o0 o1 o2 o3 o4 o5 o6 o7 s0 s1 s2 s3 s4 s5 s6 s7
  go_wp2_with (first
    | (go_at_call 17; (with_reducible refine (Sn.out _).mono ?_); rintro e w10 ⟨rfl, hb10⟩; have hN := hN.below hb10; obtain ⟨s0, s1, s2, s3, s4, s5, s6, s7⟩ := rcells (k19.keep (hb10.block _ k19.lt)); obtain ⟨m0, m1, m2, m3, m4, m5, m6, m7⟩ := crcells (k16.keep (hb10.block _ k16.lt)); simp only at m0 m1 m2 m3 m4 m5 m6 m7 s0 s1 s2 s3 s4 s5 s6 s7)
    | (go_at_call 17; (with_reducible refine (Sp.out _).mono ?_); rintro e w11 ⟨rfl, hb11⟩; have hN := hN.below hb11))
  go_ret
  exact ⟨rfl, HB1.out.trans (hN.bel.mono HB1.out.size)⟩

set_option maxRecDepth 4000 in
set_option maxHeartbeats 16000000 in
theorem cnew_otx (c d : Cn.C) (hc : Cn.Ok c) (hd : Cn.Ok d) (gc : c.gain < 18446744073709551616) (gd : d.gain < 18446744073709551616) (hgt : d.gen < c.gen) (hf : d.gen ≠ 1) (w : World) :
    Calls Try.prog 7 #[crV c, crV d, .bool true] w fun e w' => e = .returned (.bool true) ∧ Below w.heap.size w w' := by
  obtain ⟨W0, hW0⟩ : ∃ W, w.alloc (.cells (crC c) 26) = W := ⟨_, rfl⟩
  obtain ⟨W1, hW1⟩ : ∃ W, W0.alloc (.cells (crC d) 26) = W := ⟨_, rfl⟩
  have k0 : Blk W0 w.heap.size 26 (crC c) := by rw [← hW0]; exact Blk.new _ _ _
  have hb0 : Below w.heap.size w W0 := by rw [← hW0]; exact (Below.refl _ _).alloc (Nat.le_refl _) _
  have k1 : Blk W1 w.heap.size 26 (crC c) := by rw [← hW1]; exact k0.alloc _
  have n1 : Blk W1 W0.heap.size 26 (crC d) := by rw [← hW1]; exact Blk.new _ _ _
  have hb1 : Below w.heap.size w W1 := by rw [← hW1]; exact hb0.alloc hb0.size _
  obtain ⟨xb, hx⟩ : ∃ x, w.heap.size = x := ⟨_, rfl⟩
  obtain ⟨xd, hn⟩ : ∃ x, W0.heap.size = x := ⟨_, rfl⟩
  rw [hn] at n1
  have CE : Hid (∀ W, Below W1.heap.size W1 W → (W.cell? ⟨xb, 0, none⟩ = some (.int .i64 c.gen) ∧ W.cell? ⟨xb, 1, none⟩ = some (.int .i64 c.bl) ∧ W.cell? ⟨xb, 2, none⟩ = some (.int .i64 c.se) ∧ W.cell? ⟨xb, 3, none⟩ = some (.float .f64 c.gain) ∧ W.cell? ⟨xb, 4, none⟩ = some (.int .i64 c.at_) ∧ W.cell? ⟨xb, 5, none⟩ = some (.int .i64 c.n) ∧ W.cell? ⟨xb, 6, none⟩ = some (.int .i64 c.kg) ∧ W.cell? ⟨xb, 7, none⟩ = some (.int .i64 c.ht)) ∧ (W.cell? ⟨xd, 0, none⟩ = some (.int .i64 d.gen) ∧ W.cell? ⟨xd, 1, none⟩ = some (.int .i64 d.bl) ∧ W.cell? ⟨xd, 2, none⟩ = some (.int .i64 d.se) ∧ W.cell? ⟨xd, 3, none⟩ = some (.float .f64 d.gain) ∧ W.cell? ⟨xd, 4, none⟩ = some (.int .i64 d.at_) ∧ W.cell? ⟨xd, 5, none⟩ = some (.int .i64 d.n) ∧ W.cell? ⟨xd, 6, none⟩ = some (.int .i64 d.kg) ∧ W.cell? ⟨xd, 7, none⟩ = some (.int .i64 d.ht))) := Lib.hid (fun W h => ⟨xcells (hx ▸ k1.keep (h.block _ k1.lt)), xcells (n1.keep (h.block _ n1.lt))⟩)
  have AW0 : Hid (∀ W, Below W1.heap.size W1 W → Calls Try.prog 10 #[] W fun e w' => e = .returned (.bool true) ∧ Below W1.heap.size W1 w') := Lib.hid (fun W h => by
    refine (cawake_any W).mono ?_
    rintro e w' ⟨rfl, hb⟩
    exact ⟨rfl, h.trans (hb.mono h.size)⟩)
  have Mc : Hid (∀ W, Below W1.heap.size W1 W → Calls Try.prog 15 #[crV c] W fun e w' => e = .returned (.bool true) ∧ Below W1.heap.size W1 w') := Lib.hid (fun W h => by
    have h1 := rmayc_any c W
    rw [show Cn.okB c = true by unfold Cn.okB; exact decide_eq_true hc] at h1
    refine h1.mono ?_
    rintro e w' ⟨rfl, hb⟩
    exact ⟨rfl, h.trans (hb.mono h.size)⟩)
  have Md : Hid (∀ W, Below W1.heap.size W1 W → Calls Try.prog 15 #[crV d] W fun e w' => e = .returned (.bool true) ∧ Below W1.heap.size W1 w') := Lib.hid (fun W h => by
    have h1 := rmayc_any d W
    rw [show Cn.okB d = true by unfold Cn.okB; exact decide_eq_true hd] at h1
    refine h1.mono ?_
    rintro e w' ⟨rfl, hb⟩
    exact ⟨rfl, h.trans (hb.mono h.size)⟩)
  have Lc : Hid (∀ W, Below W1.heap.size W1 W → Calls Try.prog 12 #[crV c] W fun e w' => e = .returned (crV c) ∧ Below W1.heap.size W1 w') := Lib.hid (fun W h => by
    refine (lcrown_any c W).mono ?_
    rintro e w' ⟨rfl, hb⟩
    exact ⟨rfl, h.trans (hb.mono h.size)⟩)
  have Ec1 : Hid (∀ W, Below W1.heap.size W1 W → Calls Try.prog 11 #[crV c] W fun e w' => ∃ G, e = .returned (.tuple #[.slice (some ⟨G, 0, none⟩) 64 64, .int .i64 0]) ∧ Below W1.heap.size W1 w' ∧ ByBlk w' G (Cn.enc c)) := Lib.hid (fun W h => by
    refine (lenc c hc gc W).mono ?_
    rintro e w' ⟨G, rfl, _, hr, hb⟩
    exact ⟨G, rfl, h.trans (hb.mono h.size), hr⟩)
  have Ld : Hid (∀ W G, Below W1.heap.size W1 W → ByBlk W G (Cn.enc c) → Calls Try.prog 12 #[crV d] W fun e w' => e = .returned (crV d) ∧ Below W1.heap.size W1 w' ∧ ByBlk w' G (Cn.enc c)) := Lib.hid (fun W G h hG => by
    refine (lcrown_any d W).mono ?_
    rintro e w' ⟨rfl, hb⟩
    exact ⟨rfl, h.trans (hb.mono h.size), byblk_below hG hb⟩)
  have Ed1 : Hid (∀ W G, Below W1.heap.size W1 W → ByBlk W G (Cn.enc c) → Calls Try.prog 11 #[crV d] W fun e w' => ∃ K, e = .returned (.tuple #[.slice (some ⟨K, 0, none⟩) 64 64, .int .i64 0]) ∧ Nw W1 w' c d xb xd G K) := Lib.hid (fun W G h hG => by
    refine (lenc d hd gd W).mono ?_
    rintro e w' ⟨K, rfl, _, hr, hb⟩
    exact ⟨K, rfl, h.trans (hb.mono h.size), byblk_below hG hb, hr⟩)
  have CH : Hid (∀ W G K, Nw W1 W c d xb xd G K → Calls Try.prog 21 #[.slice (some ⟨K, 0, none⟩) 64 64, .slice (some ⟨G, 0, none⟩) 64 64] W fun e w' => e = .returned (.tuple #[crV c, .int .i64 1, .int .i64 0]) ∧ Below W.heap.size W w') := Lib.hid (fun W G K h => by
    have h1 := lchoose hd hc gd gc (by omega) h.r2 h.r1
    rw [if_neg (by omega), if_neg (by omega)] at h1
    exact h1)
  have C1 : Hid (∀ W G K g, g = W.heap.size → Nw W1 W c d xb xd G K → Calls Try.prog 21 #[.slice (some ⟨K, 0, none⟩) 64 64, .slice (some ⟨g, 0, none⟩) 64 64] (W.alloc (.cells (zcells 64) 5)) fun e w' => e = .returned (.tuple #[crV zeroC, .int .i64 0, .int .i64 5]) ∧ Below W.heap.size W w') := Lib.hid (fun W G K g hg h => by
    subst hg
    have ha : Below W.heap.size W (W.alloc (.cells (zcells 64) 5)) := (Below.refl _ _).alloc (Nat.le_refl _) _
    have h1 := lchoose1 hd gd (h.below ha).r2 (byblk_zeros W 64)
    rw [if_neg hf, if_neg hf] at h1
    refine h1.mono ?_
    rintro e w' ⟨rfl, hb⟩
    exact ⟨rfl, ha.trans (hb.mono ha.size)⟩)
  have Sn : Hid (∀ W, Calls Try.prog 17 #[crV c, crV c] W fun e w' => e = .returned (.bool true) ∧ Below W.heap.size W w') := Lib.hid (same_self c)
  have Sp : Hid (∀ W, Calls Try.prog 17 #[crV d, crV d] W fun e w' => e = .returned (.bool true) ∧ Below W.heap.size W w') := Lib.hid (same_self d)
  have MK : Hid (∀ W, (Instr.makeSlice 28 (.int .i64 64) (.int .i64 64)).run Try.prog W = .ok (.slice (some ⟨W.heap.size, 0, none⟩) 64 64) (W.alloc (.cells (zcells 64) 5))) := Lib.hid (make_bytes 64 (by decide))
  have HB1 := Lib.hid hb1
  have hbc := Below.refl W1.heap.size W1
  have g1 : decide (c.gen < d.gen) = false := by simp; omega
  have g2 : (c.gen == d.gen) = false := by simp; omega
  have g3 : (d.gen == 1) = false := by simp; omega
  obtain ⟨⟨a0, a1, a2, a3, a4, a5, a6, a7⟩, b0, b1, b2, b3, b4, b5, b6, b7⟩ := CE.out W1 (Below.refl _ _)
  have hsf := store_float
  clear k0 k1 n1 hb0 hb1 hc hd gc gd hgt hf
  obtain ⟨x1, x2, x3, x4, x5, x6, x7, x8⟩ := c
  obtain ⟨z1, z2, z3, z4, z5, z6, z7, z8⟩ := d
  simp only [crC, crV, zeroC] at hW0 hW1 Mc Md Lc Ld Ec1 Ed1 CH C1 Sn Sp CE a0 a1 a2 a3 a4 a5 a6 a7 b0 b1 b2 b3 b4 b5 b6 b7 g1 g2 g3 ⊢
  go_enter Try.func7, Try.ntmps7
  go_upto_region 12 with (first
    | (go_at_call 10; (with_reducible refine (AW0.out _ hbc).mono ?_); rintro e w1 ⟨rfl, hbc⟩; obtain ⟨⟨a0, a1, a2, a3, a4, a5, a6, a7⟩, b0, b1, b2, b3, b4, b5, b6, b7⟩ := CE.out _ hbc)
    | (go_at_call 15; (with_reducible refine (Mc.out _ hbc).mono ?_); rintro e w1 ⟨rfl, hbc⟩; obtain ⟨⟨a0, a1, a2, a3, a4, a5, a6, a7⟩, b0, b1, b2, b3, b4, b5, b6, b7⟩ := CE.out _ hbc)
    | (go_at_call 15; (with_reducible refine (Md.out _ hbc).mono ?_); rintro e w1 ⟨rfl, hbc⟩; obtain ⟨⟨a0, a1, a2, a3, a4, a5, a6, a7⟩, b0, b1, b2, b3, b4, b5, b6, b7⟩ := CE.out _ hbc)
    | (go_at_call 12; (with_reducible refine (Lc.out _ hbc).mono ?_); rintro e w1 ⟨rfl, hbc⟩)
    | (go_at_call 11; (with_reducible refine (Ec1.out _ hbc).mono ?_); rintro e w1 ⟨G, rfl, hbc, hG⟩; obtain ⟨⟨a0, a1, a2, a3, a4, a5, a6, a7⟩, b0, b1, b2, b3, b4, b5, b6, b7⟩ := CE.out _ hbc)
    | (go_at_call 12; (with_reducible refine (Ld.out _ _ hbc hG).mono ?_); rintro e w1 ⟨rfl, hbc, hG⟩)
    | (go_at_call 11; (with_reducible refine (Ed1.out _ _ hbc hG).mono ?_); rintro e w1 ⟨K, rfl, hN⟩; obtain ⟨⟨a0, a1, a2, a3, a4, a5, a6, a7⟩, b0, b1, b2, b3, b4, b5, b6, b7⟩ := CE.out _ hN.bel))
  go_upto_region 13 with (go_at_call 21; (with_reducible refine (CH.out _ _ _ hN).mono ?_); rintro e w2 ⟨rfl, hb2⟩; have hN := hN.below hb2; obtain ⟨W3, q12, hW3, hq12, k12, hb3⟩ := new_alloc (W := w2) (t := 36) (Cn.C.mk x1 x2 x3 x4 x5 x6 x7 x8); simp only [crC] at hW3; have hN := hN.below hb3; obtain ⟨⟨a0, a1, a2, a3, a4, a5, a6, a7⟩, b0, b1, b2, b3, b4, b5, b6, b7⟩ := CE.out _ hN.bel)
  obtain ⟨W4, q15, hW4, hq15, k15, hb4⟩ := new_alloc (W := W3) (t := 26) (Cn.C.mk x1 x2 x3 x4 x5 x6 x7 x8)
  simp only [crC] at hW4
  have l12 := k12.lt
  have lG := Blk.lt hN.r1
  have lK := Blk.lt hN.r2
  have lW := hN.bel.size
  rw [hq15] at l12 lG lK lW
  have hN := hN.below hb4
  have k12 := k12.keep (hb4.block _ k12.lt)
  obtain ⟨⟨a0, a1, a2, a3, a4, a5, a6, a7⟩, b0, b1, b2, b3, b4, b5, b6, b7⟩ := CE.out _ hN.bel
  go_upto_region 16 with fail
  have mk := MK.out W4
  go_upto_region 17 with (go_at_call 21; (with_reducible refine (C1.out _ _ _ _ rfl hN).mono ?_); rintro e w6 ⟨rfl, hb6⟩; have hN := hN.below hb6; have k12 := k12.keep (hb6.block _ k12.lt); have k15 := k15.keep (hb6.block _ k15.lt); have hb7 : Below w6.heap.size w6 (w6.alloc (.cells #[.int .i64 0, .int .i64 0, .int .i64 0, .float .f64 0, .int .i64 0, .int .i64 0, .int .i64 0, .int .i64 0] 36)) := (Below.refl _ _).alloc (Nat.le_refl _) _; have hN := hN.below hb7; have k12 := k12.keep (hb7.block _ k12.lt); have k15 := k15.keep (hb7.block _ k15.lt); obtain ⟨⟨a0, a1, a2, a3, a4, a5, a6, a7⟩, b0, b1, b2, b3, b4, b5, b6, b7⟩ := CE.out _ hN.bel)
  obtain ⟨W8, q19, hW8, hq19, k19, hb8⟩ := new_alloc (W := (w6.alloc (.cells #[.int .i64 0, .int .i64 0, .int .i64 0, .float .f64 0, .int .i64 0, .int .i64 0, .int .i64 0, .int .i64 0] 36))) (t := 26) (Cn.C.mk x1 x2 x3 x4 x5 x6 x7 x8)
  simp only [crC] at hW8
  have l12 := k12.lt
  have l15 := k15.lt
  have lG := Blk.lt hN.r1
  have lK := Blk.lt hN.r2
  have lW := hN.bel.size
  rw [hq19] at l12 l15 lG lK lW
  have hq20 : w6.heap.size + 1 = q19 := by simpa using hq19
  have hN := hN.below hb8
  have k12 := k12.keep (hb8.block _ k12.lt)
  have k15 := k15.keep (hb8.block _ k15.lt)
  skip
  obtain ⟨⟨a0, a1, a2, a3, a4, a5, a6, a7⟩, b0, b1, b2, b3, b4, b5, b6, b7⟩ := CE.out _ hN.bel
  obtain ⟨W9, hW9, k19', hb9⟩ := rcr_put k19 (Cn.C.mk z1 z2 z3 z4 z5 z6 z7 z8)
  have hb9 := hb9 q19 (Nat.le_refl _)
  obtain ⟨e0, e1, e2, e3, e4, e5, e6, e7⟩ := rcells k19
  obtain ⟨f0, f1, f2, f3, f4, f5, f6, f7⟩ := rfroz k19
  simp only at hW9 e0 e1 e2 e3 e4 e5 e6 e7
  have hN := hN.keep lG lK lW hb9
  have k12 := k12.keep (hb9.block _ l12)
  have k15 := k15.keep (hb9.block _ l15)
  skip
  have k19 := k19'
  go_upto_region 20 with fail
  clear e0 e1 e2 e3 e4 e5 e6 e7 f0 f1 f2 f3 f4 f5 f6 f7
  obtain ⟨m0, m1, m2, m3, m4, m5, m6, m7⟩ := crcells k12
  obtain ⟨o0, o1, o2, o3, o4, o5, o6, o7⟩ := rcells k15
  obtain ⟨s0, s1, s2, s3, s4, s5, s6, s7⟩ := rcells k19
  simp only at m0 m1 m2 m3 m4 m5 m6 m7 o0 o1 o2 o3 o4 o5 o6 o7 s0 s1 s2 s3 s4 s5 s6 s7
  go_wp2_with (first
    | (go_at_call 17; (with_reducible refine (Sn.out _).mono ?_); rintro e w10 ⟨rfl, hb10⟩; have hN := hN.below hb10; obtain ⟨s0, s1, s2, s3, s4, s5, s6, s7⟩ := rcells (k19.keep (hb10.block _ k19.lt)); simp only at s0 s1 s2 s3 s4 s5 s6 s7)
    | (go_at_call 17; (with_reducible refine (Sp.out _).mono ?_); rintro e w11 ⟨rfl, hb11⟩; have hN := hN.below hb11))
  go_ret
  exact ⟨rfl, HB1.out.trans (hN.bel.mono HB1.out.size)⟩

end Go.Proofs.Ythdmghocfngfgaa
