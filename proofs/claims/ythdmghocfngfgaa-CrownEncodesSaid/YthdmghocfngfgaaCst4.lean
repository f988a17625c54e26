/- The statement CrownEncodes, for crowns that may be; for all. -/
import Derived.Test.YthdmghocfngfgaaCst2
namespace Go.Proofs.Ythdmghocfngfgaa
open Go.RowKit Crc

set_option maxRecDepth 4000 in
set_option maxHeartbeats 8000000 in
theorem cencodes_ok (c : Cn.C) (hok : Cn.Ok c) (hg : c.gain < 18446744073709551616) (w : World) :
    Calls Try.prog 3 #[crV c] w fun e w' => e = .returned (.bool true) ∧ Below w.heap.size w w' := by
  have AW := Lib.hid cawake_any
  obtain ⟨W0, hW0⟩ : ∃ W, w.alloc (.cells (crC c) 26) = W := ⟨_, rfl⟩
  have k0 : Blk W0 w.heap.size 26 (crC c) := by rw [← hW0]; exact Blk.new _ _ _
  have hb0 : Below w.heap.size w W0 := by rw [← hW0]; exact (Below.refl _ _).alloc (Nat.le_refl _) _
  obtain ⟨xb, hx⟩ : ∃ x, w.heap.size = x := ⟨_, rfl⟩
  have CE : Hid (∀ W, Below W0.heap.size W0 W → W.cell? ⟨xb, 0, none⟩ = some (.int .i64 c.gen) ∧ W.cell? ⟨xb, 1, none⟩ = some (.int .i64 c.bl) ∧ W.cell? ⟨xb, 2, none⟩ = some (.int .i64 c.se) ∧ W.cell? ⟨xb, 3, none⟩ = some (.float .f64 c.gain) ∧ W.cell? ⟨xb, 4, none⟩ = some (.int .i64 c.at_) ∧ W.cell? ⟨xb, 5, none⟩ = some (.int .i64 c.n) ∧ W.cell? ⟨xb, 6, none⟩ = some (.int .i64 c.kg) ∧ W.cell? ⟨xb, 7, none⟩ = some (.int .i64 c.ht)) := Lib.hid (fun W h => xcells (hx ▸ k0.keep (h.block _ k0.lt)))
  have AW0 : Hid (∀ W, Below W0.heap.size W0 W → Calls Try.prog 10 #[] W fun e w' => e = .returned (.bool true) ∧ Below W0.heap.size W0 w') := Lib.hid (fun W h => by
    refine (cawake_any W).mono ?_
    rintro e w' ⟨rfl, hb⟩
    exact ⟨rfl, h.trans (hb.mono h.size)⟩)
  have LC : Hid (∀ W, Below W0.heap.size W0 W → Calls Try.prog 12 #[crV c] W fun e w' => e = .returned (crV c) ∧ Below W0.heap.size W0 w') := Lib.hid (fun W h => by
    refine (lcrown_any c W).mono ?_
    rintro e w' ⟨rfl, hb⟩
    exact ⟨rfl, h.trans (hb.mono h.size)⟩)
  have EC : Hid (∀ W, Below W0.heap.size W0 W → Calls Try.prog 11 #[crV c] W fun e w' => ∃ G, e = .returned (.tuple #[.slice (some ⟨G, 0, none⟩) 64 64, .int .i64 0]) ∧ Below W0.heap.size W0 w' ∧ ByBlk w' G (Cn.enc c)) := Lib.hid (fun W h => by
    refine (lenc c hok hg W).mono ?_
    rintro e w' ⟨G, rfl, _, hr, hb⟩
    exact ⟨G, rfl, h.trans (hb.mono h.size), hr⟩)
  have RC : Hid (∀ W G, Below W0.heap.size W0 W → ByBlk W G (Cn.enc c) → Calls Try.prog 13 #[crV c] W fun e w' => ∃ A cp, e = .returned (.tuple #[.slice A 64 cp, .int .i64 0]) ∧ Below W0.heap.size W0 w' ∧ ByBlk w' G (Cn.enc c) ∧ Sl w' w'.heap.size A (byts (Cn.enc c))) := Lib.hid (fun W G h hG => by
    refine (renc_ok c hok hg W).mono ?_
    rintro e w' ⟨hb, ⟨h1, _⟩ | ⟨_, A, cp, rfl, ho⟩⟩
    · exact absurd hok h1
    · exact ⟨A, cp, rfl, h.trans (hb.mono h.size), byblk_below hG hb, Sl.of_own ho⟩)
  have DC : Hid (∀ W G, Below W0.heap.size W0 W → ByBlk W G (Cn.enc c) → Calls Try.prog 16 #[.slice (some ⟨G, 0, none⟩) 64 64] W fun e w' => e = .returned (.tuple #[crV c, .int .i64 0]) ∧ Below W0.heap.size W0 w') := Lib.hid (fun W G h hG => by
    refine (ldec_enc hok hg hG).mono ?_
    rintro e w' ⟨rfl, hb⟩
    exact ⟨rfl, h.trans (hb.mono h.size)⟩)
  have SM : Hid (∀ W, Below W0.heap.size W0 W → Calls Try.prog 17 #[crV c, crV c] W fun e w' => e = .returned (.bool true) ∧ Below W0.heap.size W0 w') := Lib.hid (fun W h => by
    refine (same_self c W).mono ?_
    rintro e w' ⟨rfl, hb⟩
    exact ⟨rfl, h.trans (hb.mono h.size)⟩)
  have hel := Cn.enc_len c
  have MC : Hid (∀ W, Below W0.heap.size W0 W → Calls Try.prog 14 #[crV c] W fun e w' => e = .returned (.bool (Cn.okB c)) ∧ Below W0.heap.size W0 w') := Lib.hid (fun W h => by
    refine (cmay_any c W).mono ?_
    rintro e w' ⟨rfl, hb⟩
    exact ⟨rfl, h.trans (hb.mono h.size)⟩)
  have MR : Hid (∀ W, Below W0.heap.size W0 W → Calls Try.prog 15 #[crV c] W fun e w' => e = .returned (.bool (Cn.okB c)) ∧ Below W0.heap.size W0 w') := Lib.hid (fun W h => by
    refine (rmayc_any c W).mono ?_
    rintro e w' ⟨rfl, hb⟩
    exact ⟨rfl, h.trans (hb.mono h.size)⟩)
  have HB0 := Lib.hid hb0
  have CV : Hid (∀ W A cp B, Sl W B A (byts (Cn.enc c)) → (convert 28 9 (.slice A 64 cp)).run Try.prog W = .ok (.string (bstr (Cn.enc c))) W) := Lib.hid (fun W A cp B h => by
    have := conv_b (cap := cp) h
    rwa [hel] at this)
  have CB : Hid (∀ W G, ByBlk W G (Cn.enc c) → (convert 28 9 (.slice (some ⟨G, 0, none⟩) 64 64)).run Try.prog W = .ok (.string (bstr (Cn.enc c))) W) := Lib.hid (fun W G h => CV.out W _ 64 _ (byblk_sl h))
  have TW : Hid (∀ W, Below W0.heap.size W0 W → ∃ W3 q, W.alloc (.cells (crC c) 36) = W3 ∧ W.heap.size = q ∧ Blk W3 q 36 (crC c) ∧ Below W0.heap.size W0 W3) := Lib.hid (fun W h => ⟨_, _, rfl, rfl, Blk.new _ _ _, h.alloc h.size _⟩)
  have hsf := store_float
  obtain ⟨a0, a1, a2, a3, a4, a5, a6, a7⟩ := CE.out W0 (Below.refl _ _)
  have hbc := Below.refl W0.heap.size W0
  obtain ⟨S, hS⟩ : ∃ S, bstr (Cn.enc c) = S := ⟨_, rfl⟩
  rw [hS] at CV CB
  obtain ⟨EL, hEL⟩ : ∃ L, Cn.enc c = L := ⟨_, rfl⟩
  rw [hEL] at EC RC DC CV CB
  obtain ⟨m, hm⟩ : ∃ m, Cn.okB c = m := ⟨_, rfl⟩
  rw [hm] at MC MR
  have HM := Lib.hid hm
  clear hm hok k0 hb0 hS hEL hel hg
  obtain ⟨x1, x2, x3, x4, x5, x6, x7, x8⟩ := c
  simp only [crC, crV] at hW0 LC EC RC MC MR DC SM CE a0 a1 a2 a3 a4 a5 a6 a7 ⊢
  go_enter Try.func3, Try.ntmps3
  go_upto_region 5 with (first
    | (go_at_call 10; (with_reducible refine (AW0.out _ hbc).mono ?_); rintro e w1 ⟨rfl, hbc⟩; obtain ⟨a0, a1, a2, a3, a4, a5, a6, a7⟩ := CE.out _ hbc)
    | (go_at_call 12; (with_reducible refine (LC.out _ hbc).mono ?_); rintro e w1 ⟨rfl, hbc⟩; obtain ⟨a0, a1, a2, a3, a4, a5, a6, a7⟩ := CE.out _ hbc)
    | (go_at_call 11; (with_reducible refine (EC.out _ hbc).mono ?_); rintro e w1 ⟨G, rfl, hbc, hG⟩; obtain ⟨a0, a1, a2, a3, a4, a5, a6, a7⟩ := CE.out _ hbc)
    | (go_at_call 13; (with_reducible refine (RC.out _ _ hbc hG).mono ?_); rintro e w1 ⟨A, cp, rfl, hbc, hG, hA⟩; obtain ⟨a0, a1, a2, a3, a4, a5, a6, a7⟩ := CE.out _ hbc))
  have hG : ByBlk _ G EL := hG
  have ST : Hid (∀ X, (Below w1.heap.size w1 X) → Below W0.heap.size W0 X ∧ ByBlk X G EL ∧ Sl X X.heap.size A (byts EL)) := Lib.hid (fun X h => ⟨hbc.trans (h.mono hbc.size), byblk_below hG h, sl_keep hA h⟩)
  have hcur := (Below.refl w1.heap.size w1).drew
  have LC' : Hid (∀ X, Below w1.heap.size w1 X → Calls Try.prog 12 #[.agg #[.int .i64 x1, .int .i64 x2, .int .i64 x3, .float .f64 x4, .int .i64 x5, .int .i64 x6, .int .i64 x7, .int .i64 x8]] X fun e w' => e = .returned (.agg #[.int .i64 x1, .int .i64 x2, .int .i64 x3, .float .f64 x4, .int .i64 x5, .int .i64 x6, .int .i64 x7, .int .i64 x8]) ∧ Below w1.heap.size w1 w') := Lib.hid (fun X h => by
    refine (lcrown_any ⟨x1, x2, x3, x4, x5, x6, x7, x8⟩ X).mono ?_
    rintro e w' ⟨rfl, hb⟩
    exact ⟨rfl, h.trans (hb.mono h.size)⟩)
  have MC' : Hid (∀ X, Below w1.heap.size w1 X → Calls Try.prog 14 #[.agg #[.int .i64 x1, .int .i64 x2, .int .i64 x3, .float .f64 x4, .int .i64 x5, .int .i64 x6, .int .i64 x7, .int .i64 x8]] X fun e w' => e = .returned (.bool m) ∧ Below w1.heap.size w1 w') := Lib.hid (fun X h => by
    have := cmay_any ⟨x1, x2, x3, x4, x5, x6, x7, x8⟩ X
    rw [HM.out] at this
    refine this.mono ?_
    rintro e w' ⟨rfl, hb⟩
    exact ⟨rfl, h.trans (hb.mono h.size)⟩)
  have MR' : Hid (∀ X, Below w1.heap.size w1 X → Calls Try.prog 15 #[.agg #[.int .i64 x1, .int .i64 x2, .int .i64 x3, .float .f64 x4, .int .i64 x5, .int .i64 x6, .int .i64 x7, .int .i64 x8]] X fun e w' => e = .returned (.bool m) ∧ Below w1.heap.size w1 w') := Lib.hid (fun X h => by
    have := rmayc_any ⟨x1, x2, x3, x4, x5, x6, x7, x8⟩ X
    rw [HM.out] at this
    refine this.mono ?_
    rintro e w' ⟨rfl, hb⟩
    exact ⟨rfl, h.trans (hb.mono h.size)⟩)
  clear hbc hG hA
  go_region_held_law (fun X => X.cell? ⟨xb, 0, none⟩ = some (.int .i64 x1) ∧ X.cell? ⟨xb, 1, none⟩ = some (.int .i64 x2) ∧ X.cell? ⟨xb, 2, none⟩ = some (.int .i64 x3) ∧ X.cell? ⟨xb, 3, none⟩ = some (.float .f64 x4) ∧ X.cell? ⟨xb, 4, none⟩ = some (.int .i64 x5) ∧ X.cell? ⟨xb, 5, none⟩ = some (.int .i64 x6) ∧ X.cell? ⟨xb, 6, none⟩ = some (.int .i64 x7) ∧ X.cell? ⟨xb, 7, none⟩ = some (.int .i64 x8) ∧ (convert 28 9 (.slice (some ⟨G, 0, none⟩) 64 64)).run Try.prog X = .ok (.string S) X ∧ (convert 28 9 (.slice A 64 cp)).run Try.prog X = .ok (.string S) X) ((obtain ⟨s1, s2, s3⟩ := ST.out _ hcur; obtain ⟨a0, a1, a2, a3, a4, a5, a6, a7⟩ := CE.out _ s1; exact ⟨a0, a1, a2, a3, a4, a5, a6, a7, CB.out _ _ s2, CV.out _ _ _ _ s3⟩)) (first
    | (go_at_call 12; (with_reducible refine (LC'.out _ hcur).mono ?_); rintro e w2 ⟨rfl, hcur⟩)
    | (go_at_call 14; (with_reducible refine (MC'.out _ hcur).mono ?_); rintro e w2 ⟨rfl, hcur⟩)
    | (go_at_call 15; (with_reducible refine (MR'.out _ hcur).mono ?_); rintro e w2 ⟨rfl, hcur⟩))
  obtain ⟨hbc, hG, hA⟩ := ST.out _ hcur
  obtain ⟨a0, a1, a2, a3, a4, a5, a6, a7⟩ := CE.out _ hbc
  go_wp2_with (first
    | (go_at_call 16; (with_reducible refine (DC.out _ _ hbc hG).mono ?_); rintro e w3 ⟨rfl, hbc⟩; obtain ⟨W3, q, hW3, hq, k3, hbc⟩ := TW.out _ hbc; simp only [crC] at hW3; obtain ⟨a0, a1, a2, a3, a4, a5, a6, a7⟩ := CE.out _ hbc; obtain ⟨b0, b1, b2, b3, b4, b5, b6, b7⟩ := crcells k3; simp only at b0 b1 b2 b3 b4 b5 b6 b7)
    | (go_at_call 17; (with_reducible refine (SM.out _ hbc).mono ?_); rintro e w3 ⟨rfl, hbc⟩))
  go_ret
  exact ⟨rfl, HB0.out.trans (hbc.mono HB0.out.size)⟩
theorem cencodes_any (c : Cn.C) (hg : c.gain < 18446744073709551616) (w : World) :
    Calls Try.prog 3 #[crV c] w fun e w' => e = .returned (.bool true) ∧ Below w.heap.size w w' := by
  by_cases h : Cn.Ok c
  · exact cencodes_ok c h hg w
  · exact cencodes_no c h w
end Go.Proofs.Ythdmghocfngfgaa
