/- The statement CrownTells, for all arguments. -/
import Derived.Test.YthdmghocfngfgaaCla
import Derived.Test.YthdmghocfngfgaaRcm
import Derived.Test.YthdmghocfngfgaaUpd
namespace Go.Proofs.Ythdmghocfngfgaa
open Go.RowKit Crc

/-- A crown's bytes beside the two numbers. -/
structure Ct (w W : World) (G nb a m : Nat) (L : List Nat) : Prop where
  row : ByBlk W G L
  num : Blk W nb 54 #[.int .u32 (a : Int), .int .u32 (m : Int)]
  bel : Below w.heap.size w W
  hG : w.heap.size ≤ G
theorem Ct.below {w W W' : World} {G nb a m : Nat} {L : List Nat} (h : Ct w W G nb a m L) (hb : Below W.heap.size W W') : Ct w W' G nb a m L := ⟨byblk_below h.row hb, h.num.keep (hb.block _ h.num.lt), h.bel.trans (hb.mono h.bel.size), h.hG⟩
theorem Ct.drew {w W : World} {G nb a m : Nat} {L : List Nat} (h : Ct w W G nb a m L) : Ct w W.drew G nb a m L := ⟨h.row, h.num, h.bel.drew, h.hG⟩
theorem Ct.set_ {w W : World} {G nb a m : Nat} {L : List Nat} (h : Ct w W G nb a m L) (i x : Nat) {v : Value} (hv : v = .int .u8 (x : Int)) : Ct w (W.setCell ⟨G, i, none⟩ v) G nb a m (L.set i x) :=
  ⟨byblk_set h.row i x hv, h.num.far (p := ⟨G, i, none⟩) (Blk.ne_ h.row h.num (by decide)) _, h.bel.setCell (p := ⟨G, i, none⟩) h.hG _, h.hG⟩

set_option maxRecDepth 4000 in
set_option maxHeartbeats 8000000 in
theorem ctells_any (c : Cn.C) (hg : c.gain < 18446744073709551616) (a m : Nat) (ha : a < 4294967296) (hm : m < 4294967296) (w : World) :
    Calls Try.prog 6 #[crV c, .agg #[.int .u32 (a : Int), .int .u32 (m : Int)]] w fun e w' => e = .returned (.bool true) ∧ Below w.heap.size w w' := by
  obtain ⟨W0, hW0⟩ : ∃ W, w.alloc (.cells (crC c) 26) = W := ⟨_, rfl⟩
  obtain ⟨W1, hW1⟩ : ∃ W, W0.alloc (.cells #[.int .u32 (a : Int), .int .u32 (m : Int)] 54) = W := ⟨_, rfl⟩
  have k0 : Blk W0 w.heap.size 26 (crC c) := by rw [← hW0]; exact Blk.new _ _ _
  have hb0 : Below w.heap.size w W0 := by rw [← hW0]; exact (Below.refl _ _).alloc (Nat.le_refl _) _
  have k1 : Blk W1 w.heap.size 26 (crC c) := by rw [← hW1]; exact k0.alloc _
  have n1 : Blk W1 W0.heap.size 54 #[.int .u32 (a : Int), .int .u32 (m : Int)] := by rw [← hW1]; exact Blk.new _ _ _
  have hb1 : Below w.heap.size w W1 := by rw [← hW1]; exact hb0.alloc hb0.size _
  obtain ⟨xb, hx⟩ : ∃ x, w.heap.size = x := ⟨_, rfl⟩
  obtain ⟨nb, hn⟩ : ∃ x, W0.heap.size = x := ⟨_, rfl⟩
  rw [hn] at n1
  have CE : Hid (∀ W, Below W1.heap.size W1 W → (W.cell? ⟨xb, 0, none⟩ = some (.int .i64 c.gen) ∧ W.cell? ⟨xb, 1, none⟩ = some (.int .i64 c.bl) ∧ W.cell? ⟨xb, 2, none⟩ = some (.int .i64 c.se) ∧ W.cell? ⟨xb, 3, none⟩ = some (.float .f64 c.gain) ∧ W.cell? ⟨xb, 4, none⟩ = some (.int .i64 c.at_) ∧ W.cell? ⟨xb, 5, none⟩ = some (.int .i64 c.n) ∧ W.cell? ⟨xb, 6, none⟩ = some (.int .i64 c.kg) ∧ W.cell? ⟨xb, 7, none⟩ = some (.int .i64 c.ht)) ∧ W.cell? ⟨nb, 0, none⟩ = some (.int .u32 (a : Int)) ∧ W.cell? ⟨nb, 1, none⟩ = some (.int .u32 (m : Int))) := Lib.hid (fun W h => ⟨xcells (hx ▸ k1.keep (h.block _ k1.lt)), (n1.keep (h.block _ n1.lt)).cell 0, (n1.keep (h.block _ n1.lt)).cell 1⟩)
  have AW0 : Hid (∀ W, Below W1.heap.size W1 W → Calls Try.prog 10 #[] W fun e w' => e = .returned (.bool true) ∧ Below W1.heap.size W1 w') := Lib.hid (fun W h => by
    refine (cawake_any W).mono ?_
    rintro e w' ⟨rfl, hb⟩
    exact ⟨rfl, h.trans (hb.mono h.size)⟩)
  have MR : Hid (∀ W, Below W1.heap.size W1 W → Calls Try.prog 15 #[crV c] W fun e w' => e = .returned (.bool (Cn.okB c)) ∧ Below W1.heap.size W1 w') := Lib.hid (fun W h => by
    refine (rmayc_any c W).mono ?_
    rintro e w' ⟨rfl, hb⟩
    exact ⟨rfl, h.trans (hb.mono h.size)⟩)
  have LC : Hid (∀ W, Below W1.heap.size W1 W → Calls Try.prog 12 #[crV c] W fun e w' => e = .returned (crV c) ∧ Below W1.heap.size W1 w') := Lib.hid (fun W h => by
    refine (lcrown_any c W).mono ?_
    rintro e w' ⟨rfl, hb⟩
    exact ⟨rfl, h.trans (hb.mono h.size)⟩)
  have EC : Hid (Cn.Ok c → ∀ W, Below W1.heap.size W1 W → Calls Try.prog 11 #[crV c] W fun e w' => ∃ G, e = .returned (.tuple #[.slice (some ⟨G, 0, none⟩) 64 64, .int .i64 0]) ∧ Ct w w' G nb a m (Cn.enc c)) := Lib.hid (fun hok W h => by
    refine (lenc c hok hg W).mono ?_
    rintro e w' ⟨G, rfl, hG, hr, hb⟩
    have h1 := h.trans (hb.mono h.size)
    exact ⟨G, rfl, hr, n1.keep (h1.block _ n1.lt), hb1.trans (h1.mono hb1.size), Nat.le_trans (hb1.trans (h.mono hb1.size)).size hG⟩)
  have HB1 := Lib.hid hb1
  have hbc := Below.refl W1.heap.size W1
  obtain ⟨⟨a0, a1, a2, a3, a4, a5, a6, a7⟩, b0, b1⟩ := CE.out W1 (Below.refl _ _)
  have Hel := Lib.hid (Cn.enc_len c)
  have Hlt := Lib.hid (Cn.enc_lt c)
  have HU : Hid (∀ k, (k ≤ 56 ∨ k = 60) → 0 < m → Cn.decE (upd (Cn.enc c) k m 4) = 5) := Lib.hid (fun k hk h0 => Cn.enc_upd hk h0 hm)
  obtain ⟨F, hF⟩ : ∃ F, Cn.enc c = F := ⟨_, rfl⟩
  rw [hF] at EC Hel Hlt HU
  have HOK : Hid (Cn.okB c = true → Cn.Ok c) := Lib.hid (fun h => by unfold Cn.okB at h; exact of_decide_eq_true h)
  obtain ⟨q, hq⟩ : ∃ q, Cn.okB c = q := ⟨_, rfl⟩
  rw [hq] at MR HOK
  clear hF hq k0 k1 n1 hb0 hb1 hg
  obtain ⟨x1, x2, x3, x4, x5, x6, x7, x8⟩ := c
  simp only [crC, crV] at hW0 LC EC MR CE a0 a1 a2 a3 a4 a5 a6 a7 ⊢
  have hsf := store_float
  cases q
  · go_enter Try.func6, Try.ntmps6
    go_wp2_with (first
      | (go_at_call 10; (with_reducible refine (AW0.out _ hbc).mono ?_); rintro e w1 ⟨rfl, hbc⟩; obtain ⟨⟨a0, a1, a2, a3, a4, a5, a6, a7⟩, b0, b1⟩ := CE.out _ hbc)
      | (go_at_call 15; (with_reducible refine (MR.out _ hbc).mono ?_); rintro e w1 ⟨rfl, hbc⟩))
    go_ret
    exact ⟨rfl, HB1.out.trans (hbc.mono HB1.out.size)⟩
  by_cases hm0 : m = 0
  · have r1 : ((m : Int) == 0) = true := by simp; omega
    have r2 : (m == 0) = true := by simp; omega
    clear hm0
    go_enter Try.func6, Try.ntmps6
    go_wp2_with (first
      | (go_at_call 10; (with_reducible refine (AW0.out _ hbc).mono ?_); rintro e w1 ⟨rfl, hbc⟩; obtain ⟨⟨a0, a1, a2, a3, a4, a5, a6, a7⟩, b0, b1⟩ := CE.out _ hbc)
      | (go_at_call 15; (with_reducible refine (MR.out _ hbc).mono ?_); rintro e w1 ⟨rfl, hbc⟩; obtain ⟨⟨a0, a1, a2, a3, a4, a5, a6, a7⟩, b0, b1⟩ := CE.out _ hbc))
    go_ret
    exact ⟨rfl, HB1.out.trans (hbc.mono HB1.out.size)⟩
  have r1 : ((m : Int) == 0) = false := by simp; omega
  have r2 : (m == 0) = false := by simp; omega
  have Hm0 : Hid (0 < m) := Lib.hid (by omega)
  clear hm0
  obtain ⟨k0, hk0⟩ : ∃ k, a % 61 = k := ⟨_, rfl⟩
  have hk61 : k0 < 61 := by omega
  have hkm : (a : Int) % 61 = (k0 : Int) := by omega
  clear hk0
  by_cases hk : 56 < k0
  · have r3 : decide (56 < k0) = true := by simpa using hk
    go_enter Try.func6, Try.ntmps6
    go_upto_region 8 with (first
      | (go_at_call 10; (with_reducible refine (AW0.out _ hbc).mono ?_); rintro e w1 ⟨rfl, hbc⟩; obtain ⟨⟨a0, a1, a2, a3, a4, a5, a6, a7⟩, b0, b1⟩ := CE.out _ hbc)
      | (go_at_call 15; (with_reducible refine (MR.out _ hbc).mono ?_); rintro e w1 ⟨rfl, hbc⟩; obtain ⟨⟨a0, a1, a2, a3, a4, a5, a6, a7⟩, b0, b1⟩ := CE.out _ hbc)
      | (go_at_call 12; (with_reducible refine (LC.out _ hbc).mono ?_); rintro e w1 ⟨rfl, hbc⟩)
      | (go_at_call 11; (with_reducible refine (EC.out (HOK.out (by trivial)) _ hbc).mono ?_); rintro e w2 ⟨G, rfl, hct⟩; have b0 := hct.num.cell 0; have b1 := hct.num.cell 1))
    go_upto_region 12 with fail
    have HR := Lib.hid hct
    clear hct b0 b1 a0 a1 a2 a3 a4 a5 a6 a7
    go_loopw [8] (fun i wr => ∃ j : Nat, j ≤ 4 ∧ i = .int .i64 (j : Int) ∧ Ct w wr G nb a m (upd F 60 m j)) (fun i _ => 4 - (intOf i).toNat)
    case atStart => exact ⟨0, by omega, rfl, HR.out⟩
    case round =>
      obtain ⟨j, hj, rfl, hct⟩ := hrel
      clear HR
      have HR := Lib.hid hct
      have hul := upd_length F 60 m j
      rw [Hel.out] at hul
      by_cases hlt : j < 4
      · have hcell := byblk_cell hct.row (i := 60 + j) (by omega)
        have hfz := hct.row.frozen (60 + j)
        have hnum : wr.cell? ⟨nb, 1, none⟩ = some (.int .u32 (m : Int)) := hct.num.cell 1
        have Hst := Lib.hid (hct.set_ (60 + j) ((upd F 60 m j).getD (60 + j) 0 ^^^ m / 2 ^ (8 * j) % 256) rfl)
        have Hup := Lib.hid (show upd F 60 m (j + 1) = (upd F 60 m j).set (60 + j) ((upd F 60 m j).getD (60 + j) 0 ^^^ m / 2 ^ (8 * j) % 256) from rfl)
        have Hxv := Lib.hid (xor_val (upd_lt Hlt.out 60 m j (60 + j)) m (8 * j))
        have hvb := upd_lt Hlt.out 60 m j (60 + j)
        clear hct hul
        generalize (upd F 60 m j).getD (60 + j) 0 = v at *
        go_wp2_with fail
        go_region
        go_wp2_with fail
        go_roundw
        case rel => exact ⟨j + 1, by omega, by go_num, by rw [Hxv.out, Hup.out]; exact Hst.out.drew⟩
        case measure => simp [intOf]; omega
      · have hj4 : j = 4 := by omega
        have q1 : decide (j < 4) = false := by simpa using hlt
        have q2 : decide ((j : Int) < 4) = false := by simp; omega
        have hE := HU.out 60 (.inr rfl) Hm0.out
        rw [hj4] at hct hul
        have hlb := upd_bytes Hlt.out 60 m 4
        have D1 : Hid (∀ W, Ct w W G nb a m (upd F 60 m 4) → Calls Try.prog 16 #[.slice (some ⟨G, 0, none⟩) 64 64] W fun e w' => e = .returned (.tuple #[crV zeroC, .int .i64 5]) ∧ Ct w w' G nb a m (upd F 60 m 4)) := Lib.hid (fun W h => by
          refine (ldec hlb hul h.row).mono ?_
          rintro e w' ⟨rfl, hb⟩
          rw [hE]
          exact ⟨rfl, h.below hb⟩)
        have D2 : Hid (∀ W, Ct w W G nb a m (upd F 60 m 4) → Calls Try.prog 16 #[.slice (some ⟨G, 0, none⟩) 63 64] W fun e w' => e = .returned (.tuple #[crV zeroC, .int .i64 1]) ∧ Ct w w' G nb a m (upd F 60 m 4)) := Lib.hid (fun W h => by
          have hl63 : ((upd F 60 m 4).take 63).length = 63 := by rw [List.length_take, hul]; rfl
          refine (cdec_len (some ⟨G, 0, none⟩) 64 ((upd F 60 m 4).take 63) (by rw [hl63]; decide) 63 hl63.symm W).mono ?_
          rintro e w' ⟨rfl, hb⟩
          have h1 : Cn.decE ((upd F 60 m 4).take 63) = 1 := by unfold Cn.decE; rw [if_pos (by rw [hl63]; decide)]
          rw [h1]
          exact ⟨rfl, h.below hb⟩)
        obtain ⟨i0, hi0, hz0, hs0, hb0⟩ := byte_parts (P := Try.prog) (e := 5) (by kernel_rfl)
        have ct : ∀ w, (Instr.slice 28 (.slice (some ⟨G, 0, none⟩) 64 64) none (some (.int .i64 63)) none).run Try.prog w = .ok (.slice (some ⟨G, 0, none⟩) 63 64) w := fun w =>
          run_slice_to (P := Try.prog) Try.underlying28 hi0 (some ⟨G, 0, none⟩) 64 64 63 (by omega) w
        simp only [crV, zeroC] at D1 D2
        have HR := Lib.hid hct
        clear hct hul hlb hE hj4 hj hlt
        go_wp2_with (first
          | (go_at_call 16; (with_reducible refine (D1.out _ HR.out).mono ?_); rintro e w3 ⟨rfl, h3⟩; have h4 := Lib.hid (h3.below ((Below.refl _ _).alloc (Nat.le_refl _) (.cells #[.int .i64 0, .int .i64 0, .int .i64 0, .float .f64 0, .int .i64 0, .int .i64 0, .int .i64 0, .int .i64 0] 36))))
          | (go_at_call 16; (with_reducible refine (D2.out _ h4.out).mono ?_); rintro e w4 ⟨rfl, h5⟩; have h6 := Lib.hid (h5.below ((Below.refl _ _).alloc (Nat.le_refl _) (.cells #[.int .i64 0, .int .i64 0, .int .i64 0, .float .f64 0, .int .i64 0, .int .i64 0, .int .i64 0, .int .i64 0] 36)))))
        go_ret
        exact ⟨rfl, h6.out.bel⟩
  · have r3 : decide (56 < k0) = false := by simpa using hk
    have hk56 : k0 ≤ 56 := by omega
    go_enter Try.func6, Try.ntmps6
    go_upto_region 8 with (first
      | (go_at_call 10; (with_reducible refine (AW0.out _ hbc).mono ?_); rintro e w1 ⟨rfl, hbc⟩; obtain ⟨⟨a0, a1, a2, a3, a4, a5, a6, a7⟩, b0, b1⟩ := CE.out _ hbc)
      | (go_at_call 15; (with_reducible refine (MR.out _ hbc).mono ?_); rintro e w1 ⟨rfl, hbc⟩; obtain ⟨⟨a0, a1, a2, a3, a4, a5, a6, a7⟩, b0, b1⟩ := CE.out _ hbc)
      | (go_at_call 12; (with_reducible refine (LC.out _ hbc).mono ?_); rintro e w1 ⟨rfl, hbc⟩)
      | (go_at_call 11; (with_reducible refine (EC.out (HOK.out (by trivial)) _ hbc).mono ?_); rintro e w2 ⟨G, rfl, hct⟩; have b0 := hct.num.cell 0; have b1 := hct.num.cell 1))
    go_upto_region 12 with fail
    have HR := Lib.hid hct
    clear hct b0 b1 a0 a1 a2 a3 a4 a5 a6 a7
    go_loopw [8] (fun i wr => ∃ j : Nat, j ≤ 4 ∧ i = .int .i64 (j : Int) ∧ Ct w wr G nb a m (upd F k0 m j)) (fun i _ => 4 - (intOf i).toNat)
    case atStart => exact ⟨0, by omega, rfl, HR.out⟩
    case round =>
      obtain ⟨j, hj, rfl, hct⟩ := hrel
      clear HR
      have HR := Lib.hid hct
      have hul := upd_length F k0 m j
      rw [Hel.out] at hul
      by_cases hlt : j < 4
      · have hcell := byblk_cell hct.row (i := k0 + j) (by omega)
        have hfz := hct.row.frozen (k0 + j)
        have hnum : wr.cell? ⟨nb, 1, none⟩ = some (.int .u32 (m : Int)) := hct.num.cell 1
        have Hst := Lib.hid (hct.set_ (k0 + j) ((upd F k0 m j).getD (k0 + j) 0 ^^^ m / 2 ^ (8 * j) % 256) rfl)
        have Hup := Lib.hid (show upd F k0 m (j + 1) = (upd F k0 m j).set (k0 + j) ((upd F k0 m j).getD (k0 + j) 0 ^^^ m / 2 ^ (8 * j) % 256) from rfl)
        have Hxv := Lib.hid (xor_val (upd_lt Hlt.out k0 m j (k0 + j)) m (8 * j))
        have hvb := upd_lt Hlt.out k0 m j (k0 + j)
        clear hct hul
        generalize (upd F k0 m j).getD (k0 + j) 0 = v at *
        go_wp2_with fail
        go_region
        go_wp2_with fail
        go_roundw
        case rel => exact ⟨j + 1, by omega, by go_num, by rw [Hxv.out, Hup.out]; exact Hst.out.drew⟩
        case measure => simp [intOf]; omega
      · have hj4 : j = 4 := by omega
        have q1 : decide (j < 4) = false := by simpa using hlt
        have q2 : decide ((j : Int) < 4) = false := by simp; omega
        have hE := HU.out k0 (.inl hk56) Hm0.out
        rw [hj4] at hct hul
        have hlb := upd_bytes Hlt.out k0 m 4
        have D1 : Hid (∀ W, Ct w W G nb a m (upd F k0 m 4) → Calls Try.prog 16 #[.slice (some ⟨G, 0, none⟩) 64 64] W fun e w' => e = .returned (.tuple #[crV zeroC, .int .i64 5]) ∧ Ct w w' G nb a m (upd F k0 m 4)) := Lib.hid (fun W h => by
          refine (ldec hlb hul h.row).mono ?_
          rintro e w' ⟨rfl, hb⟩
          rw [hE]
          exact ⟨rfl, h.below hb⟩)
        have D2 : Hid (∀ W, Ct w W G nb a m (upd F k0 m 4) → Calls Try.prog 16 #[.slice (some ⟨G, 0, none⟩) 63 64] W fun e w' => e = .returned (.tuple #[crV zeroC, .int .i64 1]) ∧ Ct w w' G nb a m (upd F k0 m 4)) := Lib.hid (fun W h => by
          have hl63 : ((upd F k0 m 4).take 63).length = 63 := by rw [List.length_take, hul]; rfl
          refine (cdec_len (some ⟨G, 0, none⟩) 64 ((upd F k0 m 4).take 63) (by rw [hl63]; decide) 63 hl63.symm W).mono ?_
          rintro e w' ⟨rfl, hb⟩
          have h1 : Cn.decE ((upd F k0 m 4).take 63) = 1 := by unfold Cn.decE; rw [if_pos (by rw [hl63]; decide)]
          rw [h1]
          exact ⟨rfl, h.below hb⟩)
        obtain ⟨i0, hi0, hz0, hs0, hb0⟩ := byte_parts (P := Try.prog) (e := 5) (by kernel_rfl)
        have ct : ∀ w, (Instr.slice 28 (.slice (some ⟨G, 0, none⟩) 64 64) none (some (.int .i64 63)) none).run Try.prog w = .ok (.slice (some ⟨G, 0, none⟩) 63 64) w := fun w =>
          run_slice_to (P := Try.prog) Try.underlying28 hi0 (some ⟨G, 0, none⟩) 64 64 63 (by omega) w
        simp only [crV, zeroC] at D1 D2
        have HR := Lib.hid hct
        clear hct hul hlb hE hj4 hj hlt
        go_wp2_with (first
          | (go_at_call 16; (with_reducible refine (D1.out _ HR.out).mono ?_); rintro e w3 ⟨rfl, h3⟩; have h4 := Lib.hid (h3.below ((Below.refl _ _).alloc (Nat.le_refl _) (.cells #[.int .i64 0, .int .i64 0, .int .i64 0, .float .f64 0, .int .i64 0, .int .i64 0, .int .i64 0, .int .i64 0] 36))))
          | (go_at_call 16; (with_reducible refine (D2.out _ h4.out).mono ?_); rintro e w4 ⟨rfl, h5⟩; have h6 := Lib.hid (h5.below ((Below.refl _ _).alloc (Nat.le_refl _) (.cells #[.int .i64 0, .int .i64 0, .int .i64 0, .float .f64 0, .int .i64 0, .int .i64 0, .int .i64 0, .int .i64 0] 36)))))
        go_ret
        exact ⟨rfl, h6.out.bel⟩
end Go.Proofs.Ythdmghocfngfgaa
