/- The document's DecodeCrown at a whole block: some of its ways. -/
import Derived.Test.YthdmghocfngfgaaRcda
import Derived.Test.YthdmghocfngfgaaTal
namespace Go.Proofs.Ythdmghocfngfgaa
open Go.RowKit Crc

set_option maxHeartbeats 8000000 in
theorem rdec_z (A : Option Addr) (cap : Nat) (l : List Nat) (hl : ∀ x ∈ l, x < 256) (h64 : l.length = 64) (hcap : 64 ≤ cap) {w : World} (hsl : Sl w w.heap.size A (byts l)) (xs : g4 l 60 = sum (l.take 60)) (x0 : l.getD 0 0 = 192) (x1 : l.getD 1 0 = 158) (xm : Cn.okB (Cn.fields l) = true) (xz : blankB ((l.drop 38).take 22) = false) :
    Calls Try.prog 18 #[.slice A 64 cap] w (DecR l w) := by
  obtain ⟨i0, hi0, hz0, hs0, hb0⟩ := byte_parts (P := Try.prog) (e := 5) (by kernel_rfl)
  obtain ⟨b, o, rfl, _⟩ := sl_cell hsl (k := 0) (by omega)
  have ct : ∀ w, (Instr.slice 28 (.slice (some ⟨b, o, none⟩) 64 cap) none (some (.int .i64 60)) none).run Try.prog w = .ok (.slice (some ⟨b, o, none⟩) 60 cap) w := fun w =>
    run_slice_to (P := Try.prog) Try.underlying28 hi0 (some ⟨b, o, none⟩) 64 cap 60 (by omega) w
  have SL : ∀ (W : World) (r : Nat), Rde w W r → Sl W W.heap.size (some ⟨b, o, none⟩) (byts l) := fun W r h => sl_keep hsl h.bel
  have GG (k : Nat) (hk : k + 3 < 64) : ∀ (W : World) (r : Nat), Rde w W r → Calls Try.prog 37 #[.slice (some ⟨b, o, none⟩) 64 cap, .int .i64 (k : Int)] W fun e w' => e = .returned (.int .i64 ((g4 l k : Nat) : Int)) ∧ Rde w w' r := fun W r h => by
    have := cget_any (some ⟨b, o, none⟩) cap l hl k (by omega) (by omega) (SL W r h) 0
    rw [drewN_zero, h64] at this
    refine this.mono ?_
    rintro e w' ⟨rfl, m, rfl⟩
    exact ⟨rfl, h.below (drewN_below m)⟩
  have S60 : Hid (∀ (W : World) (r : Nat), Rde w W r → Calls Try.prog 29 #[.slice (some ⟨b, o, none⟩) 60 cap] W fun e w' => e = .returned (.int .u32 ((sum (l.take 60) : Nat) : Int)) ∧ Rde w w' r) := Lib.hid (fun W r h => by
    have hlen : (l.take 60).length = 60 := by rw [List.length_take]; omega
    have := rsum_any (some ⟨b, o, none⟩) cap (l.take 60) (fun x hx => hl x (List.mem_of_mem_take hx)) (by omega) W (by rw [← byts_take]; exact (SL W r h).to 60)
    rw [hlen] at this
    refine this.mono ?_
    rintro e w' ⟨rfl, hw⟩
    subst hw
    exact ⟨rfl, h⟩)
  have CEL : Hid (∀ (W : World) (r : Nat), Rde w W r → ∀ k, k < 64 → W.cell? ⟨b, o + k, none⟩ = some (.int .u8 ((l.getD k 0 : Nat) : Int))) := Lib.hid (fun W r h k hk => by
    obtain ⟨b1, o1, e1, h1⟩ := sl_cell (SL W r h) (k := k) (by omega)
    obtain ⟨rfl, rfl⟩ : b1 = b ∧ o1 = o := by simpa using e1.symm
    exact h1)
  have MM : Hid (∀ W, Calls Try.prog 15 #[crV (Cn.fields l)] W fun e w' => e = .returned (.bool (Cn.okB (Cn.fields l))) ∧ Below W.heap.size W w') := Lib.hid (fun W => rmayc_any (Cn.fields l) W)
  have G60 : Hid (∀ (W : World) (r : Nat), Rde w W r → Calls Try.prog 37 #[.slice (some ⟨b, o, none⟩) 64 cap, .int .i64 60] W fun e w' => e = .returned (.int .i64 ((g4 l 60 : Nat) : Int)) ∧ Rde w w' r) := Lib.hid (GG 60 (by decide))
  have G2 : Hid (∀ (W : World) (r : Nat), Rde w W r → Calls Try.prog 37 #[.slice (some ⟨b, o, none⟩) 64 cap, .int .i64 2] W fun e w' => e = .returned (.int .i64 ((g4 l 2 : Nat) : Int)) ∧ Rde w w' r) := Lib.hid (GG 2 (by decide))
  have G6 : Hid (∀ (W : World) (r : Nat), Rde w W r → Calls Try.prog 37 #[.slice (some ⟨b, o, none⟩) 64 cap, .int .i64 6] W fun e w' => e = .returned (.int .i64 ((g4 l 6 : Nat) : Int)) ∧ Rde w w' r) := Lib.hid (GG 6 (by decide))
  have G10 : Hid (∀ (W : World) (r : Nat), Rde w W r → Calls Try.prog 37 #[.slice (some ⟨b, o, none⟩) 64 cap, .int .i64 10] W fun e w' => e = .returned (.int .i64 ((g4 l 10 : Nat) : Int)) ∧ Rde w w' r) := Lib.hid (GG 10 (by decide))
  have G14 : Hid (∀ (W : World) (r : Nat), Rde w W r → Calls Try.prog 37 #[.slice (some ⟨b, o, none⟩) 64 cap, .int .i64 14] W fun e w' => e = .returned (.int .i64 ((g4 l 14 : Nat) : Int)) ∧ Rde w w' r) := Lib.hid (GG 14 (by decide))
  have G18 : Hid (∀ (W : World) (r : Nat), Rde w W r → Calls Try.prog 37 #[.slice (some ⟨b, o, none⟩) 64 cap, .int .i64 18] W fun e w' => e = .returned (.int .i64 ((g4 l 18 : Nat) : Int)) ∧ Rde w w' r) := Lib.hid (GG 18 (by decide))
  have G22 : Hid (∀ (W : World) (r : Nat), Rde w W r → Calls Try.prog 37 #[.slice (some ⟨b, o, none⟩) 64 cap, .int .i64 22] W fun e w' => e = .returned (.int .i64 ((g4 l 22 : Nat) : Int)) ∧ Rde w w' r) := Lib.hid (GG 22 (by decide))
  have G26 : Hid (∀ (W : World) (r : Nat), Rde w W r → Calls Try.prog 37 #[.slice (some ⟨b, o, none⟩) 64 cap, .int .i64 26] W fun e w' => e = .returned (.int .i64 ((g4 l 26 : Nat) : Int)) ∧ Rde w w' r) := Lib.hid (GG 26 (by decide))
  have hS := Cn.sum_lt (l.take 60)
  have hB := fun k => getB_lt hl k
  have HBd := Lib.hid hB
  have HE : Hid (Cn.decE l = if g4 l 60 ≠ sum (l.take 60) then 5 else if l.getD 0 0 = 192 ∧ l.getD 1 0 = 158 ∧ Cn.Ok (Cn.fields l) ∧ blankB ((l.drop 38).take 22) = true then 0 else 4) := Lib.hid (by unfold Cn.decE; rw [if_neg (by omega)])
  have HOK : Hid (Cn.okB (Cn.fields l) = true ↔ Cn.Ok (Cn.fields l)) := Lib.hid (by unfold Cn.okB; simp)
  have HG : Hid (Cn.g8 l 30 = l.getD 30 0 + l.getD 31 0 * 256 + l.getD 32 0 * 65536 + l.getD 33 0 * 16777216 + (l.getD 34 0 + l.getD 35 0 * 256 + l.getD 36 0 * 65536 + l.getD 37 0 * 16777216) * 4294967296) := Lib.hid rfl
  have HT : Hid (∀ k, k < 22 → blankB (((l.drop 38).take 22).take (k + 1)) = (blankB (((l.drop 38).take 22).take k) && l.getD (38 + k) 0 == 0)) := Lib.hid (fun k hk => by
    have hlen : ((l.drop 38).take 22).length = 22 := by rw [List.length_take, List.length_drop]; omega
    rw [blank_take (l := (l.drop 38).take 22) (by omega)]
    have e : ((l.drop 38).take 22).getD k 0 = l.getD (38 + k) 0 := by
      rw [List.getD_eq_getElem?_getD, List.getD_eq_getElem?_getD, List.getElem?_take, if_pos hk, List.getElem?_drop]
    rw [e])
  have HTA : Hid (((l.drop 38).take 22).take 22 = (l.drop 38).take 22) := Lib.hid (by rw [List.take_take]; rfl)
  unfold DecR
  have hd := Rde.new w
  obtain ⟨r, hr⟩ : ∃ r, w.heap.size = r := ⟨_, rfl⟩
  obtain ⟨W, hW⟩ : ∃ W, w.alloc (.cells (crC zeroC) 26) = W := ⟨_, rfl⟩
  rw [hW] at hd
  rw [show Rde w W w.heap.size = Rde w W r by rw [hr]] at hd
  have hsf := store_float
  clear SL GG hsl hl h64 hi0 hz0 hs0 hb0 hB
  obtain ⟨E, hE⟩ : ∃ E, Cn.decE l = E := ⟨_, rfl⟩
  rw [hE] at HE ⊢
  obtain ⟨z, hz⟩ : ∃ z, blankB ((l.drop 38).take 22) = z := ⟨_, rfl⟩
  have HZ := Lib.hid hz
  rw [hz] at HE xz
  obtain ⟨S, hSe⟩ : ∃ S, sum (l.take 60) = S := ⟨_, rfl⟩
  rw [hSe] at S60 HE hS xs
  obtain ⟨G, hG⟩ : ∃ G, g4 l 60 = G := ⟨_, rfl⟩
  rw [hG] at G60 HE xs
  have hcv : IntKind.i64.wrap (S : Int) = (S : Int) := IntWalk.i64_in _ (by omega)
  have HD := Lib.hid hd
  clear hE hz hSe hG hd
  simp only [crC, zeroC] at hW
  subst xs
  have p1 : ((G : Int) != (G : Int)) = false := by simp
  have p2 : (G != G) = false := by simp
  obtain ⟨G6, G5, G4, G3, G2, G1, G0, hG0, f7, f6, k6, f5, k5, f4, k4, f3, k3, f2, k2, f1, k1, f0⟩ := g8_down (HBd.out 30) (HBd.out 31) (HBd.out 32) (HBd.out 33) (HBd.out 34) (HBd.out 35) (HBd.out 36) (HBd.out 37)
  have hg8 : Cn.g8 l 30 = G0 := by rw [HG.out, hG0]
  have hb30 := HBd.out 30
  have hb31 := HBd.out 31
  have hb32 := HBd.out 32
  have hb33 := HBd.out 33
  have hb34 := HBd.out 34
  have hb35 := HBd.out 35
  have hb36 := HBd.out 36
  have hb37 := HBd.out 37
  have hb0 := HBd.out 0
  have hb1 := HBd.out 1
  clear hG0 HG
  have hF : Cn.fields l = ⟨g4 l 2, g4 l 6, g4 l 10, G0, g4 l 14, g4 l 18, g4 l 22, g4 l 26⟩ := by unfold Cn.fields; rw [hg8]
  rw [hF] at MM HOK HE xm ⊢
  clear hF hg8
  have hbits := fun W => run_frombits (G0 : Int) W
  rw [Int.toNat_natCast] at hbits
  generalize g4 l 2 = a2 at *
  generalize g4 l 6 = a6 at *
  generalize g4 l 10 = a10 at *
  generalize g4 l 14 = a14 at *
  generalize g4 l 18 = a18 at *
  generalize g4 l 22 = a22 at *
  generalize g4 l 26 = a26 at *
  obtain ⟨y30, e30⟩ : ∃ y, l.getD 30 0 = y := ⟨_, rfl⟩
  obtain ⟨y31, e31⟩ : ∃ y, l.getD 31 0 = y := ⟨_, rfl⟩
  obtain ⟨y32, e32⟩ : ∃ y, l.getD 32 0 = y := ⟨_, rfl⟩
  obtain ⟨y33, e33⟩ : ∃ y, l.getD 33 0 = y := ⟨_, rfl⟩
  obtain ⟨y34, e34⟩ : ∃ y, l.getD 34 0 = y := ⟨_, rfl⟩
  obtain ⟨y35, e35⟩ : ∃ y, l.getD 35 0 = y := ⟨_, rfl⟩
  obtain ⟨y36, e36⟩ : ∃ y, l.getD 36 0 = y := ⟨_, rfl⟩
  obtain ⟨y37, e37⟩ : ∃ y, l.getD 37 0 = y := ⟨_, rfl⟩
  obtain ⟨y0, ey0⟩ : ∃ y, l.getD 0 0 = y := ⟨_, rfl⟩
  obtain ⟨y1, ey1⟩ : ∃ y, l.getD 1 0 = y := ⟨_, rfl⟩
  have BY : Hid (∀ (W : World) (r : Nat), Rde w W r → (W.cell? ⟨b, o, none⟩ = some (.int .u8 (y0 : Int)) ∧ W.cell? ⟨b, o + 1, none⟩ = some (.int .u8 (y1 : Int))) ∧ W.cell? ⟨b, o + 30, none⟩ = some (.int .u8 (y30 : Int)) ∧ W.cell? ⟨b, o + 31, none⟩ = some (.int .u8 (y31 : Int)) ∧ W.cell? ⟨b, o + 32, none⟩ = some (.int .u8 (y32 : Int)) ∧ W.cell? ⟨b, o + 33, none⟩ = some (.int .u8 (y33 : Int)) ∧ W.cell? ⟨b, o + 34, none⟩ = some (.int .u8 (y34 : Int)) ∧ W.cell? ⟨b, o + 35, none⟩ = some (.int .u8 (y35 : Int)) ∧ W.cell? ⟨b, o + 36, none⟩ = some (.int .u8 (y36 : Int)) ∧ W.cell? ⟨b, o + 37, none⟩ = some (.int .u8 (y37 : Int))) := Lib.hid (fun W r h => by
    have C := CEL.out W r h
    have C0 := C 0 (by decide)
    have C1 := C 1 (by decide)
    have C30 := C 30 (by decide)
    have C31 := C 31 (by decide)
    have C32 := C 32 (by decide)
    have C33 := C 33 (by decide)
    have C34 := C 34 (by decide)
    have C35 := C 35 (by decide)
    have C36 := C 36 (by decide)
    have C37 := C 37 (by decide)
    rw [ey0] at C0
    rw [ey1] at C1
    rw [e30] at C30
    rw [e31] at C31
    rw [e32] at C32
    rw [e33] at C33
    rw [e34] at C34
    rw [e35] at C35
    rw [e36] at C36
    rw [e37] at C37
    exact ⟨⟨C0, C1⟩, C30, C31, C32, C33, C34, C35, C36, C37⟩)
  rw [e30] at hb30 f0
  rw [e31] at hb31 f1
  rw [e32] at hb32 f2
  rw [e33] at hb33 f3
  rw [e34] at hb34 f4
  rw [e35] at hb35 f5
  rw [e36] at hb36 f6
  rw [e37] at hb37 f7 f6
  rw [ey0] at hb0 HE x0
  rw [ey1] at hb1 HE x1
  clear e30 e31 e32 e33 e34 e35 e36 e37 ey0 ey1
  obtain ⟨m, hm⟩ : ∃ m, Cn.okB (Cn.C.mk a2 a6 a10 G0 a14 a18 a22 a26) = m := ⟨_, rfl⟩
  rw [hm] at MM HOK xm
  clear hm
  simp only [crV] at MM
  have hh0 := x0
  have p00 : ((y0 : Int) == 192) = true := by simp; omega
  have q00 : (y0 == 192) = true := by simp; omega
  have hh1 := x1
  have p01 : ((y1 : Int) == 158) = true := by simp; omega
  have q01 : (y1 == 158) = true := by simp; omega
  subst xm
  subst xz
  clear x0
  clear x1
  obtain rfl : E = 4 := by rw [HE.out, if_neg (by simp), if_neg (fun h => by cases h.2.2.2)]
  rw [if_neg (by decide)]
  simp only [crV, zeroC]
  clear HE HOK
  have hcur := HD.out.drew
  go_enter Try.func18, Try.ntmps18
  go_wp2_with fail
  go_region_law (first
    | (go_simp; go_at_call 37; (with_reducible refine (G60.out _ _ hcur).mono ?_); rintro e w2 ⟨rfl, hcur⟩)
    | (go_simp; go_at_call 29; (with_reducible refine (S60.out _ _ hcur).mono ?_); rintro e W3 ⟨rfl, hcur⟩))
  go_upto_region 8 with (first
    | (go_at_call 37; (with_reducible refine (G2.out _ _ hcur).mono ?_); rintro e W4 ⟨rfl, hcur⟩)
    | (go_at_call 37; (with_reducible refine (G6.out _ _ hcur).mono ?_); rintro e W4 ⟨rfl, hcur⟩)
    | (go_at_call 37; (with_reducible refine (G10.out _ _ hcur).mono ?_); rintro e W4 ⟨rfl, hcur⟩)
    | (go_at_call 37; (with_reducible refine (G14.out _ _ hcur).mono ?_); rintro e W4 ⟨rfl, hcur⟩)
    | (go_at_call 37; (with_reducible refine (G18.out _ _ hcur).mono ?_); rintro e W4 ⟨rfl, hcur⟩)
    | (go_at_call 37; (with_reducible refine (G22.out _ _ hcur).mono ?_); rintro e W4 ⟨rfl, hcur⟩)
    | (go_at_call 37; (with_reducible refine (G26.out _ _ hcur).mono ?_); rintro e W4 ⟨rfl, hcur⟩; have h6 := hcur.put (Cn.C.mk a2 a6 a10 0 a14 a18 a22 a26); obtain ⟨W6, hW6⟩ : ∃ W6, W4.alloc (.cells (crC (Cn.C.mk a2 a6 a10 0 a14 a18 a22 a26)) 26) = W6 := ⟨_, rfl⟩; rw [hW6] at h6; simp only [crC] at hW6; obtain ⟨q, hq⟩ : ∃ q, W4.heap.size = q := ⟨_, rfl⟩; have hql : w.heap.size ≤ q := hq ▸ hcur.bel.size; rw [hq] at h6; obtain ⟨⟨b0, b1⟩, b30, b31, b32, b33, b34, b35, b36, b37⟩ := BY.out _ _ h6.de; have s3 := (rcells h6.box).2.2.2.1; have s3f := (rfroz h6.box).2.2.2.1; simp only at s3))
  refine wp_loop_rounds 9 ?_
  rw [rounds_succ]
  go_wp2_with fail
  rw [rounds_succ]
  go_wp2_with fail
  rw [rounds_succ]
  go_wp2_with fail
  rw [rounds_succ]
  go_wp2_with fail
  rw [rounds_succ]
  go_wp2_with fail
  rw [rounds_succ]
  go_wp2_with fail
  rw [rounds_succ]
  go_wp2_with fail
  rw [rounds_succ]
  go_wp2_with fail
  rw [rounds_succ]
  go_upto_region 12 with fail
  have h7 := h6.gain hql G0
  simp only at h7
  clear b30 b31 b32 b33 b34 b35 b36 b37 b0 b1 s3 s3f f0 f1 f2 f3 f4 f5 f6 f7 h6 hW6 hq hbits k1 k2 k3 k4 k5 k6 hb30 hb31 hb32 hb33 hb34 hb35 hb36 hb37
  generalize W6.setCell ⟨q, 3, none⟩ (.float .f64 G0) = W7 at *
  obtain ⟨⟨b0, b1⟩, -⟩ := BY.out _ _ h7.de
  obtain ⟨s0, s1, s2, s3, s4, s5, s6, s7⟩ := rcells h7.box
  simp only at s0 s1 s2 s3 s4 s5 s6 s7
  go_upto_region 14 with (go_at_call 15; (with_reducible refine (MM.out _).mono ?_); rintro e W8 ⟨rfl, hb8⟩; have h8 := h7.below hb8; clear hb8 b0 b1 s0 s1 s2 s3 s4 s5 s6 s7)
  go_loop [7, 8] (fun f i => ∃ k : Nat, 38 ≤ k ∧ k ≤ 60 ∧ i = .int .i64 (k : Int) ∧ f = .bool (blankB (((l.drop 38).take 22).take (k - 38)))) (fun _ i => 60 - (intOf i).toNat)
  case atStart => exact ⟨38, Nat.le_refl _, by decide, rfl, rfl⟩
  case round =>
    obtain ⟨k, hk1, hk2, rfl, rfl⟩ := hrel
    by_cases hlt : k < 60
    · have q1 : decide (k < 60) = true := by simpa using hlt
      have q2 : decide ((k : Int) < 60) = true := by simp; omega
      have ht := Lib.hid (HT.out (k - 38) (by omega))
      have cx := CEL.out _ _ h8.de k (by omega)
      have hx := HBd.out k
      rw [show 38 + (k - 38) = k by omega, show k - 38 + 1 = k + 1 - 38 by omega] at ht
      obtain ⟨p, hp⟩ : ∃ p, blankB (((l.drop 38).take 22).take (k - 38)) = p := ⟨_, rfl⟩
      rw [hp] at ht ⊢
      generalize l.getD k 0 = y at *
      clear hp
      cases p
      · go_wp2_with fail
        go_round
        case rel => exact ⟨k + 1, by omega, by omega, by go_num, by rw [ht.out]; rfl⟩
        case measure => simp [intOf]; omega
      · obtain ⟨t, q3⟩ : ∃ t, (y == 0) = t := ⟨_, rfl⟩
        have q4 : ((y : Int) == 0) = t := by rw [← q3, Bool.eq_iff_iff]; simp
        have ht2 := Lib.hid (ht.out.trans (by rw [q3, Bool.true_and]))
        go_wp2_with fail
        go_round
        case rel => exact ⟨k + 1, by omega, by omega, by go_num, by rw [ht2.out]⟩
        case measure => simp [intOf]; omega
    · have hk60 : k = 60 := by omega
      have q1 : decide (k < 60) = false := by simpa using hlt
      have q2 : decide ((k : Int) < 60) = false := by simp; omega
      rw [show k - 38 = 22 by omega, HTA.out, HZ.out]
      clear hk60 hk1 hk2
      obtain ⟨V2, hV2, hk2, hb2⟩ := rcr_put h8.de.res (zeroC)
      have Fin := Lib.hid (h8.de.bel.trans (hb2 _ h8.de.hr)); have FR := Fin.out; rw [hr] at FR; have FR := Lib.hid FR
      obtain ⟨v0, v1, v2, v3, v4, v5, v6, v7⟩ := rcells h8.de.res
      obtain ⟨t0, t1, t2, t3, t4, t5, t6, t7⟩ := rfroz h8.de.res
      obtain ⟨u0, u1, u2, u3, u4, u5, u6, u7⟩ := rcells hk2
      simp only [zeroC] at hV2 v0 v1 v2 v3 v4 v5 v6 v7 u0 u1 u2 u3 u4 u5 u6 u7
      clear hk2 hb2
      repeat (first | go_values | go_skip | go_guarded | go_step | go_upon)
      refine bodyPost_ret (v := .tuple #[.agg #[.int .i64 0, .int .i64 0, .int .i64 0, .float .f64 0, .int .i64 0, .int .i64 0, .int .i64 0, .int .i64 0], .int .i64 4]) ?_ rfl ⟨rfl, by first | exact Fin.out | exact FR.out⟩
      simp [results, Try.results18]
      go_simp

end Go.Proofs.Ythdmghocfngfgaa
