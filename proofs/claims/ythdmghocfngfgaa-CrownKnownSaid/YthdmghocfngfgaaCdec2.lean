/- The program's Decode at a whole block. -/
import Derived.Test.YthdmghocfngfgaaCdec
namespace Go.Proofs.Ythdmghocfngfgaa
open Go.RowKit Crc

theorem u64_cast {x : Nat} (h : x < 4294967296) : IntKind.u64.wrap (x : Int) = (x : Int) := by
  have e : IntKind.u64.wrap (x : Int) = (x : Int) % 18446744073709551616 := by simp [IntKind.wrap, IntKind.bits, IntKind.signed]
  rw [e]; omega
set_option maxHeartbeats 8000000 in
theorem cdec_64 (A : Option Addr) (cap : Nat) (l : List Nat) (hl : ∀ x ∈ l, x < 256) (h64 : l.length = 64) (hcap : 64 ≤ cap) {w : World} (hsl : Sl w w.heap.size A (byts l)) :
    Calls Try.prog 16 #[.slice A 64 cap] w (DecR l w) := by
  obtain ⟨i0, hi0, hz0, hs0, hb0⟩ := byte_parts (P := Try.prog) (e := 5) (by kernel_rfl)
  obtain ⟨b, o, rfl, _⟩ := sl_cell hsl (k := 0) (by omega)
  have hcut (j : Nat) (hj : j < 64) : cutA (some ⟨b, o, none⟩) cap j = some ⟨b, o + j, none⟩ := by rw [cutA_nat (by omega)]; simp [Addr.add_lit]
  have c60 : ∀ w, (Instr.slice 28 (.slice (some ⟨b, o, none⟩) 64 cap) (some (.int .i64 60)) none none).run Try.prog w = .ok (.slice (some ⟨b, o + 60, none⟩) 4 (cap - 60)) w := fun w => by
    rw [← hcut 60 (by decide)]
    exact run_slice_from (P := Try.prog) Try.underlying28 hi0 hs0 (some ⟨b, o, none⟩) 64 cap 60 (by omega) w
  have ct : ∀ w, (Instr.slice 28 (.slice (some ⟨b, o, none⟩) 64 cap) none (some (.int .i64 60)) none).run Try.prog w = .ok (.slice (some ⟨b, o, none⟩) 60 cap) w := fun w =>
    run_slice_to (P := Try.prog) Try.underlying28 hi0 (some ⟨b, o, none⟩) 64 cap 60 (by omega) w
  have c38 : ∀ w, (Instr.slice 28 (.slice (some ⟨b, o, none⟩) 64 cap) (some (.int .i64 38)) (some (.int .i64 60)) none).run Try.prog w = .ok (.slice (some ⟨b, o + 38, none⟩) 22 (cap - 38)) w := fun w => by
    rw [← hcut 38 (by decide)]
    exact run_slice_mid (P := Try.prog) Try.underlying28 hi0 hs0 (some ⟨b, o, none⟩) 64 cap 38 60 (by omega) (by omega) w
  have hc60 : ¬ cap = 60 := by omega
  have hc38 : ¬ cap = 38 := by omega
  have SL : ∀ (W : World) (r : Nat), De w W r → Sl W W.heap.size (some ⟨b, o, none⟩) (byts l) := fun W r h => sl_keep hsl h.bel
  have N60 : Hid (∀ (W : World) (r : Nat), De w W r → Calls Try.prog 34 #[.slice (some ⟨b, o + 60, none⟩) 4 (cap - 60)] W fun e w' => e = .returned (.int .u64 ((g4 l 60 : Nat) : Int)) ∧ w' = W) := Lib.hid (fun W r h => by
    rw [← hcut 60 (by decide)]
    exact bits4_any (cutA (some ⟨b, o, none⟩) cap 60) (cap - 60) l hl 60 (by omega) (B := W.heap.size) (by rw [← byts_drop]; exact (SL W r h).from (by rw [byts_length]; omega)))
  have S60 : Hid (∀ (W : World) (r : Nat), De w W r → Calls Try.prog 27 #[.slice (some ⟨b, o, none⟩) 60 cap] W fun e w' => e = .returned (.int .u32 ((sum (l.take 60) : Nat) : Int)) ∧ De w w' r) := Lib.hid (fun W r h => by
    have hlen : (l.take 60).length = 60 := by rw [List.length_take]; omega
    have := sum_any (some ⟨b, o, none⟩) cap (l.take 60) (fun x hx => hl x (List.mem_of_mem_take hx)) (by omega) W (by rw [← byts_take]; exact (SL W r h).to 60)
    rw [hlen] at this
    refine this.mono ?_
    rintro e w' ⟨rfl, hb⟩
    exact ⟨rfl, h.below hb⟩)
  have FF : Hid (∀ (W : World) (r : Nat), De w W r → Calls Try.prog 35 #[.slice (some ⟨b, o, none⟩) 64 cap] W fun e w' => e = .returned (crV (Cn.fields l)) ∧ De w w' r) := Lib.hid (fun W r h => by
    refine (cfields_any (some ⟨b, o, none⟩) cap l hl h64 hcap (SL W r h)).mono ?_
    rintro e w' ⟨rfl, hb⟩
    exact ⟨rfl, h.below hb⟩)
  have ZZ : Hid (∀ (W : World) (r : Nat), De w W r → Calls Try.prog 36 #[.slice (some ⟨b, o + 38, none⟩) 22 (cap - 38)] W fun e w' => e = .returned (.bool (blankB ((l.drop 38).take 22))) ∧ w' = W) := Lib.hid (fun W r h => by
    rw [← hcut 38 (by decide)]
    exact iszero_any (cutA (some ⟨b, o, none⟩) cap 38) (cap - 38) ((l.drop 38).take 22) (fun x hx => hl x (List.mem_of_mem_drop (List.mem_of_mem_take hx))) 22 (by rw [List.length_take, List.length_drop]; omega) (by decide) (B := W.heap.size) (by rw [← byts_take, ← byts_drop]; exact ((SL W r h).from (by rw [byts_length]; omega)).to 22))
  have B0 : Hid (∀ (W : World) (r : Nat), De w W r → W.cell? ⟨b, o, none⟩ = some (.int .u8 ((l.getD 0 0 : Nat) : Int)) ∧ W.cell? ⟨b, o + 1, none⟩ = some (.int .u8 ((l.getD 1 0 : Nat) : Int))) := Lib.hid (fun W r h => by
    obtain ⟨b1, o1, e1, h1⟩ := sl_cell (SL W r h) (k := 0) (by omega)
    obtain ⟨b2, o2, e2, h2⟩ := sl_cell (SL W r h) (k := 1) (by omega)
    obtain ⟨rfl, rfl⟩ : b1 = b ∧ o1 = o := by simpa using e1.symm
    obtain ⟨rfl, rfl⟩ : b2 = b1 ∧ o2 = o1 := by simpa using e2.symm
    exact ⟨h1, h2⟩)
  have MM : Hid (∀ W, Calls Try.prog 14 #[crV (Cn.fields l)] W fun e w' => e = .returned (.bool (Cn.okB (Cn.fields l))) ∧ Below W.heap.size W w') := Lib.hid (fun W => cmay_any (Cn.fields l) W)
  have hS := Cn.sum_lt (l.take 60)
  have hx0 := getB_lt hl 0
  have hx1 := getB_lt hl 1
  have HE : Hid (Cn.decE l = if g4 l 60 ≠ sum (l.take 60) then 5 else if l.getD 0 0 = 192 ∧ l.getD 1 0 = 158 ∧ Cn.Ok (Cn.fields l) ∧ blankB ((l.drop 38).take 22) = true then 0 else 4) := Lib.hid (by unfold Cn.decE; rw [if_neg (by omega)])
  have HOK : Hid (Cn.okB (Cn.fields l) = true ↔ Cn.Ok (Cn.fields l)) := Lib.hid (by unfold Cn.okB; simp)
  unfold DecR
  have hd := De.new w
  obtain ⟨r, hr⟩ : ∃ r, w.heap.size = r := ⟨_, rfl⟩
  have HR := Lib.hid hr
  obtain ⟨W, hW⟩ : ∃ W, w.alloc (.cells (crC zeroC) 36) = W := ⟨_, rfl⟩
  rw [hW] at hd
  rw [show De w W w.heap.size = De w W r by rw [hr]] at hd
  have hsf := store_float
  clear SL hsl hl h64 hcut hi0 hz0 hs0 hb0
  obtain ⟨E, hE⟩ : ∃ E, Cn.decE l = E := ⟨_, rfl⟩
  rw [hE] at HE ⊢
  obtain ⟨c, hc⟩ : ∃ c, Cn.fields l = c := ⟨_, rfl⟩
  rw [hc] at FF MM HOK HE ⊢
  obtain ⟨z, hz⟩ : ∃ z, blankB ((l.drop 38).take 22) = z := ⟨_, rfl⟩
  rw [hz] at ZZ HE
  obtain ⟨S, hSe⟩ : ∃ S, sum (l.take 60) = S := ⟨_, rfl⟩
  rw [hSe] at S60 HE hS
  obtain ⟨G, hG⟩ : ∃ G, g4 l 60 = G := ⟨_, rfl⟩
  rw [hG] at N60 HE
  obtain ⟨a0, ha0⟩ : ∃ x, l.getD 0 0 = x := ⟨_, rfl⟩
  obtain ⟨a1, ha1⟩ : ∃ x, l.getD 1 0 = x := ⟨_, rfl⟩
  rw [ha0, ha1] at B0 HE
  rw [ha0] at hx0
  rw [ha1] at hx1
  clear hE hc hz hSe hG ha0 ha1
  have hcv := u64_cast hS
  have HD := Lib.hid hd
  clear hd hS
  simp only [crC, zeroC] at hW
  obtain ⟨x1, x2, x3, x4, x5, x6, x7, x8⟩ := c
  simp only [crV] at FF MM
  generalize hO : Cn.okB ⟨x1, x2, x3, x4, x5, x6, x7, x8⟩ = m at *
  clear hO
  by_cases hs : G = S
  · subst hs
    have p1 : ((G : Int) != (G : Int)) = false := by simp
    have p2 : (G != G) = false := by simp
    by_cases hh0 : a0 = 192
    · by_cases hh1 : a1 = 158
      · cases m
        · have p00 : ((a0 : Int) != 192) = false := by simp; omega
          have q00 : (a0 != 192) = false := by simp; omega
          have p01 : ((a1 : Int) != 158) = false := by simp; omega
          have q01 : (a1 != 158) = false := by simp; omega
          obtain rfl : E = 4 := by rw [HE.out, if_neg (by simp), if_neg (fun h => by have := HOK.out.2 h.2.2.1; cases this)]
          rw [if_neg (by decide)]
          simp only [crV, zeroC]
          clear HE HOK
          have hcur := HD.out.drew
          go_enter Try.func16, Try.ntmps16
          go_wp2_with fail
          go_region_law (first
            | (go_simp; go_at_call 34; (with_reducible refine (N60.out _ _ hcur).mono ?_); rintro e w' ⟨rfl, hw'⟩; subst hw')
            | (go_simp; go_at_call 27; (with_reducible refine (S60.out _ _ hcur).mono ?_); rintro e W3 ⟨rfl, hcur⟩))
          go_wp2_with (first
            | (go_at_call 35; (with_reducible refine (FF.out _ _ hcur).mono ?_); rintro e W5 ⟨rfl, hcur⟩; have h6 := hcur.put ⟨x1, x2, x3, x4, x5, x6, x7, x8⟩; obtain ⟨W6, hW6⟩ : ∃ W6, W5.alloc (.cells (crC ⟨x1, x2, x3, x4, x5, x6, x7, x8⟩) 36) = W6 := ⟨_, rfl⟩; rw [hW6] at h6; obtain ⟨q, hq⟩ : ∃ q, W5.heap.size = q := ⟨_, rfl⟩; rw [hq] at h6; obtain ⟨b0, b1⟩ := B0.out _ _ h6.de; obtain ⟨s0, s1, s2, s3, s4, s5, s6, s7⟩ := crcells h6.box; simp only [crC] at hW6; simp only at s0 s1 s2 s3 s4 s5 s6 s7)
            | (go_at_call 14; (with_reducible refine (MM.out _).mono ?_); rintro e W7 ⟨rfl, hb7⟩; have h7 := h6.below hb7; clear s0 s1 s2 s3 s4 s5 s6 s7; obtain ⟨s0, s1, s2, s3, s4, s5, s6, s7⟩ := crcells h7.box; simp only at s0 s1 s2 s3 s4 s5 s6 s7; obtain ⟨V2, hV2, hk2, hb2⟩ := cr_put h7.de.res (zeroC); have Fin := Lib.hid (h7.de.bel.trans (hb2 _ h7.de.hr)); obtain ⟨v0, v1, v2, v3, v4, v5, v6, v7⟩ := crcells h7.de.res; obtain ⟨t0, t1, t2, t3, t4, t5, t6, t7⟩ := crfroz h7.de.res; obtain ⟨y0, y1, y2, y3, y4, y5, y6, y7⟩ := crcells hk2; simp only [zeroC] at hV2 v0 v1 v2 v3 v4 v5 v6 v7 y0 y1 y2 y3 y4 y5 y6 y7; clear hk2 hb2))
          refine bodyPost_ret (v := .tuple #[.agg #[.int .i64 0, .int .i64 0, .int .i64 0, .float .f64 0, .int .i64 0, .int .i64 0, .int .i64 0, .int .i64 0], .int .i64 4]) ?_ rfl ⟨rfl, Fin.out⟩
          simp [results, Try.results16]
          go_simp
        · cases z
          · have p00 : ((a0 : Int) != 192) = false := by simp; omega
            have q00 : (a0 != 192) = false := by simp; omega
            have p01 : ((a1 : Int) != 158) = false := by simp; omega
            have q01 : (a1 != 158) = false := by simp; omega
            obtain rfl : E = 4 := by rw [HE.out, if_neg (by simp), if_neg (fun h => by cases h.2.2.2)]
            rw [if_neg (by decide)]
            simp only [crV, zeroC]
            clear HE HOK
            have hcur := HD.out.drew
            go_enter Try.func16, Try.ntmps16
            go_wp2_with fail
            go_region_law (first
              | (go_simp; go_at_call 34; (with_reducible refine (N60.out _ _ hcur).mono ?_); rintro e w' ⟨rfl, hw'⟩; subst hw')
              | (go_simp; go_at_call 27; (with_reducible refine (S60.out _ _ hcur).mono ?_); rintro e W3 ⟨rfl, hcur⟩))
            go_wp2_with (first
              | (go_at_call 35; (with_reducible refine (FF.out _ _ hcur).mono ?_); rintro e W5 ⟨rfl, hcur⟩; have h6 := hcur.put ⟨x1, x2, x3, x4, x5, x6, x7, x8⟩; obtain ⟨W6, hW6⟩ : ∃ W6, W5.alloc (.cells (crC ⟨x1, x2, x3, x4, x5, x6, x7, x8⟩) 36) = W6 := ⟨_, rfl⟩; rw [hW6] at h6; obtain ⟨q, hq⟩ : ∃ q, W5.heap.size = q := ⟨_, rfl⟩; rw [hq] at h6; obtain ⟨b0, b1⟩ := B0.out _ _ h6.de; obtain ⟨s0, s1, s2, s3, s4, s5, s6, s7⟩ := crcells h6.box; simp only [crC] at hW6; simp only at s0 s1 s2 s3 s4 s5 s6 s7)
              | (go_at_call 14; (with_reducible refine (MM.out _).mono ?_); rintro e W7 ⟨rfl, hb7⟩; have h7 := h6.below hb7; clear s0 s1 s2 s3 s4 s5 s6 s7; obtain ⟨s0, s1, s2, s3, s4, s5, s6, s7⟩ := crcells h7.box; simp only at s0 s1 s2 s3 s4 s5 s6 s7; obtain ⟨V2, hV2, hk2, hb2⟩ := cr_put h7.de.res (zeroC); have Fin := Lib.hid (h7.de.bel.trans (hb2 _ h7.de.hr)); obtain ⟨v0, v1, v2, v3, v4, v5, v6, v7⟩ := crcells h7.de.res; obtain ⟨t0, t1, t2, t3, t4, t5, t6, t7⟩ := crfroz h7.de.res; obtain ⟨y0, y1, y2, y3, y4, y5, y6, y7⟩ := crcells hk2; simp only [zeroC] at hV2 v0 v1 v2 v3 v4 v5 v6 v7 y0 y1 y2 y3 y4 y5 y6 y7; clear hk2 hb2)
              | (go_at_call 36; (with_reducible refine (ZZ.out _ _ h7.de).mono ?_); rintro e w' ⟨rfl, hw'⟩; subst hw'))
            refine bodyPost_ret (v := .tuple #[.agg #[.int .i64 0, .int .i64 0, .int .i64 0, .float .f64 0, .int .i64 0, .int .i64 0, .int .i64 0, .int .i64 0], .int .i64 4]) ?_ rfl ⟨rfl, Fin.out⟩
            simp [results, Try.results16]
            go_simp
          · have p00 : ((a0 : Int) != 192) = false := by simp; omega
            have q00 : (a0 != 192) = false := by simp; omega
            have p01 : ((a1 : Int) != 158) = false := by simp; omega
            have q01 : (a1 != 158) = false := by simp; omega
            obtain rfl : E = 0 := by rw [HE.out, if_neg (by simp), if_pos ⟨hh0, hh1, HOK.out.1 rfl, rfl⟩]
            rw [if_pos rfl]
            simp only [crV]
            clear HE HOK
            have hcur := HD.out.drew
            go_enter Try.func16, Try.ntmps16
            go_wp2_with fail
            go_region_law (first
              | (go_simp; go_at_call 34; (with_reducible refine (N60.out _ _ hcur).mono ?_); rintro e w' ⟨rfl, hw'⟩; subst hw')
              | (go_simp; go_at_call 27; (with_reducible refine (S60.out _ _ hcur).mono ?_); rintro e W3 ⟨rfl, hcur⟩))
            go_wp2_with (first
              | (go_at_call 35; (with_reducible refine (FF.out _ _ hcur).mono ?_); rintro e W5 ⟨rfl, hcur⟩; have h6 := hcur.put ⟨x1, x2, x3, x4, x5, x6, x7, x8⟩; obtain ⟨W6, hW6⟩ : ∃ W6, W5.alloc (.cells (crC ⟨x1, x2, x3, x4, x5, x6, x7, x8⟩) 36) = W6 := ⟨_, rfl⟩; rw [hW6] at h6; obtain ⟨q, hq⟩ : ∃ q, W5.heap.size = q := ⟨_, rfl⟩; rw [hq] at h6; obtain ⟨b0, b1⟩ := B0.out _ _ h6.de; obtain ⟨s0, s1, s2, s3, s4, s5, s6, s7⟩ := crcells h6.box; simp only [crC] at hW6; simp only at s0 s1 s2 s3 s4 s5 s6 s7)
              | (go_at_call 14; (with_reducible refine (MM.out _).mono ?_); rintro e W7 ⟨rfl, hb7⟩; have h7 := h6.below hb7; clear s0 s1 s2 s3 s4 s5 s6 s7; obtain ⟨s0, s1, s2, s3, s4, s5, s6, s7⟩ := crcells h7.box; simp only at s0 s1 s2 s3 s4 s5 s6 s7; obtain ⟨V2, hV2, hk2, hb2⟩ := cr_put h7.de.res (⟨x1, x2, x3, x4, x5, x6, x7, x8⟩); have Fin := Lib.hid (h7.de.bel.trans (hb2 _ h7.de.hr)); obtain ⟨v0, v1, v2, v3, v4, v5, v6, v7⟩ := crcells h7.de.res; obtain ⟨t0, t1, t2, t3, t4, t5, t6, t7⟩ := crfroz h7.de.res; obtain ⟨y0, y1, y2, y3, y4, y5, y6, y7⟩ := crcells hk2; simp only [zeroC] at hV2 v0 v1 v2 v3 v4 v5 v6 v7 y0 y1 y2 y3 y4 y5 y6 y7; clear hk2 hb2)
              | (go_at_call 36; (with_reducible refine (ZZ.out _ _ h7.de).mono ?_); rintro e w' ⟨rfl, hw'⟩; subst hw'))
            refine bodyPost_ret (v := .tuple #[.agg #[.int .i64 x1, .int .i64 x2, .int .i64 x3, .float .f64 x4, .int .i64 x5, .int .i64 x6, .int .i64 x7, .int .i64 x8], .int .i64 0]) ?_ rfl ⟨rfl, Fin.out⟩
            simp [results, Try.results16]
            go_simp
      · have p00 : ((a0 : Int) != 192) = false := by simp; omega
        have q00 : (a0 != 192) = false := by simp; omega
        have p01 : ((a1 : Int) != 158) = true := by simp; omega
        have q01 : (a1 != 158) = true := by simp; omega
        obtain rfl : E = 4 := by rw [HE.out, if_neg (by simp), if_neg (fun h => hh1 h.2.1)]
        rw [if_neg (by decide)]
        simp only [crV, zeroC]
        clear HE HOK
        have hcur := HD.out.drew
        go_enter Try.func16, Try.ntmps16
        go_wp2_with fail
        go_region_law (first
          | (go_simp; go_at_call 34; (with_reducible refine (N60.out _ _ hcur).mono ?_); rintro e w' ⟨rfl, hw'⟩; subst hw')
          | (go_simp; go_at_call 27; (with_reducible refine (S60.out _ _ hcur).mono ?_); rintro e W3 ⟨rfl, hcur⟩))
        go_wp2_with (go_at_call 35; (with_reducible refine (FF.out _ _ hcur).mono ?_); rintro e W5 ⟨rfl, hcur⟩; have h6 := hcur.put ⟨x1, x2, x3, x4, x5, x6, x7, x8⟩; obtain ⟨W6, hW6⟩ : ∃ W6, W5.alloc (.cells (crC ⟨x1, x2, x3, x4, x5, x6, x7, x8⟩) 36) = W6 := ⟨_, rfl⟩; rw [hW6] at h6; obtain ⟨q, hq⟩ : ∃ q, W5.heap.size = q := ⟨_, rfl⟩; rw [hq] at h6; obtain ⟨b0, b1⟩ := B0.out _ _ h6.de; obtain ⟨s0, s1, s2, s3, s4, s5, s6, s7⟩ := crcells h6.box; simp only [crC] at hW6; simp only at s0 s1 s2 s3 s4 s5 s6 s7; obtain ⟨V2, hV2, hk2, hb2⟩ := cr_put h6.de.res (zeroC); have Fin := Lib.hid (h6.de.bel.trans (hb2 _ h6.de.hr)); obtain ⟨v0, v1, v2, v3, v4, v5, v6, v7⟩ := crcells h6.de.res; obtain ⟨t0, t1, t2, t3, t4, t5, t6, t7⟩ := crfroz h6.de.res; obtain ⟨y0, y1, y2, y3, y4, y5, y6, y7⟩ := crcells hk2; simp only [zeroC] at hV2 v0 v1 v2 v3 v4 v5 v6 v7 y0 y1 y2 y3 y4 y5 y6 y7; clear hk2 hb2)
        refine bodyPost_ret (v := .tuple #[.agg #[.int .i64 0, .int .i64 0, .int .i64 0, .float .f64 0, .int .i64 0, .int .i64 0, .int .i64 0, .int .i64 0], .int .i64 4]) ?_ rfl ⟨rfl, Fin.out⟩
        simp [results, Try.results16]
        go_simp
    · have p00 : ((a0 : Int) != 192) = true := by simp; omega
      have q00 : (a0 != 192) = true := by simp; omega
      obtain rfl : E = 4 := by rw [HE.out, if_neg (by simp), if_neg (fun h => hh0 h.1)]
      rw [if_neg (by decide)]
      simp only [crV, zeroC]
      clear HE HOK
      have hcur := HD.out.drew
      go_enter Try.func16, Try.ntmps16
      go_wp2_with fail
      go_region_law (first
        | (go_simp; go_at_call 34; (with_reducible refine (N60.out _ _ hcur).mono ?_); rintro e w' ⟨rfl, hw'⟩; subst hw')
        | (go_simp; go_at_call 27; (with_reducible refine (S60.out _ _ hcur).mono ?_); rintro e W3 ⟨rfl, hcur⟩))
      go_wp2_with (go_at_call 35; (with_reducible refine (FF.out _ _ hcur).mono ?_); rintro e W5 ⟨rfl, hcur⟩; have h6 := hcur.put ⟨x1, x2, x3, x4, x5, x6, x7, x8⟩; obtain ⟨W6, hW6⟩ : ∃ W6, W5.alloc (.cells (crC ⟨x1, x2, x3, x4, x5, x6, x7, x8⟩) 36) = W6 := ⟨_, rfl⟩; rw [hW6] at h6; obtain ⟨q, hq⟩ : ∃ q, W5.heap.size = q := ⟨_, rfl⟩; rw [hq] at h6; obtain ⟨b0, b1⟩ := B0.out _ _ h6.de; obtain ⟨s0, s1, s2, s3, s4, s5, s6, s7⟩ := crcells h6.box; simp only [crC] at hW6; simp only at s0 s1 s2 s3 s4 s5 s6 s7; obtain ⟨V2, hV2, hk2, hb2⟩ := cr_put h6.de.res (zeroC); have Fin := Lib.hid (h6.de.bel.trans (hb2 _ h6.de.hr)); obtain ⟨v0, v1, v2, v3, v4, v5, v6, v7⟩ := crcells h6.de.res; obtain ⟨t0, t1, t2, t3, t4, t5, t6, t7⟩ := crfroz h6.de.res; obtain ⟨y0, y1, y2, y3, y4, y5, y6, y7⟩ := crcells hk2; simp only [zeroC] at hV2 v0 v1 v2 v3 v4 v5 v6 v7 y0 y1 y2 y3 y4 y5 y6 y7; clear hk2 hb2)
      refine bodyPost_ret (v := .tuple #[.agg #[.int .i64 0, .int .i64 0, .int .i64 0, .float .f64 0, .int .i64 0, .int .i64 0, .int .i64 0, .int .i64 0], .int .i64 4]) ?_ rfl ⟨rfl, Fin.out⟩
      simp [results, Try.results16]
      go_simp
  · obtain rfl : E = 5 := by rw [HE.out, if_pos hs]
    rw [if_neg (by decide)]
    simp only [crV, zeroC]
    have p1 : ((G : Int) != (S : Int)) = true := by simp; omega
    have p2 : (G != S) = true := by simp; omega
    clear HE hs
    have hcur := HD.out.drew
    go_enter Try.func16, Try.ntmps16
    go_wp2_with fail
    go_region_law (first
      | (go_simp; go_at_call 34; (with_reducible refine (N60.out _ _ hcur).mono ?_); rintro e w' ⟨rfl, hw'⟩; subst hw')
      | (go_simp; go_at_call 27; (with_reducible refine (S60.out _ _ hcur).mono ?_); rintro e W3 ⟨rfl, hcur⟩))
    obtain ⟨V2, hV2, hk2, hb2⟩ := cr_put hcur.res (zeroC)
    have Fin := Lib.hid (hcur.bel.trans (hb2 _ hcur.hr))
    obtain ⟨v0, v1, v2, v3, v4, v5, v6, v7⟩ := crcells hcur.res
    obtain ⟨t0, t1, t2, t3, t4, t5, t6, t7⟩ := crfroz hcur.res
    obtain ⟨y0, y1, y2, y3, y4, y5, y6, y7⟩ := crcells hk2
    simp only [zeroC] at hV2 v0 v1 v2 v3 v4 v5 v6 v7 y0 y1 y2 y3 y4 y5 y6 y7
    clear hk2 hb2
    go_wp2_with fail
    refine bodyPost_ret (v := .tuple #[.agg #[.int .i64 0, .int .i64 0, .int .i64 0, .float .f64 0, .int .i64 0, .int .i64 0, .int .i64 0, .int .i64 0], .int .i64 5]) ?_ rfl ⟨rfl, Fin.out⟩
    simp [results, Try.results16]
    go_simp
theorem cdec_any (A : Option Addr) (cap : Nat) (l : List Nat) (hl : ∀ x ∈ l, x < 256) (hcap : l.length ≤ cap) (n : Nat) (hn : n = l.length) {w : World} (hsl : Sl w w.heap.size A (byts l)) :
    Calls Try.prog 16 #[.slice A n cap] w (DecR l w) := by
  by_cases h : l.length = 64
  · obtain rfl : n = 64 := by omega
    exact cdec_64 A cap l hl h (by omega) hsl
  · exact cdec_len A cap l h n hn w
end Go.Proofs.Ythdmghocfngfgaa
