/- PlatterRots, walked. -/
import Derived.Test.YtikionlakldjoaaProts
namespace Go.Proofs.Ytikionlakldjoaa
open Go.RowKit Go.Maps

set_option maxRecDepth 10000 in
set_option maxHeartbeats 4000000 in
theorem rots_any (fill bit mask : Nat) (hf : fill < 256) (hbt : bit < 65536) (hm : mask < 2 ^ 32) (w : World) : Calls Try.prog 7 #[.int .u8 (fill : Int), .int .u16 (bit : Int), .int .u32 (mask : Int)] w fun e w' => e = .returned (.bool true) ∧ Below w.heap.size w w' := by
  have hl64 := all64_length fill
  have hl8 := all64_bytes hf
  generalize hal : all64 fill = l at *
  obtain ⟨f2, hf2⟩ : ∃ f2 : Nat, f2 = (fill + 1) % 256 := ⟨_, rfl⟩
  have hf2' : f2 < 256 := by omega
  have hadd : IntKind.u8.wrap ((fill : Int) + 1) = (f2 : Int) := by rw [IntKind.wrap]; simp [IntKind.bits, IntKind.signed]; omega
  obtain ⟨a, ha⟩ : ∃ a : Nat, a = bit % 600 := ⟨_, rfl⟩
  have ha' : a < 600 := by omega
  have hat : (wrap64 (bit : Int)).tmod 600 = (a : Int) := by
    rw [← IntWalk.i64_left, IntWalk.i64_in _ (by omega), Int.tmod_eq_emod_of_nonneg (by omega)]; omega
  have M0 := mild_new 64
  have e1 : (newSt 64).write 9 l = (0, ((newSt 64).count 2).put 9 l) := write_yes rfl (by decide) hl64
  have M1 := M0.put 2 9 l
  have hc1 : (((newSt 64).count 2).put 9 l).cache = [(9, l)] := rfl
  have hb1 : (((newSt 64).count 2).put 9 l).blocks = List.replicate 64 zero64 := rfl
  generalize ((newSt 64).count 2).put 9 l = S1 at *
  have e2 := sync_yes M1.p
  have M2 := M1.sync S1.cache.length
  have g2 : ({ S1.count 3 with blocks := applied S1 (fun _ => true) S1.cache.length, cache := [] } : PSt).blocks.getD 9 [] = l := by
    show (applied S1 (fun _ => true) S1.cache.length).getD 9 [] = l
    rw [hc1]
    show (applied S1 (fun _ => true) 1).getD 9 [] = l
    rw [applied, applied, hc1, hb1]
    simp [applyOne]
  have k2 : ({ S1.count 3 with blocks := applied S1 (fun _ => true) S1.cache.length, cache := [] } : PSt).cache = [] := rfl
  generalize ({ S1.count 3 with blocks := applied S1 (fun _ => true) S1.cache.length, cache := [] } : PSt) = S2 at *
  obtain ⟨W, hW⟩ : ∃ W, W = rotted l a mask := ⟨_, rfl⟩
  have hW64 : W.length = 64 := by rw [hW]; unfold rotted; rw [rotTo_length, hl64]
  have hW8 : ∀ x ∈ W, x < 256 := by rw [hW]; exact rotTo_bytes l a mask hl8 _
  have M3 := M2.rot9 a mask
  have g3 : (rot9 S2 a mask).blocks.getD 9 [] = W := by rw [rot9_get M2.b, g2, hW]
  have k3 : (rot9 S2 a mask).cache = [] := k2
  obtain ⟨S3, hS3⟩ : ∃ S3, S3 = rot9 S2 a mask := ⟨_, rfl⟩
  rw [← hS3] at M3 g3 k3
  have e4 : S3.read 9 = (0, W) := by rw [show (9 : Int) = ((9 : Nat) : Int) from rfl, read_yes M3.p (by rw [M3.b]; decide), look_none k3, g3]
  have M4 := M3.count 1
  have e5 : (S3.count 1).write 9 (all64 f2) = (0, ((S3.count 1).count 2).put 9 (all64 f2)) := write_yes M4.p (by rw [M4.b]; decide) (all64_length f2)
  have M5 := M4.put 2 9 (all64 f2)
  have g5 : (((S3.count 1).count 2).put 9 (all64 f2)).blocks.getD 9 [] = W := g3
  have l5 : (((S3.count 1).count 2).put 9 (all64 f2)).look 9 = all64 f2 := by rw [look_put, if_pos rfl]
  generalize ((S3.count 1).count 2).put 9 (all64 f2) = S5 at *
  have e6 : S5.read 9 = (0, all64 f2) := by rw [show (9 : Int) = ((9 : Nat) : Int) from rfl, read_yes M5.p (by rw [M5.b]; decide), l5]
  have M6 := M5.count 1
  have M7 := M6.crash []
  have g7 : ((S5.count 1).crash []).blocks.getD 9 [] = W := by rw [crash_none]; exact g5
  have k7 : ((S5.count 1).crash []).cache = [] := rfl
  obtain ⟨S7, hS7⟩ : ∃ S7, (S5.count 1).crash [] = S7 := ⟨_, rfl⟩
  rw [hS7] at M7 g7 k7
  have e8 : S7.read 9 = (0, W) := by rw [show (9 : Int) = ((9 : Nat) : Int) from rfl, read_yes M7.p (by rw [M7.b]; decide), look_none k7, g7]
  have M8 := M7.count 1
  have M9 := M8.rot9 a mask
  have g9 : (rot9 (S7.count 1) a mask).blocks.getD 9 [] = l := by rw [rot9_get M8.b, show (S7.count 1).blocks.getD 9 [] = W from g7, hW, rot_twice]
  have k9 : (rot9 (S7.count 1) a mask).cache = [] := k7
  obtain ⟨S9, hS9⟩ : ∃ S9, S9 = rot9 (S7.count 1) a mask := ⟨_, rfl⟩
  rw [← hS9] at M9 g9 k9
  have e10 : S9.read 9 = (0, l) := by rw [show (9 : Int) = ((9 : Nat) : Int) from rfl, read_yes M9.p (by rw [M9.b]; decide), look_none k9, g9]
  clear g2 k2 g3 k3 g5 l5 g7 k7 g9 k9 hc1 hb1
  have Hhl64 := Lib.hid hl64
  have Hhl8 := Lib.hid hl8
  have Hhal := Lib.hid hal
  have Hhf2 := Lib.hid hf2
  have Hhf2p := Lib.hid hf2'
  have Hha := Lib.hid ha
  have Hhap := Lib.hid ha'
  have HM0 := Lib.hid M0
  have HM1 := Lib.hid M1
  have HM2 := Lib.hid M2
  have HM3 := Lib.hid M3
  have HM4 := Lib.hid M4
  have HM5 := Lib.hid M5
  have HM6 := Lib.hid M6
  have HM7 := Lib.hid M7
  have HM8 := Lib.hid M8
  have HM9 := Lib.hid M9
  have He1 := Lib.hid e1
  have He2 := Lib.hid e2
  have He4 := Lib.hid e4
  have He5 := Lib.hid e5
  have He6 := Lib.hid e6
  have He8 := Lib.hid e8
  have He10 := Lib.hid e10
  have HhW := Lib.hid hW
  have HhW64 := Lib.hid hW64
  have HhW8 := Lib.hid hW8
  have HhS3 := Lib.hid hS3
  have HhS7 := Lib.hid hS7
  have HhS9 := Lib.hid hS9
  have Hhf := Lib.hid hf
  have Hhbt := Lib.hid hbt
  have Hhm := Lib.hid hm
  clear hl64 hl8 hal hf2 hf2' ha ha' M0 M1 M2 M3 M4 M5 M6 M7 M8 M9 e1 e2 e4 e5 e6 e8 e10 hW hW64 hW8 hS3 hS7 hS9 hf hbt hm
  go_enter Try.func7, Try.ntmps7
  go_wp2_with fail
  refine (pawake _).mono ?_
  rintro e wa ⟨rfl, Ba⟩
  have hle := Ba.size
  go_wp2_with fail
  refine (at_new 64 (by omega) (by omega) _).mono ?_
  rintro e w1 ⟨rfl, A1, B1⟩
  go_wp2_with fail
  refine (at_full A1 fill).mono ?_
  rintro e w2 ⟨rfl, A2, B2⟩
  rw [Hhal.out] at A2
  go_wp2_with fail
  refine (wr A2 (HM0.out.small (by omega) (by omega)) (List.mem_cons_self ..) Hhl64.out Hhl8.out He1.out).mono ?_
  rintro e w3 ⟨rfl, A3, B3⟩
  go_wp2_with fail
  refine (sy A3 (HM1.out.small (by omega) (by omega)) He2.out).mono ?_
  rintro e w4 ⟨rfl, A4, B4⟩
  go_wp2_with fail
  refine (at_full A4 fill).mono ?_
  rintro e w5 ⟨rfl, A5, B5⟩
  rw [Hhal.out] at A5
  have hmB : wa.heap.size ≤ w4.heap.size := A4.1
  have A6 := A5.less (ks' := [(w4.heap.size, l)]) (by simp)
  have Bw : Below w.heap.size w w5 := ((((Ba.trans (B1.mono hle)).trans (B2.mono hle)).trans (B3.mono hle)).trans (B4.mono hle)).trans (B5.mono hle)
  clear A1 A2 A3 A4 A5 B1 B2 B3 B4 B5 Ba
  generalize w4.heap.size = m at *
  generalize w1.heap.size = z at *
  go_wp2_with fail
  go_loopw [11] (fun t wr => ∃ i : Nat, i ≤ rotN a ∧ t = .int .i64 i ∧ At wa.heap.size wr (wa.heap.size + 1) S2 [(m, rotTo l a mask i)] ∧ Below w.heap.size w wr) (fun t _ => rotN a - (intOf t).toNat)
  case atStart => exact ⟨0, by omega, rfl, A6, Bw⟩
  case round =>
    obtain ⟨i, hi, rfl, hA, hbr⟩ := hrel
    clear A6 Bw
    by_cases hlt : i < rotN a
    · have hi32 : i < 32 := by unfold rotN at hlt; omega
      have hi512 : a + i < 512 := by unfold rotN at hlt; omega
      have q0 : decide ((i : Int) < 32) = true := by simp; omega
      have q1 : decide ((a : Int) + i < 512) = true := by simp; omega
      obtain ⟨hx, hfz⟩ := hA.cell (m := m) (l := rotTo l a mask i) (List.mem_cons_self ..) (i := (a + i) / 8) (by rw [rotTo_length, Hhl64.out]; omega)
      have hx8 : (rotTo l a mask i).getD ((a + i) / 8) 0 < 256 := getD_byte (rotTo_bytes l a mask Hhl8.out i) _
      have r1 : wrap64 ((a : Int) + (i : Int)) = (a : Int) + (i : Int) := by rw [← IntWalk.i64_left, IntWalk.i64_in _ (by omega)]
      have HA := Lib.hid hA
      have Hlt := Lib.hid hlt
      have Hb := Lib.hid hbr
      clear hA hlt hi hbr
      by_cases hbit : mask / 2 ^ i % 2 = 1
      · have q2 : (bits BinOp.and IntKind.u32 ((mask : Int) / 2 ^ i) 1 == 1) = true := by rw [mask_bit Hhm.out, hbit]; rfl
        have Hbit := Lib.hid hbit
        generalize hxx : (rotTo l a mask i).getD ((a + i) / 8) 0 = x at *
        have Hxx := Lib.hid hxx
        have Hturn := Lib.hid (turn_bit hx8 ((a + i) % 8) (Nat.mod_lt _ (by decide)))
        clear hbit hxx hx8
        go_wp2_with fail
        go_roundw
        case rel =>
          refine ⟨i + 1, by have := Hlt.out; omega, by go_num, ?_, Hb.out.setCell (p := ⟨m, (a + i) / 8, none⟩) (Nat.le_trans hle hmB) _⟩
          rw [Hturn.out, rotTo, if_pos Hbit.out, Hxx.out]
          exact HA.out.poke _ _
        case measure => have := Hlt.out; simp [intOf]; omega
      · have q2 : (bits BinOp.and IntKind.u32 ((mask : Int) / 2 ^ i) 1 == 1) = false := by
          rw [mask_bit Hhm.out, show mask / 2 ^ i % 2 = 0 by omega]; rfl
        have Hbit := Lib.hid hbit
        clear hbit hx8
        go_wp2_with fail
        go_roundw
        case rel => exact ⟨i + 1, by have := Hlt.out; omega, by go_num, by rw [rotTo, if_neg Hbit.out]; exact HA.out, Hb.out⟩
        case measure => have := Hlt.out; simp [intOf]; omega
    · have hend : i = rotN a := by omega
      have hor : (decide ((i : Int) < 32) = true ∧ decide ((a : Int) + i < 512) = false) ∨ decide ((i : Int) < 32) = false := by
        unfold rotN at hend
        simp
        omega
      have hi33 : i ≤ 32 := by unfold rotN at hi; omega
      have hap := Hhap.out
      have r1 : wrap64 ((a : Int) + (i : Int)) = (a : Int) + (i : Int) := by rw [← IntWalk.i64_left, IntWalk.i64_in _ (by omega)]
      have hfin : At wa.heap.size wr (wa.heap.size + 1) S2 [(m, W)] := by rw [HhW.out]; unfold rotted; rw [← hend]; exact hA
      clear hA hend hi hlt
      rcases hor with ⟨q0, q1⟩ | q0
      all_goals
        go_wp2_with fail
        refine (ro hfin HM2.out.b a mask Hhm.out).mono ?_
        rintro e w6 ⟨rfl, A6, B6⟩
        rw [← HhS3.out] at A6
        go_wp2_with fail
        refine (ro_no A6 64 0 1 (by unfold PSt.rotOk; rw [HM3.out.b]; rfl)).mono ?_
        rintro e w6' ⟨rfl, rfl⟩
        go_wp2_with fail
        refine (ro_no A6 (-1) 0 1 (by unfold PSt.rotOk; rfl)).mono ?_
        rintro e w6' ⟨rfl, rfl⟩
        go_wp2_with fail
        refine (ro_no A6 9 (-1) 1 (by unfold PSt.rotOk; rw [HM3.out.b]; rfl)).mono ?_
        rintro e w6' ⟨rfl, rfl⟩
        go_wp2_with fail
        refine (rd A6 (HM3.out.small (by omega) (by omega)) He4.out HhW64.out).mono ?_
        rintro e w7 ⟨m7, rfl, A7, B7⟩
        go_wp2_with fail
        refine (at_full A7 f2).mono ?_
        rintro e w8 ⟨rfl, A8, B8⟩
        go_wp2_with fail
        refine (Go.Proofs.Ytikionlakldjoaa.wr A8 (HM4.out.small (by omega) (by omega)) (List.mem_cons_self ..) (all64_length f2) (all64_bytes Hhf2p.out) He5.out).mono ?_
        rintro e w9 ⟨rfl, A9, B9⟩
        go_wp2_with fail
        refine (rd A9 (HM5.out.small (by omega) (by omega)) He6.out (all64_length f2)).mono ?_
        rintro e w10 ⟨m10, rfl, A10, B10⟩
        go_wp2_with fail
        refine (cr0 A10 (HM6.out.small (by omega) (by omega)) HhS7.out).mono ?_
        rintro e w11 ⟨rfl, A11, B11⟩
        go_wp2_with fail
        refine (rd A11 (HM7.out.small (by omega) (by omega)) He8.out HhW64.out).mono ?_
        rintro e w12 ⟨m12, rfl, A12, B12⟩
        go_wp2_with fail
        refine (ro A12 HM8.out.b a mask Hhm.out).mono ?_
        rintro e w13 ⟨rfl, A13, B13⟩
        rw [← HhS9.out] at A13
        go_wp2_with fail
        refine (rd A13 (HM9.out.small (by omega) (by omega)) He10.out Hhl64.out).mono ?_
        rintro e w14 ⟨m14, rfl, A14, B14⟩
        have Bw := (((((((((hbr.trans (B6.mono hle)).trans (B7.mono hle)).trans (B8.mono hle)).trans (B9.mono hle)).trans (B10.mono hle)).trans (B11.mono hle)).trans (B12.mono hle)).trans (B13.mono hle)).trans (B14.mono hle))
        have A0 := Lib.hid (A14.less (ks' := [(m14, l), (m12, W), (m10, all64 f2), (m7, W), (m, W)]) (by simp)).drew
        obtain ⟨s1, hs1⟩ : ∃ s, str l = s := ⟨_, rfl⟩
        obtain ⟨s2, hs2⟩ : ∃ s, str (all64 f2) = s := ⟨_, rfl⟩
        obtain ⟨s3, hs3⟩ : ∃ s, str W = s := ⟨_, rfl⟩
        have S5 : ∀ (w' : World) (st : PSt) (ks : List (Nat × List Nat)), At wa.heap.size w' (wa.heap.size + 1) st ks → (∀ x ∈ [(m14, l), (m12, W), (m10, all64 f2), (m7, W), (m, W)], x ∈ ks) → (convert 49 9 (.slice (some ⟨m14, 0, none⟩) 64 64)).run Try.prog w' = .ok (.string s1) w' ∧ (convert 49 9 (.slice (some ⟨m12, 0, none⟩) 64 64)).run Try.prog w' = .ok (.string s3) w' ∧ (convert 49 9 (.slice (some ⟨m10, 0, none⟩) 64 64)).run Try.prog w' = .ok (.string s2) w' ∧ (convert 49 9 (.slice (some ⟨m7, 0, none⟩) 64 64)).run Try.prog w' = .ok (.string s3) w' ∧ (convert 49 9 (.slice (some ⟨m, 0, none⟩) 64 64)).run Try.prog w' = .ok (.string s3) w' := fun w' st ks h hs => by
          have h1 := hs (m14, l) (List.mem_cons_self ..)
          have h2 := hs (m12, W) (List.mem_cons_of_mem _ (List.mem_cons_self ..))
          have h3 := hs (m10, all64 f2) (List.mem_cons_of_mem _ (List.mem_cons_of_mem _ (List.mem_cons_self ..)))
          have h4 := hs (m7, W) (List.mem_cons_of_mem _ (List.mem_cons_of_mem _ (List.mem_cons_of_mem _ (List.mem_cons_self ..))))
          have h5 := hs (m, W) (List.mem_cons_of_mem _ (List.mem_cons_of_mem _ (List.mem_cons_of_mem _ (List.mem_cons_of_mem _ (List.mem_cons_self ..)))))
          have j1 := at_conv h h1 Hhl64.out
          have j2 := at_conv h h2 HhW64.out
          have j3 := at_conv h h3 (all64_length f2)
          have j4 := at_conv h h4 HhW64.out
          have j5 := at_conv h h5 HhW64.out
          rw [hs1] at j1
          rw [hs2] at j3
          rw [hs3] at j2 j4 j5
          exact ⟨j1, j2, j3, j4, j5⟩
        have k0 := S5 _ _ _ A0.out (fun _ h => h)
        have HS5 := Lib.hid S5
        have K0 := Lib.hid k0
        have Hs1 := Lib.hid hs1
        have Hs2 := Lib.hid hs2
        clear hs1 hs2 hs3 S5 k0 A6 A7 A8 A9 A10 A11 A12 A13 A14 B6 B7 B8 B9 B10 B11 B12 B13 B14 hfin hbr
        go_wp2_with fail
        go_region_held_law (fun w' => (convert 49 9 (.slice (some ⟨m14, 0, none⟩) 64 64)).run Try.prog w' = .ok (.string s1) w' ∧ (convert 49 9 (.slice (some ⟨m12, 0, none⟩) 64 64)).run Try.prog w' = .ok (.string s3) w' ∧ (convert 49 9 (.slice (some ⟨m10, 0, none⟩) 64 64)).run Try.prog w' = .ok (.string s2) w' ∧ (convert 49 9 (.slice (some ⟨m7, 0, none⟩) 64 64)).run Try.prog w' = .ok (.string s3) w' ∧ (convert 49 9 (.slice (some ⟨m, 0, none⟩) 64 64)).run Try.prog w' = .ok (.string s3) w') (first | exact K0.out | exact KX.out | exact KY.out) (first
          | (go_at_call 19; refine (at_full AA.out fill).mono ?_; rintro e w16 ⟨rfl, AB, BB⟩; rw [Hhal.out] at AB; have k7 := at_conv AB (m := _) (List.mem_cons_self ..) Hhl64.out; rw [Hs1.out] at k7; have KY := Lib.hid (HS5.out _ _ _ AB (fun _ h => List.mem_cons_of_mem _ (List.mem_cons_of_mem _ h))))
          | (go_at_call 19; refine (at_full A0.out f2).mono ?_; rintro e w15 ⟨rfl, AX, BX⟩; simp only [World.size_drew] at AX; have k6 := at_conv AX (m := _) (List.mem_cons_self ..) (all64_length _); rw [Hs2.out] at k6; have KX := Lib.hid (HS5.out _ _ _ AX (fun _ h => List.mem_cons_of_mem _ h)); have AA := Lib.hid AX; clear AX))
        go_wp2_with fail
        go_ret
        exact ⟨rfl, (Bw.drew.trans (BX.mono hle)).trans (BB.mono hle)⟩
end Go.Proofs.Ytikionlakldjoaa
