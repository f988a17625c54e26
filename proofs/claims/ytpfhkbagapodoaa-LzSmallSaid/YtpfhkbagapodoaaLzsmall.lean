/- LzSmall, under what the program's functions are held to. -/
import Derived.Test.YtpfhkbagapodoaaLzc
namespace Go.Proofs.Ytpfhkbagapodoaa
open Go.RowKit

theorem row_set (k x : Nat) : ∀ {j : Nat}, j < k → (List.replicate j x ++ List.replicate (k - j) 0).set j x = List.replicate (j + 1) x ++ List.replicate (k - (j + 1)) 0 := by
  intro j h
  rw [List.set_append_right _ _ (by rw [List.length_replicate]; exact Nat.le_refl _), List.length_replicate, Nat.sub_self, show k - j = (k - (j + 1)) + 1 by omega, List.replicate_succ, List.set_cons_zero, List.replicate_succ', List.append_assoc]
  rfl
set_option maxRecDepth 4000 in
set_option maxHeartbeats 4000000 in
theorem lzsmall_any (hU : UnpackC) {P : List Nat → List Nat} (hP : PackC P) (hO : PackOk P) (hM : MostC) (w : World) (x u : Nat) (hx : x < 256) (hu : u < 65536) :
    Calls Try.prog 5 #[.int .u8 (x : Int), .int .u16 (u : Int)] w fun e w' => e = .returned (.bool true) ∧ Below w.heap.size w w' := by
  have AW := Lib.hid (fun w => awake_any hU hP hO hM w)
  obtain ⟨r, hr, hrb⟩ : ∃ r : Nat, (u : Int) % 4033 = r ∧ r ≤ 4032 := ⟨u % 4033, by omega, by omega⟩
  obtain ⟨k, hk⟩ : ∃ k : Nat, k = 64 + r := ⟨_, rfl⟩
  have hki : (64 : Int) + (r : Int) = (k : Int) := by omega
  have hk64 : 64 ≤ k := by omega
  have hkb : k ≤ 4096 := by omega
  have mk1 : ∀ w, (Instr.makeSlice 22 (.int .i64 (k : Int)) (.int .i64 (k : Int))).run Try.prog w = .ok (.slice (some ⟨w.heap.size, 0, none⟩) k k) (w.alloc (.cells (zcells k) 5)) := make_bytes k (by omega)
  have hrow : ∀ y ∈ List.replicate k x, y < 256 := by intro y hy; rw [List.eq_of_mem_replicate hy]; exact hx
  have hpb := pack_back hO hrow (by rw [List.length_replicate]; exact hkb)
  rw [List.length_replicate] at hpb
  have hps := hO.small k x hk64 hkb hx
  have hpl := pack_most hO hrow (by rw [List.length_replicate]; exact hkb)
  rw [List.length_replicate] at hpl
  have C1 := Lib.hid (fun W A c (h : By W A c (List.replicate k x)) => hP W A c (List.replicate k x) k h (by rw [List.length_replicate]; omega) (by rw [List.length_replicate]))
  have C2 := Lib.hid (fun W A c (h : By W A c (P (List.replicate k x))) => (runpack_by h (by omega) (k : Int) (P (List.replicate k x)).length rfl).mono fun e w' h => unpR_is (l := List.replicate k x) hpb h)
  have Hrow := Lib.hid hrow
  have hp4 : (P (List.replicate k x)).length ≤ k / 4 + 16 := hps
  have Hx := Lib.hid hx
  obtain ⟨Z, hZ⟩ : ∃ Z, Z = P (List.replicate k x) := ⟨_, rfl⟩
  rw [← hZ] at C1 C2 hp4
  obtain ⟨zl, hzl⟩ : ∃ zl, zl = Z.length := ⟨_, rfl⟩
  rw [← hzl] at C1 C2 hp4
  have q5 : decide ((zl : Int) ≤ (k : Int) / 4 + 16) = true := by rw [decide_eq_true_eq]; omega
  clear hpb hps hpl hrow hZ hzl hU hP hO hM hk hx hrb hp4
  go_enter Try.func5, Try.ntmps5
  go_wp2_with fail
  refine (AW.out _).mono ?_
  rintro e w1 ⟨rfl, hb⟩
  obtain ⟨w2, h2⟩ : ∃ y, y = w1.alloc (.cells (zcells k) 5) := ⟨_, rfl⟩
  have B0 : ByBlk w2 w1.heap.size (List.replicate k 0) := by rw [h2]; exact byblk_zeros w1 k
  have b2 : Below w1.heap.size w1 w2 := by rw [h2]; exact (Below.refl _ _).alloc (Nat.le_refl _) _
  have HB := Lib.hid (hb.trans (b2.mono hb.size))
  have HB0 := Lib.hid B0
  have e2 : w1.alloc (.cells (zcells k) 5) = w2 := h2.symm
  have hgw : w.heap.size ≤ w1.heap.size := hb.size
  clear hb h2 b2 B0 AW
  generalize hg : w1.heap.size = g at *
  go_wp2_with fail
  go_loopw [7] (fun i wr => ∃ j : Nat, j ≤ k ∧ i = .int .i64 j ∧ ByBlk wr g (List.replicate j x ++ List.replicate (k - j) 0) ∧ Below w.heap.size w wr) (fun i _ => k - (intOf i).toNat)
  case atStart => exact ⟨0, Nat.zero_le _, rfl, by simpa using HB0.out, HB.out⟩
  case round =>
    obtain ⟨j, hj, rfl, hrow, hbr⟩ := hrel
    have HR := Lib.hid hrow
    have HBr := Lib.hid hbr
    by_cases hlt : j < k
    · have cc := byblk_cell hrow (i := j) (by rw [List.length_append, List.length_replicate, List.length_replicate]; omega)
      have fz := Blk.frozen hrow j
      have st := byblk_set hrow j x (v := .int .u8 (x : Int)) rfl
      rw [row_set k x hlt] at st
      have St := Lib.hid st
      have q3 : decide ((j : Int) < (k : Int)) = true := by rw [decide_eq_true_eq]; omega
      clear st hrow hbr HB0 HB
      generalize (List.replicate j x ++ List.replicate (k - j) 0).getD j 0 = v at *
      go_wp2_with fail
      go_roundw
      case rel => exact ⟨j + 1, by omega, by go_num, St.out, HBr.out.setCell (p := ⟨g, j, none⟩) hgw _⟩
      case measure => simp [intOf]; omega
    · have hjk : j = k := by omega
      subst hjk
      have q3 : decide ((j : Int) < (j : Int)) = false := by simp
      rw [Nat.sub_self, List.replicate_zero, List.append_nil] at hrow
      have hY : By wr (some ⟨g, 0, none⟩) j (List.replicate j x) := ⟨byblk_sl hrow, Hrow.out, by rw [List.length_replicate]; exact Nat.le_refl _, by simp, by rw [List.length_replicate]; omega⟩
      have Y := Lib.hid hY
      have N1 := Lib.hid (C1.out _ _ _ hY)
      clear hrow hbr hY HB0 HB HR C1
      go_wp2_with fail
      refine N1.out.mono ?_
      rintro e w3 ⟨A3, c3, rfl, y3, b3⟩
      have HB3 := Lib.hid (HBr.out.trans (b3.mono HBr.out.size))
      have Y3 := Lib.hid (Y.out.below b3)
      have N3 := Lib.hid (C2.out _ _ _ y3)
      clear y3 b3 HBr Y N1 C2
      go_wp2_with fail
      refine N3.out.mono ?_
      rintro e w4 ⟨A4, c4, rfl, y4, b4⟩
      have HB4 := Lib.hid (HB3.out.trans (b4.mono HB3.out.size))
      have k1 := conv_b (cap := c4) y4.sl
      have k2 := conv_b (cap := j) (Y3.out.below b4).sl
      rw [List.length_replicate] at k1 k2
      rw [List.length_replicate]
      clear y4 b4 HB3 Y3 N3 Hrow
      generalize bstr (List.replicate j x) = s at *
      go_wp2_with fail
      go_ret
      exact ⟨rfl, HB4.out⟩
end Go.Proofs.Ytpfhkbagapodoaa
