/- The document's words. -/
import Derived.Test.YtnkgcibdibgmjaaWd
import Derived.Test.YtnkgcibdibgmjaaBy
import Derived.Test.YtnkgcibdibgmjaaDepc
namespace Go.Proofs.Ytnkgcibdibgmjaa
open Go.RowKit

set_option maxRecDepth 4000 in
set_option maxHeartbeats 4000000 in
theorem rwords_any (l : List Int) (hl : l.length = 256) (w : World) :
    Calls Try.prog 37 #[.agg (ints l)] w fun e w' => e = .returned (.agg (ints (Wd.codes l))) ∧ Below w.heap.size w w' := by
  obtain ⟨t, N, ht, hN, hagg, hix, hund, hsz, hz0⟩ := t256
  obtain ⟨Z, hZ⟩ : ∃ Z, Z = ints (List.replicate 256 0) := ⟨_, rfl⟩
  rw [← hZ] at hz0
  have hZs : Z.size = 256 := by rw [hZ, ints_size, List.length_replicate]
  obtain ⟨X, hX⟩ : ∃ X, X = ints l := ⟨_, rfl⟩
  rw [← hX]
  have HX := Lib.hid hX
  have HZ := Lib.hid hZ
  have HN := Lib.hid hN
  have Hix := Lib.hid hix
  have Ht := Lib.hid ht
  have E1 : Op.alloc 50 = Op.alloc t := by rw [ht]
  have E2 : ∀ a b, Op.store 50 a b = Op.store t a b := by rw [ht]; exact fun _ _ => rfl
  have E3 : ∀ a b, Op.indexAddr 50 a b = Op.indexAddr t a b := by rw [ht]; exact fun _ _ => rfl
  have E4 : ∀ a, Op.load 50 a = Op.load t a := by rw [ht]; exact fun _ => rfl
  have E5 : ∀ a, Op.box 50 a = Op.box t a := by rw [ht]; exact fun _ => rfl
  obtain ⟨W0, hW0⟩ : ∃ x, x = w.alloc (.cells X t) := ⟨_, rfl⟩
  obtain ⟨W1, hW1⟩ : ∃ x, x = W0.alloc (.cells Z t) := ⟨_, rfl⟩
  obtain ⟨W2, hW2⟩ : ∃ x, x = W1.alloc (.cells Z t) := ⟨_, rfl⟩
  obtain ⟨g0, hg0⟩ : ∃ g, w.heap.size = g := ⟨_, rfl⟩
  obtain ⟨g1, hg1⟩ : ∃ g, W0.heap.size = g := ⟨_, rfl⟩
  obtain ⟨g2, hg2⟩ : ∃ g, W1.heap.size = g := ⟨_, rfl⟩
  have h01 : g1 = g0 + 1 := by rw [← hg1, hW0, ← hg0]; simp
  have h12 : g2 = g1 + 1 := by rw [← hg2, hW1, ← hg1]; simp
  have B0 := Lib.hid (show Blk W2 g0 t X by
    have := ((Blk.new w t X).alloc (.cells Z t)).alloc (.cells Z t)
    rw [hW2, hW1, hW0, ← hg0]; exact this)
  have B1 := Lib.hid (show Blk W2 g1 t Z by
    have := (Blk.new W0 t Z).alloc (.cells Z t)
    rw [hW2, hW1, ← hg1]; exact this)
  have B2 := Lib.hid (show Blk W2 g2 t (ints (Wd.asg l 1 0)) by
    rw [Wd.asg_zero, ← HZ.out, hW2, ← hg2]; exact Blk.new _ _ _)
  have HB := Lib.hid (show Below w.heap.size w W2 by
    rw [hW2, hW1, hW0]; exact (((Below.refl _ _).alloc (Nat.le_refl _) _).alloc (by simp) _).alloc (by simp; omega) _)
  have e0 : w.alloc (.cells X t) = W0 := hW0.symm
  have e1 : W0.alloc (.cells Z t) = W1 := hW1.symm
  have e2 : W1.alloc (.cells Z t) = W2 := hW2.symm
  have hd02 : g0 ≠ g2 := by omega
  have hd12 : g1 ≠ g2 := by omega
  have hd01 : g0 ≠ g1 := by omega
  have hgw : w.heap.size ≤ g1 := by omega
  have hgw2 : w.heap.size ≤ g2 := by omega
  have HG := Lib.hid (show w.heap.size = g0 from hg0)
  clear ht hX hZ hix hN hW0 hW1 hW2 h01 h12
  go_enter Try.func37, Try.ntmps37
  simp only [E1, E2, E3, E4, E5]
  clear E1 E2 E3 E4 E5
  go_wp2_with fail
  go_loopw [4, 5] (fun x i wr => ∃ n : Nat, 1 ≤ n ∧ n ≤ 12 ∧ i = .int .i64 n ∧ x = .int .i64 ((Wd.first l (n - 1) : Nat) : Int) ∧ Blk wr g0 t X ∧ Blk wr g1 t Z ∧ Blk wr g2 t (ints (Wd.asg l n 0)) ∧ Below w.heap.size w wr) (fun _ i _ => 12 - (intOf i).toNat)
  case atStart => exact ⟨1, by decide, by decide, rfl, rfl, B0.out, B1.out, B2.out, HB.out⟩
  case round =>
    obtain ⟨n, hn1, hn12, rfl, rfl, b0, b1, b2, hb⟩ := hrel
    clear B0 B1 B2 HB e0 e1 e2 hg0 hg1 hg2
    have hfb : Wd.first l (n - 1) ≤ 512 * 4096 := by
      have h1 := Wd.first_le l (n - 1)
      have h2 : 2 ^ (n - 1) ≤ 2 ^ 12 := Nat.pow_le_pow_right (by decide) (by omega)
      omega
    by_cases hlt : n ≤ 11
    · have p0 : decide ((n : Int) ≤ 11) = true := by rw [decide_eq_true_eq]; omega
      have p0' : decide (n ≤ 11) = true := by rw [decide_eq_true_eq]; omega
      have C0 := Lib.hid b0
      have C1 := Lib.hid b1
      have C2 := Lib.hid b2
      have Cb := Lib.hid hb
      clear b0 b1 b2 hb
      obtain ⟨f0, hf0⟩ : ∃ f, Wd.first l (n - 1) = f := ⟨_, rfl⟩
      have Hf0 := Lib.hid hf0
      rw [hf0] at hfb ⊢
      clear hf0
      go_wp2_with fail
      go_loopw [4, 6] (fun x i wr => ∃ j : Nat, j ≤ 256 ∧ i = .int .i64 j ∧ x = .int .i64 ((f0 + Wd.cnt l n j : Nat) : Int) ∧ Blk wr g0 t X ∧ Blk wr g1 t Z ∧ Blk wr g2 t (ints (Wd.asg l n j)) ∧ Below w.heap.size w wr) (fun _ i _ => 256 - (intOf i).toNat)
      case atStart => exact ⟨0, by decide, rfl, by simp [Wd.cnt], C0.out, C1.out, C2.out, Cb.out⟩
      case round =>
        obtain ⟨j, hj, rfl, rfl, b0, b1, b2, hb⟩ := hrel
        clear C0 C1 C2 Cb
        have hcb := Wd.cnt_le l n j
        by_cases hjl : j < 256
        · have p1 : decide ((j : Int) < 256) = true := by rw [decide_eq_true_eq]; omega
          have p1' : decide (j < 256) = true := by rw [decide_eq_true_eq]; omega
          have ix0 := Hix.out .i64 j hjl g0
          have ix2 := Hix.out .i64 j hjl g2
          have cx : wr.cell? ⟨g0, j, none⟩ = some (.int .i64 (l.getD j 0)) := by rw [b0.cell, HX.out, ints_at (by omega)]
          by_cases heq : l.getD j 0 = (n : Int)
          · have Hc := Lib.hid (Wd.cnt_hit (l := l) (n := n) (i := j) (by omega) heq)
            have p2 : ((n : Int) == (n : Int)) = true := by simp
            have cy : wr.cell? ⟨g2, j, none⟩ = some (.int .i64 ((Wd.asg l n j).getD j 0)) := by rw [b2.cell, ints_at (by rw [Wd.asg_len]; exact hjl)]
            have fz := b2.frozen j
            have st := b2.set_ j (.int .i64 ((f0 + Wd.cnt l n j : Nat) : Int))
            rw [ints_set, ← Hf0.out, ← Wd.asg_hit hn1 hjl heq, Hf0.out] at st
            have St := Lib.hid st
            have D0 := Lib.hid (b0.far (p := ⟨g2, j, none⟩) (Ne.symm hd02) (.int .i64 ((f0 + Wd.cnt l n j : Nat) : Int)))
            have D1 := Lib.hid (b1.far (p := ⟨g2, j, none⟩) (Ne.symm hd12) (.int .i64 ((f0 + Wd.cnt l n j : Nat) : Int)))
            have Db := Lib.hid (hb.setCell (p := ⟨g2, j, none⟩) hgw2 (.int .i64 ((f0 + Wd.cnt l n j : Nat) : Int)))
            rw [heq] at cx
            clear b0 b1 b2 hb st heq
            generalize (Wd.asg l n j).getD j 0 = y at *
            obtain ⟨q, hq⟩ : ∃ q, f0 + Wd.cnt l n j = q := ⟨_, rfl⟩
            have Hq := Lib.hid hq
            rw [hq] at St D0 D1 Db ⊢
            have hqb : q ≤ 512 * 4096 + 256 := by omega
            clear hq
            go_wp2_with fail
            go_roundw
            case rel => exact ⟨j + 1, by omega, by go_num, by rw [Hc.out, ← Nat.add_assoc, Hq.out]; go_num, D0.out, D1.out, St.out, Db.out⟩
            case measure => simp [intOf]; omega
          · have Hc := Lib.hid (Wd.cnt_miss (l := l) (n := n) (i := j) (by omega) heq)
            have Ha := Lib.hid (Wd.asg_miss (l := l) (n := n) (i := j) heq)
            have p2 : (l.getD j 0 == (n : Int)) = false := by rw [beq_eq_false_iff_ne]; exact heq
            have D0 := Lib.hid b0
            have D1 := Lib.hid b1
            have D2 := Lib.hid b2
            have Db := Lib.hid hb
            clear b0 b1 b2 hb heq
            generalize l.getD j 0 = y at *
            obtain ⟨q, hq⟩ : ∃ q, f0 + Wd.cnt l n j = q := ⟨_, rfl⟩
            have Hq := Lib.hid hq
            rw [hq]
            clear hq
            go_wp2_with fail
            go_roundw
            case rel => exact ⟨j + 1, by omega, by go_num, by rw [Hc.out, Hq.out], D0.out, D1.out, by rw [Ha.out]; exact D2.out, Db.out⟩
            case measure => simp [intOf]; omega
        · have hj6 : j = 256 := by omega
          subst hj6
          have p1 : decide ((256 : Int) < 256) = false := by simp
          have D0 := Lib.hid b0
          have D1 := Lib.hid b1
          rw [Wd.asg_pass] at b2
          have D2 := Lib.hid b2
          have Db := Lib.hid hb
          clear b0 b1 b2 hb
          obtain ⟨q, hq⟩ : ∃ q, f0 + Wd.cnt l n 256 = q := ⟨_, rfl⟩
          have Hq := Lib.hid (show Wd.first l n = q * 2 by
            obtain ⟨m, rfl⟩ : ∃ m, n = m + 1 := ⟨n - 1, by omega⟩
            rw [Wd.first, ← hq, ← Hf0.out, Nat.add_sub_cancel])
          have hqb : q ≤ 512 * 4096 + 256 := by omega
          rw [hq]
          clear hq
          go_wp2_with fail
          go_roundw
          case rel => exact ⟨n + 1, by omega, by omega, by go_num, by rw [Nat.add_sub_cancel, Hq.out]; go_num, D0.out, D1.out, D2.out, Db.out⟩
          case measure => simp [intOf]; omega
    · have hn : n = 12 := by omega
      subst hn
      have p0 : decide ((12 : Int) ≤ 11) = false := by simp
      have l1 := load_blk (N := N) (by rw [ints_size, HN.out]; exact Wd.asg_len l 12 0) b2
      obtain ⟨s1, hb2⟩ := store_blk (ds := ints (Wd.asg l 12 0)) (by rw [HZ.out, ints_size, ints_size, List.length_replicate]; exact Wd.asg_len l 12 0) b1 (fun u hu => by
        have := ints_one (Wd.asg l 12 0)
        rw [Array.all_eq_true_iff_forall_mem] at this
        exact this u (by simpa using hu))
      have l2 := load_blk (N := N) (by rw [ints_size, HN.out]; exact Wd.asg_len l 12 0) hb2
      have hbl2 := hb.trans (below_cells (w := wr) (ints (Wd.asg l 12 0)).toList g1 0 hgw)
      obtain ⟨T, hT⟩ : ∃ T, T = ints (Wd.asg l 12 0) := ⟨_, rfl⟩
      have hTs : T.size = N := by rw [hT, ints_size, HN.out]; exact Wd.asg_len l 12 0
      rw [← hT] at l1 s1 l2 hbl2
      have HT := Lib.hid (show T = ints (Wd.codes l) from hT)
      have HE := Lib.hid hbl2
      obtain ⟨W3, hW3⟩ : ∃ W3, W3 = wr.setCells g1 0 T.toList := ⟨_, rfl⟩
      rw [← hW3] at s1 l2
      have HW := Lib.hid hW3
      clear b0 b1 b2 hb hb2 hbl2 hT hW3
      generalize Wd.first l (12 - 1) = ff at *
      go_wp2_with fail
      refine bodyPost_ret (v := .agg T) ?_ rfl ⟨by rw [HT.out], by rw [HW.out]; exact HE.out⟩
      simp [results, Try.results37]
      rw [← Ht.out]
      go_simp
end Go.Proofs.Ytnkgcibdibgmjaa
