/- The program's words of all bytes. -/
import Derived.Test.YtpaefpjggglmaaaWpx
import Derived.Test.YtpaefpjggglmaaaWun
namespace Go.Proofs.Ytpaefpjggglmaaa
open Go.RowKit

/-- A slice out of an array of 12 that is held by value. -/
theorem index12v {D : Array Value} {k : Nat} (hk : k < 12) {v : Value} (h0 : D[k]? = some v) (w : World) : (Instr.index 67 (.agg D) (.int .i64 (k : Int))).run Try.prog w = .ok v w := by
  have h1 : 0 ≤ (k : Int) ∧ (k : Int) < 12 := by omega
  have hu := Try.underlying67
  simp [Instr.index, run_underlying hu, asIntOf, h0, go_sem]
  omega
/-- The type of an array of 12 slices, its number and its size hidden. -/
structure T12s (t : TypeId) (N : Nat) : Prop where
  ht : t = 67
  hN : N = 12
  agg : ∀ w, (isAgg t).run Try.prog w = .ok true w
  sz : ∀ w, (sizeOf t).run Try.prog w = .ok N w
theorem t12s : ∃ t N, T12s t N := ⟨_, _, rfl, rfl, fun w => by kernel_rfl, fun w => by kernel_rfl⟩

set_option maxRecDepth 8000 in
set_option maxHeartbeats 8000000 in
theorem cwds_any {w : World} {B G : Nat} {C : Array Value} {l : List Int} (h : Code w B G C l) (hl : l.length = 256) :
    Calls Try.prog 19 #[.pointer (some ⟨G, 0, none⟩)] w fun e w' => e = .returned (.agg (ints (Wd.codes l))) ∧ Below w.heap.size w w' := by
  obtain ⟨t, N, ht, hN, hagg, hix, hund, hsz, hz0⟩ := t256
  obtain ⟨t2, N2, ht2, hN2, hagg2, hsz2⟩ := t12s
  obtain ⟨Z, hZ⟩ : ∃ Z, Z = ints (List.replicate 256 0) := ⟨_, rfl⟩
  rw [← hZ] at hz0
  obtain ⟨D, hD⟩ : ∃ D : Array Value, D = (C.toList.take 12).toArray := ⟨_, rfl⟩
  have hCs := h.cw.size
  have Dn := Lib.hid (fun n (hn : n < 12) => show D[n]? = C[n]? from by rw [hD]; simp [hn])
  have Rw := Lib.hid (fun n (hn : n < 12) => h.cw.row n hn)
  have Iv := Lib.hid (fun n (hn : n < 12) v (h0 : D[n]? = some v) (w : World) => index12v hn h0 w)
  rw [← ht2] at Iv
  have E1 : Op.alloc 32 = Op.alloc t := by rw [ht]
  have E2 : ∀ a b, Op.store 32 a b = Op.store t a b := by rw [ht]; exact fun _ _ => rfl
  have E3 : ∀ a b, Op.indexAddr 32 a b = Op.indexAddr t a b := by rw [ht]; exact fun _ _ => rfl
  have E4 : ∀ a, Op.load 32 a = Op.load t a := by rw [ht]; exact fun _ => rfl
  have E5 : ∀ a, Op.load 67 a = Op.load t2 a := by rw [ht2]; exact fun _ => rfl
  have E6 : ∀ a b, Op.index 67 a b = Op.index t2 a b := by rw [ht2]; exact fun _ _ => rfl
  obtain ⟨W1, hW1⟩ : ∃ x, x = w.alloc (.cells Z t) := ⟨_, rfl⟩
  obtain ⟨W2, hW2⟩ : ∃ x, x = W1.alloc (.cells Z t) := ⟨_, rfl⟩
  obtain ⟨g1, hg1⟩ : ∃ g, w.heap.size = g := ⟨_, rfl⟩
  obtain ⟨g3, hg3⟩ : ∃ g, W1.heap.size = g := ⟨_, rfl⟩
  have h12 : g3 = g1 + 1 := by rw [← hg3, hW1, ← hg1]; simp
  have HB := Lib.hid (show Below w.heap.size w W2 by rw [hW2, hW1]; exact ((Below.refl _ _).alloc (Nat.le_refl _) _).alloc (by simp) _)
  have ld2 : (loadCellsFrom ⟨G, 0, none⟩ 0 N2 #[]).run Try.prog W2 = .ok D W2 := by
    have hb := h.cw.blk.keep (HB.out.block G h.cw.blk.lt)
    have hlen : (C.toList.take 12).length = 12 := by rw [List.length_take, Array.length_toList, hCs]; decide
    have := run_loadCells_list (P := Try.prog) W2 ⟨G, 0, none⟩ (C.toList.take 12) (fun j v hv => by
      rw [Addr.add_lit, Nat.zero_add, hb.cell]
      have hj : j < 12 := by
        have := (List.getElem?_eq_some_iff.1 hv).1
        rw [hlen] at this; exact this
      rw [List.getElem?_take_of_lt hj] at hv
      simpa using hv)
    rw [hlen] at this
    rw [hN2, hD]; exact this
  have Cd := Lib.hid (fun (X : World) (hb : Below w.heap.size w X) => show Code X B G C l from h.keep fun b _ hlt => hb.block b hlt)
  have b1 := Lib.hid (show Blk W2 g1 t Z by
    have := (Blk.new w t Z).alloc (.cells Z t)
    rw [hW2, hW1, ← hg1]; exact this)
  have b3 := Lib.hid (show Blk W2 g3 t (ints (Wd.asgP l 0 0)) by
    rw [Wd.asgP_none 0 (by decide), ← hZ, hW2, ← hg3]; exact Blk.new _ _ _)
  have e1 : w.alloc (.cells Z t) = W1 := hW1.symm
  have e2 : W1.alloc (.cells Z t) = W2 := hW2.symm
  have hd : g1 ≠ g3 := by omega
  have hgw : w.heap.size ≤ g1 := by omega
  have hgw3 : w.heap.size ≤ g3 := by omega
  have Hix := Lib.hid hix
  have Ht := Lib.hid ht
  have Hl := Lib.hid hl
  have HZs := Lib.hid (show Z.size = N by rw [hZ, ints_size, List.length_replicate, hN])
  have HN := Lib.hid hN
  clear ht hN hix ht2 hN2 hZ hD hCs hW1 hW2 h12 h hl
  go_enter Try.func19, Try.ntmps19
  simp only [E1, E2, E3, E4, E5, E6]
  clear E1 E2 E3 E4 E5 E6
  go_wp2_with fail
  go_loopw [12] (fun i wr => ∃ n : Nat, i = .int .i64 (n : Int) ∧ n ≤ 12 ∧ Blk wr g1 t Z ∧ Blk wr g3 t (ints (Wd.asgP l n 0)) ∧ Below w.heap.size w wr) (fun i _ => 12 - (intOf i).toNat)
  case atStart => exact ⟨0, rfl, by decide, b1.out, b3.out, HB.out⟩
  case round =>
    obtain ⟨n, rfl, hn, hb1, hb3, hbe⟩ := hrel
    have K1 := Lib.hid hb1
    have K3 := Lib.hid hb3
    have HBe := Lib.hid hbe
    clear hb1 hb3 hbe b1 b3 HB e1 e2 ld2 hg1 hg3
    by_cases hlt : n < 12
    · have q0 : decide ((n : Int) < 12) = true := by rw [decide_eq_true_eq]; omega
      have q0' : decide (n < 12) = true := by rw [decide_eq_true_eq]; exact hlt
      obtain ⟨A, c, hC, hown⟩ := Rw.out n hlt
      have iv := fun W => Iv.out n hlt _ ((Dn.out n hlt).trans hC) W
      obtain ⟨q, hq⟩ : ∃ q, q = (Wd.cv l n 256).length := ⟨_, rfl⟩
      rw [← hq] at iv hC
      have Hq := Lib.hid hq
      have hqb : q ≤ 256 := by rw [hq]; exact cv_few l n (by rw [Hl.out]; exact Nat.le_refl _)
      have HC := Lib.hid hC
      clear hown hq hC
      go_wp2_with fail
      go_loopw [18] (fun i wr => ∃ p : Nat, i = .int .i64 (p : Int) ∧ p ≤ q ∧ Blk wr g1 t Z ∧ Blk wr g3 t (ints (Wd.asgP l n p)) ∧ Below w.heap.size w wr) (fun i _ => q - (intOf i).toNat)
      case atStart => exact ⟨0, rfl, Nat.zero_le _, K1.out, K3.out, HBe.out⟩
      case round =>
        obtain ⟨p, rfl, hp, hb1, hb3, hbe⟩ := hrel
        have L1 := Lib.hid hb1
        have L3 := Lib.hid hb3
        have LB := Lib.hid hbe
        clear hb1 hb3 hbe K1 K3 HBe
        by_cases hpq : p < q
        · have q1 : decide ((p : Int) < (q : Int)) = true := by rw [decide_eq_true_eq]; omega
          have q1' : decide (p < q) = true := by rw [decide_eq_true_eq]; exact hpq
          have cd := Cd.out wr LB.out
          have cf := cd.cfirst hlt
          obtain ⟨A1, c1, hC1, hown1⟩ := cd.cw.row n hlt
          rw [HC.out] at hC1
          injection hC1 with hC1; injection hC1 with hA _ hc
          subst hA; subst hc
          obtain ⟨b, o, rfl, cx⟩ := sl_cell (Sl.of_own hown1) (k := p) (by rw [← Hq.out]; exact hpq)
          have hx := Wd.cv_lt (l := l) (n := n) (Nat.le_refl 256) ((Wd.cv l n 256).getD p 0) (by
            rw [List.getD_eq_getElem?_getD, List.getElem?_eq_getElem (by rw [← Hq.out]; exact hpq)]; exact List.getElem_mem _)
          have hst := Wd.asgP_step Hl.out (n := n) (p := p) (by rw [← Hq.out]; exact hpq)
          have hfv := fv_le (l := l) hlt
          generalize (Wd.cv l n 256).getD p 0 = x at *
          generalize Wd.fv l n = f at *
          obtain ⟨V, hV⟩ : ∃ V : Nat, V = f + p := ⟨_, rfl⟩
          rw [← hV] at hst
          have s1 : (f : Int) + (p : Int) = (V : Int) := by omega
          have ixf := fun W => index12i hlt G W
          have ix3 := Hix.out .u8 x hx g3
          have ck := L3.out.cell x
          rw [ints_at (by rw [Wd.asgP_len]; exact hx)] at ck
          have fk := L3.out.frozen x
          have st := L3.out.set_ x (.int .i64 (V : Int))
          rw [ints_set, ← hst] at st
          have M3 := Lib.hid st
          have M1 := Lib.hid (L1.out.far (p := ⟨g3, x, none⟩) (Ne.symm hd) (.int .i64 (V : Int)))
          have MB := Lib.hid (LB.out.setCell (p := ⟨g3, x, none⟩) hgw3 (.int .i64 (V : Int)))
          have hVb : V ≤ 600000 := by omega
          clear cd hown1 hst st hV L1 L3 LB
          generalize (Wd.asgP l n p).getD x 0 = y at *
          go_wp2_with fail
          go_roundw
          case rel => exact ⟨p + 1, by go_num, by omega, M1.out, M3.out, MB.out⟩
          case measure => simp [intOf]; omega
        · have hpq' : p = q := by omega
          subst hpq'
          have q1 : decide ((p : Int) < (p : Int)) = false := by simp
          have q1' : decide (p < p) = false := by simp
          have hps := Wd.asgP_pass Hl.out n
          rw [← Hq.out] at hps
          have M3 := Lib.hid (show Blk wr g3 t (ints (Wd.asgP l (n + 1) 0)) by rw [← hps]; exact L3.out)
          clear hps
          go_wp2_with fail
          go_roundw
          case rel => exact ⟨n + 1, by go_num, by omega, L1.out, M3.out, LB.out⟩
          case measure => simp [intOf]; omega
    · have hn12 : n = 12 := by omega
      subst hn12
      have q0 : decide ((12 : Int) < 12) = false := by simp
      have k3 := K3.out
      rw [Wd.asgP_all] at k3
      have hL : (Wd.codes l).length = 256 := Wd.asg_len _ _ _
      obtain ⟨T, hT⟩ : ∃ T, T = ints (Wd.codes l) := ⟨_, rfl⟩
      have hTs : T.size = N := by rw [hT, ints_size, hL, HN.out]
      rw [← hT] at k3
      have l1 := load_blk (N := N) hTs k3
      obtain ⟨s1, hb2⟩ := store_blk (ds := T) (by rw [hTs, HZs.out]) K1.out (fun u hu => by
        have := ints_one (Wd.codes l)
        rw [← hT, Array.all_eq_true_iff_forall_mem] at this
        exact this u (by simpa using hu))
      have l3 := load_blk (N := N) hTs hb2
      have hbl := Lib.hid (HBe.out.trans (below_cells (w := wr) T.toList g1 0 hgw))
      have HT := Lib.hid hT
      generalize hW7 : wr.setCells g1 0 T.toList = W7 at *
      clear hW7 hb2 k3 hT hL
      go_wp2_with fail
      refine bodyPost_ret (v := .agg T) ?_ rfl ⟨by rw [HT.out], hbl.out⟩
      simp [results, Try.results19]
      rw [← Ht.out]
      go_simp
end Go.Proofs.Ytpaefpjggglmaaa
