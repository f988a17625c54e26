/- DepthKnown, under what the program's functions are held to. -/
import Derived.Test.YthcppebfhjleiaaDkn
namespace Go.Proofs.Ythcppebfhjleiaa
open Go.RowKit

set_option maxRecDepth 8000 in
set_option maxHeartbeats 8000000 in
theorem dknown_any (hK : KraftC) (hC : CostC) {F : List Int → List Int × Bool} (hL : LengthsC F) (hF : LensOk F) (w : World) :
    Calls Try.prog 7 #[] w fun e w' => e = .returned (.bool true) ∧ Below w.heap.size w w' := by
  have AW := Lib.hid (fun w => awake_any hK hC hL hF w)
  obtain ⟨t, N, ht, hN, hagg, hix, hund, hsz, hz0⟩ := t256
  have hi16 : (Try.prog.info? t).map (·.size) = some 256 := by rw [ht]; kernel_rfl
  obtain ⟨Z, hZ⟩ : ∃ Z, Z = ints (List.replicate 256 0) := ⟨_, rfl⟩
  rw [← hZ] at hz0
  have hZs : Z.size = 256 := by rw [hZ, ints_size, List.length_replicate]
  have store : ∀ (l : List Int) (w1 : World), l.length = 256 → (storeCells ⟨w1.heap.size, 0, none⟩ (ints l).toList 0).run Try.prog (w1.alloc (.cells Z t)) = .ok () (w1.alloc (.cells (ints l) t)) := fun l w1 hl =>
    run_storeCells_new w1 t Z (ints l) (by rw [hi16, ints_size, hl]) (by rw [hZs, ints_size, hl]) (ints_one l)
  have L1 := Lib.hid (fun W => hL W cOne cOne_len)
  rw [hF.ok cOne cOne_len cOne_ok] at L1
  have S1 := Lib.hid (fun W => store (F cOne).1 W (hF.len cOne cOne_len))
  have hYs1 : (ints (F cOne).1).size = N := by rw [ints_size, hF.len cOne cOne_len, hN]
  have hXs1 : (ints cOne).size = N := by rw [ints_size, cOne_len, hN]
  have L2 := Lib.hid (fun W => hL W cThree cThree_len)
  rw [hF.ok cThree cThree_len cThree_ok] at L2
  have S2 := Lib.hid (fun W => store (F cThree).1 W (hF.len cThree cThree_len))
  have hYs2 : (ints (F cThree).1).size = N := by rw [ints_size, hF.len cThree cThree_len, hN]
  have hXs2 : (ints cThree).size = N := by rw [ints_size, cThree_len, hN]
  have L3 := Lib.hid (fun W => hL W (cDeep 24) (cDeep_len 24))
  rw [hF.ok (cDeep 24) (cDeep_len 24) cDeep_ok] at L3
  have S3 := Lib.hid (fun W => store (F (cDeep 24)).1 W (hF.len (cDeep 24) (cDeep_len 24)))
  have hYs3 : (ints (F (cDeep 24)).1).size = N := by rw [ints_size, hF.len (cDeep 24) (cDeep_len 24), hN]
  have hXs3 : (ints (cDeep 24)).size = N := by rw [ints_size, cDeep_len 24, hN]
  have a1 : (ints (F cOne).1)[120]? = some (.int .i64 1) := by rw [ints_at (by rw [hF.len cOne cOne_len]; decide), one_len hF]
  obtain ⟨t1, t2, t3, t4⟩ := three_len hF
  have a2 : (ints (F cThree).1)[97]? = some (.int .i64 1) := by rw [ints_at (by rw [hF.len cThree cThree_len]; decide), t1]
  have a3 : (ints (F cThree).1)[98]? = some (.int .i64 2) := by rw [ints_at (by rw [hF.len cThree cThree_len]; decide), t2]
  have a4 : (ints (F cThree).1)[99]? = some (.int .i64 2) := by rw [ints_at (by rw [hF.len cThree cThree_len]; decide), t3]
  have K3 := Lib.hid (fun W => hK W (F (cDeep 24)).1 (hF.len _ (cDeep_len 24)))
  rw [deep_len hF] at K3
  have K4 := Lib.hid (fun W => hK W cBad cBad_len)
  rw [bad_kraft] at K4
  have C2 := Lib.hid (fun W => hC W cThree (F cThree).1 cThree_len (hF.len cThree cThree_len))
  rw [t4] at C2
  have Hr := Lib.hid (fun i (hi : i < 256) => hF.rng (cDeep 24) (cDeep_len 24) cDeep_ok i hi)
  have hlD := hF.len (cDeep 24) (cDeep_len 24)
  obtain ⟨lD, hlDe⟩ : ∃ l, l = (F (cDeep 24)).1 := ⟨_, rfl⟩
  rw [← hlDe] at L3 S3 hYs3 K3 Hr hlD
  obtain ⟨Y1, hY1⟩ : ∃ Y, Y = ints (F cOne).1 := ⟨_, rfl⟩
  obtain ⟨Y2, hY2⟩ : ∃ Y, Y = ints (F cThree).1 := ⟨_, rfl⟩
  obtain ⟨Y3, hY3⟩ : ∃ Y, Y = ints lD := ⟨_, rfl⟩
  obtain ⟨X1, hX1⟩ : ∃ X, X = ints cOne := ⟨_, rfl⟩
  obtain ⟨X2, hX2⟩ : ∃ X, X = ints cThree := ⟨_, rfl⟩
  obtain ⟨X3, hX3⟩ : ∃ X, X = ints (cDeep 24) := ⟨_, rfl⟩
  obtain ⟨X4, hX4⟩ : ∃ X, X = ints cBad := ⟨_, rfl⟩
  rw [← hX1, ← hY1] at L1
  rw [← hX2, ← hY2] at L2
  rw [← hX3, ← hY3] at L3
  rw [← hY1] at S1 hYs1 a1
  rw [← hY2] at S2 hYs2 a2 a3 a4
  rw [← hY3] at S3 hYs3 K3
  rw [← hX1] at hXs1
  rw [← hX2, ← hY2] at C2
  rw [← hX2] at hXs2
  rw [← hX3] at hXs3
  rw [← hX4] at K4
  have hXs4 : X4.size = N := by rw [hX4, ints_size, cBad_len, hN]
  have HY3 := Lib.hid hY3
  have HZ := Lib.hid hZ
  have HX1 := Lib.hid (show ints ((List.replicate 256 (0 : Int)).set 120 7) = X1 by rw [hX1]; rfl)
  have HX2 := Lib.hid (show ints ((((List.replicate 256 (0 : Int)).set 97 4).set 98 2).set 99 1) = X2 by rw [hX2]; rfl)
  have HX3 := Lib.hid hX3
  have HX4 := Lib.hid (show ints ((List.replicate 256 (0 : Int)).set 3 12) = X4 by rw [hX4]; rfl)
  have Hix := Lib.hid hix
  have HN := Lib.hid hN
  have Zat := Lib.hid (show ∀ k, k < 256 → Z[k]? = some (.int .i64 0) from fun k hk => by rw [hZ, ints_at (by rw [List.length_replicate]; exact hk), List.getD_eq_getElem?_getD, List.getElem?_replicate, if_pos hk]; rfl)
  have Zset := Lib.hid (show ∀ k z, Z.setIfInBounds k (.int .i64 z) = ints ((List.replicate 256 (0 : Int)).set k z) from fun k z => by rw [hZ, ints_set])
  have ix120 : ∀ g w, (Instr.indexAt t (.pointer (some ⟨g, 0, none⟩)) (.int .i64 120)).run Try.prog w = .ok (.pointer (some ⟨g, 120, none⟩)) w := fun g w => hix .i64 120 (by decide) g w
  have ix97 : ∀ g w, (Instr.indexAt t (.pointer (some ⟨g, 0, none⟩)) (.int .i64 97)).run Try.prog w = .ok (.pointer (some ⟨g, 97, none⟩)) w := fun g w => hix .i64 97 (by decide) g w
  have ix98 : ∀ g w, (Instr.indexAt t (.pointer (some ⟨g, 0, none⟩)) (.int .i64 98)).run Try.prog w = .ok (.pointer (some ⟨g, 98, none⟩)) w := fun g w => hix .i64 98 (by decide) g w
  have ix99 : ∀ g w, (Instr.indexAt t (.pointer (some ⟨g, 0, none⟩)) (.int .i64 99)).run Try.prog w = .ok (.pointer (some ⟨g, 99, none⟩)) w := fun g w => hix .i64 99 (by decide) g w
  have ix3 : ∀ g w, (Instr.indexAt t (.pointer (some ⟨g, 0, none⟩)) (.int .i64 3)).run Try.prog w = .ok (.pointer (some ⟨g, 3, none⟩)) w := fun g w => hix .i64 3 (by decide) g w
  have E1 : Op.alloc 24 = Op.alloc t := by rw [ht]
  have E2 : ∀ a b, Op.store 24 a b = Op.store t a b := by rw [ht]; exact fun _ _ => rfl
  have E3 : ∀ a b, Op.indexAddr 24 a b = Op.indexAddr t a b := by rw [ht]; exact fun _ _ => rfl
  have E4 : ∀ a, Op.load 24 a = Op.load t a := by rw [ht]; exact fun _ => rfl
  clear ht hix hN hK hC hL hF store hi16 hZ hY1 hY2 hY3 hX1 hX2 hX3 hX4 hlDe t1 t2 t3 t4
  go_enter Try.func7, Try.ntmps7
  simp only [E1, E2, E3, E4]
  clear E1 E2 E3 E4
  go_wp2_with fail
  refine (AW.out _).mono ?_
  rintro e w1 ⟨rfl, hb1⟩
  obtain ⟨W0, hW0⟩ : ∃ x, x = w1.alloc (.cells Z t) := ⟨_, rfl⟩
  obtain ⟨Wa, hWa⟩ : ∃ x, x = W0.alloc (.cells Z t) := ⟨_, rfl⟩
  obtain ⟨Wb, hWb⟩ : ∃ x, x = Wa.alloc (.cells Z t) := ⟨_, rfl⟩
  obtain ⟨G1, hG1⟩ : ∃ G, w1.heap.size = G := ⟨_, rfl⟩
  obtain ⟨G2, hG2⟩ : ∃ G, W0.heap.size = G := ⟨_, rfl⟩
  obtain ⟨G3, hG3⟩ : ∃ G, Wa.heap.size = G := ⟨_, rfl⟩
  have h12 : G2 = G1 + 1 := by rw [← hG2, hW0, ← hG1]; simp
  have h23 : G3 = G2 + 1 := by rw [← hG3, hWa, ← hG2]; simp
  have hbb : Below w.heap.size w Wb := by rw [hWb, hWa, hW0]; exact ((hb1.alloc hb1.size _).alloc (Nat.le_trans hb1.size (by simp)) _).alloc (Nat.le_trans hb1.size (by simp; omega)) _
  have hgw : w.heap.size ≤ G1 := by rw [← hG1]; exact hb1.size
  have b1 : Blk Wb G1 t Z := by
    have := ((Blk.new w1 t Z).alloc (.cells Z t)).alloc (.cells Z t)
    rw [hWb, hWa, hW0, ← hG1]; exact this
  have b2 : Blk Wb G2 t Z := by
    have := (Blk.new W0 t Z).alloc (.cells Z t)
    rw [hWb, hWa, ← hG2]; exact this
  have b3 : Blk Wb G3 t Z := by
    have := Blk.new Wa t Z
    rw [hWb, ← hG3]; exact this
  have e0 : w1.alloc (.cells Z t) = W0 := hW0.symm
  have ea : W0.alloc (.cells Z t) = Wa := hWa.symm
  have eb : Wa.alloc (.cells Z t) = Wb := hWb.symm
  have hd12 : G1 ≠ G2 := by omega
  have hd23 : G2 ≠ G3 := by omega
  have hd13 : G1 ≠ G3 := by omega
  have hgw2 : w.heap.size ≤ G2 := by omega
  have hgw3 : w.heap.size ≤ G3 := by omega
  have H12 := Lib.hid h12
  have H23 := Lib.hid h23
  clear hW0 hWa hWb hb1 AW h12 h23
  have c1 : Wb.cell? ⟨G1, 120, none⟩ = some (.int .i64 0) := by rw [b1.cell]; exact Zat.out 120 (by decide)
  have f1 := b1.frozen 120
  obtain ⟨W2, hW2⟩ : ∃ x, x = Wb.setCell ⟨G1, 120, none⟩ (.int .i64 7) := ⟨_, rfl⟩
  have e2 : Wb.setCell ⟨G1, 120, none⟩ (.int .i64 7) = W2 := hW2.symm
  have b1' : Blk W2 G1 t X1 := by have := b1.set_ 120 (.int .i64 7); rw [e2, Zset.out, HX1.out] at this; exact this
  have b2' : Blk W2 G2 t Z := by rw [hW2]; exact b2.far (p := ⟨G1, 120, none⟩) hd12 _
  have b3' : Blk W2 G3 t Z := by rw [hW2]; exact b3.far (p := ⟨G1, 120, none⟩) hd13 _
  have c2 : W2.cell? ⟨G2, 97, none⟩ = some (.int .i64 0) := by rw [b2'.cell]; exact Zat.out 97 (by decide)
  have f2 := b2'.frozen 97
  obtain ⟨W3, hW3⟩ : ∃ x, x = W2.setCell ⟨G2, 97, none⟩ (.int .i64 4) := ⟨_, rfl⟩
  have e3 : W2.setCell ⟨G2, 97, none⟩ (.int .i64 4) = W3 := hW3.symm
  have q2 := b2'.set_ 97 (.int .i64 4)
  rw [e3, Zset.out] at q2
  have c3 : W3.cell? ⟨G2, 98, none⟩ = some (.int .i64 0) := by rw [q2.cell, ints_at (by rw [List.length_set, List.length_replicate]; decide)]; rfl
  have f3 := q2.frozen 98
  obtain ⟨W4, hW4⟩ : ∃ x, x = W3.setCell ⟨G2, 98, none⟩ (.int .i64 2) := ⟨_, rfl⟩
  have e4 : W3.setCell ⟨G2, 98, none⟩ (.int .i64 2) = W4 := hW4.symm
  have q3 := q2.set_ 98 (.int .i64 2)
  rw [e4, ints_set] at q3
  have c4 : W4.cell? ⟨G2, 99, none⟩ = some (.int .i64 0) := by rw [q3.cell, ints_at (by rw [List.length_set, List.length_set, List.length_replicate]; decide)]; rfl
  have f4 := q3.frozen 99
  obtain ⟨W5, hW5⟩ : ∃ x, x = W4.setCell ⟨G2, 99, none⟩ (.int .i64 1) := ⟨_, rfl⟩
  have e5 : W4.setCell ⟨G2, 99, none⟩ (.int .i64 1) = W5 := hW5.symm
  have q4 := q3.set_ 99 (.int .i64 1)
  rw [e5, ints_set, HX2.out] at q4
  have b1'' : Blk W5 G1 t X1 := by rw [hW5, hW4, hW3]; exact ((b1'.far (p := ⟨G2, 97, none⟩) hd12.symm _).far (p := ⟨G2, 98, none⟩) hd12.symm _).far (p := ⟨G2, 99, none⟩) hd12.symm _
  have b3'' : Blk W5 G3 t (ints (cDeep 0)) := by
    rw [hW5, hW4, hW3, show ints (cDeep 0) = Z by rw [HZ.out]; rfl]; exact ((b3'.far (p := ⟨G2, 97, none⟩) hd23 _).far (p := ⟨G2, 98, none⟩) hd23 _).far (p := ⟨G2, 99, none⟩) hd23 _
  have hb5 : Below w.heap.size w W5 := by rw [hW5, hW4, hW3, hW2]; exact (((hbb.setCell (p := ⟨G1, 120, none⟩) hgw _).setCell (p := ⟨G2, 97, none⟩) hgw2 _).setCell (p := ⟨G2, 98, none⟩) hgw2 _).setCell (p := ⟨G2, 99, none⟩) hgw2 _
  have B1 := Lib.hid b1''
  have B2 := Lib.hid q4
  have B3 := Lib.hid b3''
  have HB := Lib.hid hb5
  clear b1 b2 b3 b1' b2' b3' q2 q3 q4 b1'' b3'' hbb hb5 hW2 hW3 hW4 hW5
  go_wp2_with fail
  go_loopw [4, 5, 6] (fun a b i wr => ∃ k : Nat, k ≤ 24 ∧ i = .int .i64 k ∧ a = .int .i64 (((fibP k).1 : Nat) : Int) ∧ b = .int .i64 (((fibP k).2 : Nat) : Int) ∧ Blk wr G1 t X1 ∧ Blk wr G2 t X2 ∧ Blk wr G3 t (ints (cDeep k)) ∧ Below w.heap.size w wr) (fun _ _ i _ => 24 - (intOf i).toNat)
  case atStart => exact ⟨0, by decide, rfl, rfl, rfl, B1.out, B2.out, B3.out, HB.out⟩
  case round =>
    obtain ⟨k, hk, rfl, rfl, rfl, d1, d2, d3, db⟩ := hrel
    clear c1 c2 c3 c4 f1 f2 f3 f4 e0 ea eb e2 e3 e4 e5 B1 B2 B3 HB
    by_cases hlt : k < 24
    · have p0 : decide ((k : Int) < 24) = true := by rw [decide_eq_true_eq]; omega
      have p0' : decide (k < 24) = true := by rw [decide_eq_true_eq]; omega
      have hfb := fib_le k hk
      have ixk := Hix.out .i64 k (by omega) G3
      have ck : wr.cell? ⟨G3, k, none⟩ = some (.int .i64 ((cDeep k).getD k 0)) := by rw [d3.cell, ints_at (by rw [cDeep_len]; omega)]
      have fk := d3.frozen k
      have hst := d3.set_ k (.int .i64 (((fibP k).1 : Nat) : Int))
      rw [ints_set, show (cDeep k).set k (((fibP k).1 : Nat) : Int) = cDeep (k + 1) from rfl] at hst
      have Hst := Lib.hid hst
      have D1 := Lib.hid (d1.far (p := ⟨G3, k, none⟩) (Ne.symm hd13) (.int .i64 (((fibP k).1 : Nat) : Int)))
      have D2 := Lib.hid (d2.far (p := ⟨G3, k, none⟩) (Ne.symm hd23) (.int .i64 (((fibP k).1 : Nat) : Int)))
      have Db := Lib.hid (db.setCell (p := ⟨G3, k, none⟩) hgw3 (.int .i64 (((fibP k).1 : Nat) : Int)))
      have Hf := Lib.hid (show (fibP (k + 1)).1 = (fibP k).2 ∧ (fibP (k + 1)).2 = (fibP k).1 + (fibP k).2 from ⟨rfl, rfl⟩)
      clear d1 d2 d3 db hst
      generalize (fibP k).1 = fa at *
      generalize (fibP k).2 = fb at *
      generalize (cDeep k).getD k 0 = dk at *
      go_wp2_with fail
      go_roundw
      case rel => exact ⟨k + 1, by omega, by go_num, by rw [Hf.out.1], by rw [Hf.out.2]; go_num, D1.out, D2.out, Hst.out, Db.out⟩
      case measure => simp [intOf]; omega
    have hk24 : k = 24 := by omega
    subst hk24
    have p0 : decide ((24 : Int) < 24) = false := by simp
    rw [← HX3.out] at d3
    have B1 := Lib.hid d1
    have B2 := Lib.hid d2
    have B3 := Lib.hid d3
    have HB := Lib.hid db
    have ld1 := load_blk (N := N) hXs1 d1
    clear d1 d2 d3 db hlt hk
    go_wp2_with fail
    refine (L1.out wr).mono ?_
    rintro e v1 ⟨rfl, hv⟩
    have st1 := S1.out v1
    obtain ⟨V1, hV1⟩ : ∃ V, V = v1.alloc (.cells Y1 t) := ⟨_, rfl⟩
    have ev1 : v1.alloc (.cells Y1 t) = V1 := hV1.symm
    have nb : Blk V1 v1.heap.size t Y1 := by rw [hV1]; exact Blk.new _ _ _
    have B1' := Lib.hid (show Blk V1 G1 t X1 by
      have h := B1.out.keep (hv.block _ B1.out.lt)
      rw [hV1]; exact h.alloc _)
    have B2' := Lib.hid (show Blk V1 G2 t X2 by
      have h := B2.out.keep (hv.block _ B2.out.lt)
      rw [hV1]; exact h.alloc _)
    have B3' := Lib.hid (show Blk V1 G3 t X3 by
      have h := B3.out.keep (hv.block _ B3.out.lt)
      rw [hV1]; exact h.alloc _)
    have HB' := Lib.hid (show Below w.heap.size w V1 by
      have h := HB.out.trans (hv.mono HB.out.size)
      rw [hV1]; exact h.alloc h.size _)
    generalize hg1 : v1.heap.size = g1 at *
    have N1 := Lib.hid nb
    clear nb hv hV1 HB ld1 B1 B2 B3
    have B1 := Lib.hid B1'.out
    have B2 := Lib.hid B2'.out
    have B3 := Lib.hid B3'.out
    have HB := Lib.hid HB'.out
    clear HB' B1' B2' B3'
    have ld := load_blk (N := N) hXs2 B2.out
    go_wp2_with fail
    refine (L2.out V1).mono ?_
    rintro e v2 ⟨rfl, hv⟩
    have st2 := S2.out v2
    obtain ⟨V2, hV2⟩ : ∃ V, V = v2.alloc (.cells Y2 t) := ⟨_, rfl⟩
    have ev2 : v2.alloc (.cells Y2 t) = V2 := hV2.symm
    have nb : Blk V2 v2.heap.size t Y2 := by rw [hV2]; exact Blk.new _ _ _
    have B2' := Lib.hid (show Blk V2 G2 t X2 by
      have h := B2.out.keep (hv.block _ B2.out.lt)
      rw [hV2]; exact h.alloc _)
    have B3' := Lib.hid (show Blk V2 G3 t X3 by
      have h := B3.out.keep (hv.block _ B3.out.lt)
      rw [hV2]; exact h.alloc _)
    have N1' := Lib.hid (show Blk V2 g1 t Y1 by
      have h := N1.out.keep (hv.block _ N1.out.lt)
      rw [hV2]; exact h.alloc _)
    have HB' := Lib.hid (show Below w.heap.size w V2 by
      have h := HB.out.trans (hv.mono HB.out.size)
      rw [hV2]; exact h.alloc h.size _)
    generalize hg2 : v2.heap.size = g2 at *
    have N2 := Lib.hid nb
    clear nb hv hV2 HB ld B2 B3 N1
    have B2 := Lib.hid B2'.out
    have B3 := Lib.hid B3'.out
    have N1 := Lib.hid N1'.out
    have HB := Lib.hid HB'.out
    clear HB' B2' B3' N1'
    have ld := load_blk (N := N) hXs3 B3.out
    go_wp2_with fail
    refine (L3.out V2).mono ?_
    rintro e v3 ⟨rfl, hv⟩
    have st3 := S3.out v3
    obtain ⟨V3, hV3⟩ : ∃ V, V = v3.alloc (.cells Y3 t) := ⟨_, rfl⟩
    have ev3 : v3.alloc (.cells Y3 t) = V3 := hV3.symm
    have nb : Blk V3 v3.heap.size t Y3 := by rw [hV3]; exact Blk.new _ _ _
    have B2' := Lib.hid (show Blk V3 G2 t X2 by
      have h := B2.out.keep (hv.block _ B2.out.lt)
      rw [hV3]; exact h.alloc _)
    have N1' := Lib.hid (show Blk V3 g1 t Y1 by
      have h := N1.out.keep (hv.block _ N1.out.lt)
      rw [hV3]; exact h.alloc _)
    have N2' := Lib.hid (show Blk V3 g2 t Y2 by
      have h := N2.out.keep (hv.block _ N2.out.lt)
      rw [hV3]; exact h.alloc _)
    have HB' := Lib.hid (show Below w.heap.size w V3 by
      have h := HB.out.trans (hv.mono HB.out.size)
      rw [hV3]; exact h.alloc h.size _)
    generalize hg3 : v3.heap.size = g3 at *
    have N3 := Lib.hid nb
    clear nb hv hV3 HB ld B2 N1 N2
    have B2 := Lib.hid B2'.out
    have N1 := Lib.hid N1'.out
    have N2 := Lib.hid N2'.out
    have HB := Lib.hid HB'.out
    clear HB' B2' N1' N2'
    have ld := load_blk (N := N) hYs3 N3.out
    go_wp2_with fail
    refine (K3.out V3).mono ?_
    rintro e v4 ⟨rfl, hv⟩
    have B2' := Lib.hid (B2.out.keep (hv.block _ B2.out.lt))
    have N1' := Lib.hid (N1.out.keep (hv.block _ N1.out.lt))
    have N2' := Lib.hid (N2.out.keep (hv.block _ N2.out.lt))
    have N3' := Lib.hid (N3.out.keep (hv.block _ N3.out.lt))
    have HB' := Lib.hid (HB.out.trans (hv.mono HB.out.size))
    clear hv ld HB B2 N1 N2 N3 L1 L2 L3 K3
    have C3 := Lib.hid (fun k (hk : k < 256) => show v4.cell? ⟨g3, k, none⟩ = some (.int .i64 (lD.getD k 0)) by rw [N3'.out.cell, HY3.out, ints_at (by omega)])
    have Vs := Lib.hid (show v4.heap.size = v4.heap.size from rfl)
    generalize (fibP 24).1 = fa at *
    generalize (fibP 24).2 = fb at *
    go_wp2_with fail
    go_loop [15, 16] (fun h i => ∃ (k : Nat) (z : Int), k ≤ 24 ∧ i = .int .i64 k ∧ h = .int .i64 z ∧ 0 ≤ z ∧ z ≤ 11) (fun _ i => 24 - (intOf i).toNat)
    case atStart => exact ⟨0, 0, by decide, rfl, rfl, by decide, by decide⟩
    case round =>
      obtain ⟨k, z, hk, rfl, rfl, hz0', hz1⟩ := hrel
      by_cases hlt : k < 24
      · have p1 : decide ((k : Int) < 24) = true := by rw [decide_eq_true_eq]; omega
        have p1' : decide (k < 24) = true := by rw [decide_eq_true_eq]; omega
        have ixk := Hix.out .i64 k (by omega) g3
        have cx := C3.out k (by omega)
        have hr := Hr.out k (by omega)
        generalize lD.getD k 0 = x at *
        obtain ⟨mx, hmx⟩ : ∃ mx, mx = if z < x then x else z := ⟨_, rfl⟩
        have hmax : ∀ (ts : Array TypeId) (t : TypeId) (W : World), (Builtin.max_ ts t #[.int .i64 z, .int .i64 x]).run Try.prog W = .ok (.int .i64 mx) W := fun ts t W => by
          rw [run_max_int2, hmx]
        have hmb : 0 ≤ mx ∧ mx ≤ 11 := by rw [hmx]; split <;> omega
        have Hmb := Lib.hid hmb
        clear hmx hmb hr
        go_wp2_with fail
        go_round
        case rel => exact ⟨k + 1, mx, by omega, by go_num, rfl, Hmb.out.1, Hmb.out.2⟩
        case measure => simp [intOf]; omega
      have hk24 : k = 24 := by omega
      subst hk24
      have p1 : decide ((24 : Int) < 24) = false := by simp
      have pz : decide (z ≤ 11) = true := by rw [decide_eq_true_eq]; omega
      clear C3
      obtain ⟨V5, hV5⟩ : ∃ V, V = v4.alloc (.cells Z t) := ⟨_, rfl⟩
      have e5 : v4.alloc (.cells Z t) = V5 := hV5.symm
      have b5 : Blk V5 v4.heap.size t Z := by rw [hV5]; exact Blk.new _ _ _
      have m2 : Blk V5 G2 t X2 := by rw [hV5]; exact B2'.out.alloc _
      have n1 : Blk V5 g1 t Y1 := by rw [hV5]; exact N1'.out.alloc _
      have n2 : Blk V5 g2 t Y2 := by rw [hV5]; exact N2'.out.alloc _
      have hb5 : Below w.heap.size w V5 := by rw [hV5]; exact HB'.out.alloc HB'.out.size _
      have hg5 : w.heap.size ≤ v4.heap.size := HB'.out.size
      have d2 : G2 ≠ v4.heap.size := fun h => by have := B2'.out.lt; omega
      have d1 : g1 ≠ v4.heap.size := fun h => by have := N1'.out.lt; omega
      have d3 : g2 ≠ v4.heap.size := fun h => by have := N2'.out.lt; omega
      generalize hg5e : v4.heap.size = g5 at *
      have cb : V5.cell? ⟨g5, 3, none⟩ = some (.int .i64 0) := by rw [b5.cell]; exact Zat.out 3 (by decide)
      have fb5 := b5.frozen 3
      obtain ⟨V6, hV6⟩ : ∃ V, V = V5.setCell ⟨g5, 3, none⟩ (.int .i64 12) := ⟨_, rfl⟩
      have e6 : V5.setCell ⟨g5, 3, none⟩ (.int .i64 12) = V6 := hV6.symm
      have b6 := b5.set_ 3 (.int .i64 12)
      rw [e6, Zset.out, HX4.out] at b6
      have M2 := Lib.hid (show Blk V6 G2 t X2 by rw [hV6]; exact m2.far (p := ⟨g5, 3, none⟩) d2.symm _)
      have P1 := Lib.hid (show Blk V6 g1 t Y1 by rw [hV6]; exact n1.far (p := ⟨g5, 3, none⟩) d1.symm _)
      have P2 := Lib.hid (show Blk V6 g2 t Y2 by rw [hV6]; exact n2.far (p := ⟨g5, 3, none⟩) d3.symm _)
      have HB6 := Lib.hid (show Below w.heap.size w V6 by rw [hV6]; exact hb5.setCell (p := ⟨g5, 3, none⟩) hg5 _)
      have ld6 := load_blk (N := N) hXs4 b6
      clear hV5 hV6 b5 b6 m2 n1 n2 hb5 d1 d2 d3 B2' N1' N2' N3' HB' hlt hk hz0' hz1
      go_wp2_with fail
      refine (K4.out V6).mono ?_
      rintro e v7 ⟨rfl, hv⟩
      have m2 := M2.out.keep (hv.block _ M2.out.lt)
      have p1' := P1.out.keep (hv.block _ P1.out.lt)
      have p2' := P2.out.keep (hv.block _ P2.out.lt)
      have HB7 := Lib.hid (HB6.out.trans (hv.mono HB6.out.size))
      have ldx := load_blk (N := N) hXs2 m2
      have ldy := load_blk (N := N) hYs2 p2'
      have y1 : v7.cell? ⟨g1, 120, none⟩ = some (.int .i64 1) := by rw [p1'.cell]; exact a1
      have y2 : v7.cell? ⟨g2, 97, none⟩ = some (.int .i64 1) := by rw [p2'.cell]; exact a2
      have y3 : v7.cell? ⟨g2, 98, none⟩ = some (.int .i64 2) := by rw [p2'.cell]; exact a3
      have y4 : v7.cell? ⟨g2, 99, none⟩ = some (.int .i64 2) := by rw [p2'.cell]; exact a4
      clear m2 p1' p2' hv M2 P1 P2 HB6 ld6 cb fb5 e5 e6 K4
      go_wp2_with fail
      refine (C2.out v7).mono ?_
      rintro e v8 ⟨rfl, hv⟩
      have HB8 := Lib.hid (HB7.out.trans (hv.mono HB7.out.size))
      clear hv HB7
      go_wp2_with fail
      go_ret
      exact ⟨rfl, HB8.out⟩
end Go.Proofs.Ythcppebfhjleiaa
