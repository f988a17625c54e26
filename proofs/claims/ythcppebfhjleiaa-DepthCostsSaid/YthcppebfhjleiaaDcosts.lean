/- DepthCosts, under what the program's functions are held to. -/
import Derived.Test.YthcppebfhjleiaaDepc
import Derived.Deep.RegionHeldLaw
namespace Go.Proofs.Ythcppebfhjleiaa
open Go.RowKit

/-- The lengths that the statement lays, its first k. -/
def xs (a : List Nat) (l : List Int) : Nat → List Int
  | 0 => List.replicate 256 0
  | k + 1 => (xs a l k).set (a.getD k 0) (l.getD k 0)
theorem xs_len (a : List Nat) (l : List Int) : ∀ k, (xs a l k).length = 256
  | 0 => List.length_replicate
  | k + 1 => by rw [xs, List.length_set]; exact xs_len a l k
theorem i8_cell {w : World} {B : Nat} {A : Option Addr} {l : List Int} (h : Sl w B A (l.map (Value.int .i8))) {k : Nat} (hk : k < l.length) : ∃ b o, A = some ⟨b, o, none⟩ ∧ w.cell? ⟨b, o + k, none⟩ = some (.int .i8 (l.getD k 0)) := by
  obtain ⟨b, o, e, _, hc⟩ := h.at_ (i := k) (by rw [List.length_map]; exact hk)
  refine ⟨b, o, e, ?_⟩
  rw [hc k (by rw [List.length_map]; exact hk)]
  simp [List.getD_eq_getElem?_getD, List.getElem?_eq_getElem hk]
theorem and255 {x : Nat} (hx : x < 4294967296) : bits BinOp.and IntKind.u32 (x : Int) 255 = ((x % 256 : Nat) : Int) := by
  have h : bits .and .u32 (x : Int) ((255 : Nat) : Int) = ((x &&& 255 : Nat) : Int) := u32_and_nat x 255 hx (by decide)
  rw [show (255 : Int) = ((255 : Nat) : Int) from rfl, h, show (255 : Nat) = 2 ^ 8 - 1 from rfl, Nat.and_two_pow_sub_one_eq_mod]

set_option maxRecDepth 4000 in
set_option maxHeartbeats 8000000 in
theorem dcosts_any (hK : KraftC) (hC : CostC) {F : List Int → List Int × Bool} (hL : LengthsC F) (hF : LensOk F) (w : World) {A1 A2 A3 : Option Addr} {c1 c2 c3 : Nat} {a : List Nat} {l : List Int} {n : List Nat}
    (ha : ∀ x ∈ a, x < 256) (hl : ∀ z ∈ l, (Lit.int .i8 z).wf = true) (hn : ∀ x ∈ n, x < 4294967296) (s1 : Sl w w.heap.size A1 (byts a)) (s2 : Sl w w.heap.size A2 (l.map (Value.int .i8))) (s3 : Sl w w.heap.size A3 (u32s n))
    (h1 : a.length ≤ 256) (h2 : a.length ≤ l.length) (h3 : n.length ≤ 256) (h4 : l.length ≤ 1000) :
    Calls Try.prog 4 #[.slice A1 a.length c1, .slice A2 l.length c2, .slice A3 n.length c3] w fun e w' => e = .returned (.bool true) ∧ Below w.heap.size w w' := by
  have AW := Lib.hid (fun w => awake_any hK hC hL hF w)
  obtain ⟨t, N, ht, hN, hagg, hix, hund, hsz, hz0⟩ := t256
  have hi16 : (Try.prog.info? t).map (·.size) = some 256 := by rw [ht]; kernel_rfl
  obtain ⟨Z, hZ⟩ : ∃ Z, Z = ints (List.replicate 256 0) := ⟨_, rfl⟩
  rw [← hZ] at hz0
  have hZs : Z.size = 256 := by rw [hZ, ints_size, List.length_replicate]
  have store : ∀ (l : List Int) (w1 : World), l.length = 256 → (storeCells ⟨w1.heap.size, 0, none⟩ (ints l).toList 0).run Try.prog (w1.alloc (.cells Z t)) = .ok () (w1.alloc (.cells (ints l) t)) := fun l w1 hl =>
    run_storeCells_new w1 t Z (ints l) (by rw [hi16, ints_size, hl]) (by rw [hZs, ints_size, hl]) (ints_one l)
  have Hst := Lib.hid store
  have Hix := Lib.hid hix
  have HN := Lib.hid hN
  have HZ := Lib.hid hZ
  have HK := Lib.hid hK
  have HC := Lib.hid hC
  have E1 : Op.alloc 24 = Op.alloc t := by rw [ht]
  have E2 : ∀ a b, Op.store 24 a b = Op.store t a b := by rw [ht]; exact fun _ _ => rfl
  have E3 : ∀ a b, Op.indexAddr 24 a b = Op.indexAddr t a b := by rw [ht]; exact fun _ _ => rfl
  have E4 : ∀ a, Op.load 24 a = Op.load t a := by rw [ht]; exact fun _ => rfl
  obtain ⟨la, hla⟩ : ∃ x, x = a.length := ⟨_, rfl⟩
  obtain ⟨ll, hll⟩ : ∃ x, x = l.length := ⟨_, rfl⟩
  obtain ⟨ln, hln⟩ : ∃ x, x = n.length := ⟨_, rfl⟩
  have q1 : decide (256 < (la : Int)) = false := by rw [decide_eq_false_iff_not]; omega
  have q2 : decide ((ll : Int) < (la : Int)) = false := by rw [decide_eq_false_iff_not]; omega
  have q3 : decide (256 < (ln : Int)) = false := by rw [decide_eq_false_iff_not]; omega
  have q4 : decide (1000 < (ll : Int)) = false := by rw [decide_eq_false_iff_not]; omega
  have q1' : decide (256 < la) = false := by rw [decide_eq_false_iff_not]; omega
  have q2' : decide (ll < la) = false := by rw [decide_eq_false_iff_not]; omega
  have q3' : decide (256 < ln) = false := by rw [decide_eq_false_iff_not]; omega
  have q4' : decide (1000 < ll) = false := by rw [decide_eq_false_iff_not]; omega
  have h2' : la ≤ ll := by omega
  have h1' : la ≤ 256 := by omega
  have h3' : ln ≤ 256 := by omega
  have h4' : ll ≤ 1000 := by omega
  have S1 := Lib.hid (fun W (hb : Below w.heap.size w W) => s1.below hb)
  have S2 := Lib.hid (fun W (hb : Below w.heap.size w W) => s2.below hb)
  have S3 := Lib.hid (fun W (hb : Below w.heap.size w W) => s3.below hb)
  have Ha := Lib.hid ha
  have Hl := Lib.hid hl
  have Hn := Lib.hid hn
  rw [← hla, ← hll, ← hln]
  have Hla := Lib.hid hla
  have Hll := Lib.hid hll
  have Hln := Lib.hid hln
  clear ht hix hN hK hC hL hF store hi16 hZ s1 s2 s3 ha hl hn hla hll hln
  go_enter Try.func4, Try.ntmps4
  simp only [E1, E2, E3, E4]
  clear E1 E2 E3 E4
  go_wp2_with fail
  refine (AW.out _).mono ?_
  rintro e w1 ⟨rfl, hb1⟩
  have HB1 := Lib.hid hb1
  have hgw : w.heap.size ≤ w1.heap.size := hb1.size
  clear hb1 AW
  go_wp2_with fail
  go_loopw [8] (fun i wr => ∃ k : Nat, k ≤ la ∧ i = .int .i64 k ∧ Blk wr w1.heap.size t (ints (xs a l k)) ∧ Below w.heap.size w wr) (fun i _ => la - (intOf i).toNat)
  case atStart => exact ⟨0, Nat.zero_le _, rfl, by rw [show xs a l 0 = List.replicate 256 0 from rfl, ← HZ.out]; exact Blk.new _ _ _, HB1.out.alloc HB1.out.size _⟩
  case round =>
    obtain ⟨k, hk, rfl, hb, hbl⟩ := hrel
    have Hb := Lib.hid hb
    have HBl := Lib.hid hbl
    by_cases hlt : k < la
    · have q5 : decide ((k : Int) < (la : Int)) = true := by rw [decide_eq_true_eq]; omega
      have q5' : decide (k < la) = true := by rw [decide_eq_true_eq]; omega
      obtain ⟨b1, o1, rfl, cx⟩ := sl_cell (S1.out wr hbl) (k := k) (by rw [← Hla.out]; exact hlt)
      obtain ⟨b2, o2, rfl, cy⟩ := i8_cell (S2.out wr hbl) (k := k) (by rw [← Hll.out]; omega)
      have hx := getB_lt Ha.out k
      have hy : -128 ≤ l.getD k 0 ∧ l.getD k 0 ≤ 127 := by
        have hkl : k < l.length := by rw [← Hll.out]; omega
        have := Hl.out l[k] (List.getElem_mem hkl)
        rw [List.getD_eq_getElem?_getD, List.getElem?_eq_getElem hkl]
        simp [Lit.wf, IntKind.min, IntKind.max, IntKind.bits, IntKind.signed] at this
        simpa using this
      have Hlt := Lib.hid hlt
      have Hxs := Lib.hid (show xs a l (k + 1) = (xs a l k).set (a.getD k 0) (l.getD k 0) from rfl)
      have ix := Hix.out .u8 (a.getD k 0) hx w1.heap.size
      have cc : wr.cell? ⟨w1.heap.size, a.getD k 0, none⟩ = some (.int .i64 ((xs a l k).getD (a.getD k 0) 0)) := by rw [hb.cell, ints_at (by rw [xs_len]; exact hx)]
      have fz := hb.frozen (a.getD k 0)
      have st := hb.set_ (a.getD k 0) (.int .i64 (l.getD k 0))
      rw [ints_set, ← Hxs.out] at st
      have St := Lib.hid st
      clear st hb hbl Hxs
      generalize a.getD k 0 = x at *
      generalize l.getD k 0 = y at *
      generalize (xs a l k).getD x 0 = z at *
      go_wp2_with fail
      go_region
      go_wp2_with fail
      go_roundw
      case rel => exact ⟨k + 1, by have := Hlt.out; omega, by go_num, St.out, (HBl.out.setCell (p := ⟨w1.heap.size, x, none⟩) hgw _).drew⟩
      case measure => have := Hlt.out; simp [intOf]; omega
    · have hkl : k = la := by omega
      subst hkl
      have q5 : decide ((k : Int) < (k : Int)) = false := by simp
      obtain ⟨x, hx⟩ : ∃ x, x = xs a l k := ⟨_, rfl⟩
      have hxl : x.length = 256 := by rw [hx]; exact xs_len a l k
      rw [← hx] at hb Hb
      have CT := Lib.hid (counts_any A3 c3 n Hn.out ln Hln.out wr ((S3.out wr hbl).more hbl.size))
      clear hx hb hbl
      go_wp2_with fail
      refine CT.out.mono ?_
      rintro e w2 ⟨rfl, hb2⟩
      have HB2 := Lib.hid (HBl.out.trans (hb2.mono HBl.out.size))
      have HgL := Lib.hid (show w1.heap.size < w2.heap.size from Nat.lt_of_lt_of_le Hb.out.lt hb2.size)
      have Bx2 := Lib.hid (Hb.out.keep (hb2.block _ Hb.out.lt))
      have hcl : (countsL n).length = 256 := countsK_len n 256
      obtain ⟨cn, hcn⟩ : ∃ cn, cn = countsL n := ⟨_, rfl⟩
      rw [← hcn] at hcl ⊢
      have st3 := Hst.out cn w2 hcl
      obtain ⟨W3, hW3⟩ : ∃ W3, W3 = w2.alloc (.cells (ints cn) t) := ⟨_, rfl⟩
      have b3 : Blk W3 w2.heap.size t (ints cn) := by rw [hW3]; exact Blk.new _ _ _
      have b3x := Bx2.out.keep (w' := W3) (by rw [hW3]; exact Below.heap_alloc _ _ _ Bx2.out.lt)
      have HB3 := Lib.hid (show Below w.heap.size w W3 by rw [hW3]; exact HB2.out.alloc HB2.out.size _)
      have hsC : (ints cn).size = N := by rw [ints_size, hcl, HN.out]
      have hsX : (ints x).size = N := by rw [ints_size, hxl, HN.out]
      have hw3 : w.heap.size ≤ w2.heap.size := HB2.out.size
      have e3 : w2.alloc (.cells (ints cn) t) = W3 := hW3.symm
      obtain ⟨XC, hXC⟩ : ∃ XC, XC = ints cn := ⟨_, rfl⟩
      rw [← hXC] at st3 b3 hsC e3 ⊢
      have HXC := Lib.hid hXC
      have B3 := Lib.hid b3
      have B3x := Lib.hid b3x
      -- the tail, for any counts in the second array
      have fin : True := trivial
      clear hb2 Hb HBl CT hcn hW3 b3 b3x HB2 Bx2 HB1 fin hXC
      have hg12 : w1.heap.size ≠ w2.heap.size := fun h => by have := HgL.out; omega
      generalize hg1 : w1.heap.size = g1 at *
      generalize hg2 : w2.heap.size = g2 at *
      by_cases h3n : 3 < ln
      · have q6 : decide (3 < (ln : Int)) = true := by rw [decide_eq_true_eq]; omega
        have q6' : decide (3 < ln) = true := by rw [decide_eq_true_eq]; omega
        have hnl : 3 < n.length := by rw [← Hln.out]; exact h3n
        obtain ⟨b3, o3, e3A, -, cn3⟩ := u32_cell (S3.out W3 HB3.out) hnl
        have hn3 : n.getD 3 0 < 4294967296 := by
          rw [List.getD_eq_getElem?_getD, List.getElem?_eq_getElem hnl]; exact Hn.out _ (List.getElem_mem hnl)
        obtain ⟨b4, o4, e4A, -, cn2⟩ := u32_cell (S3.out W3 HB3.out) (k := 2) (by omega)
        have hn2 : n.getD 2 0 < 4294967296 := by
          rw [List.getD_eq_getElem?_getD, List.getElem?_eq_getElem (show 2 < n.length by omega)]; exact Hn.out _ (List.getElem_mem _)
        subst e3A
        obtain ⟨rfl, rfl⟩ : b4 = b3 ∧ o4 = o3 := by simpa using e4A.symm
        generalize n.getD 3 0 = n3 at *
        generalize n.getD 2 0 = n2 at *
        clear hnl e4A
        by_cases hbig : 2147483648 ≤ n3
        · have q7 : ((n3 : Int) / 2147483648 == 1) = true := by rw [beq_iff_eq]; omega
          have q7' : (n3 / 2147483648 == 1) = true := by rw [beq_iff_eq]; omega
          obtain ⟨i2, hi2⟩ : ∃ i2, i2 = n2 % 256 := ⟨_, rfl⟩
          have hi2b : i2 < 256 := by omega
          have a2 := and255 hn2
          rw [← hi2] at a2
          have w32 : IntKind.i32.wrap (n3 : Int) = (n3 : Int) - 4294967296 := by
            simp [IntKind.wrap, IntKind.signed, IntKind.bits]
            omega
          have ix := Hix.out .u32 i2 hi2b g2
          have ccx : W3.cell? ⟨g2, i2, none⟩ = some (.int .i64 (cn.getD i2 0)) := by rw [B3.out.cell, HXC.out, ints_at (by omega)]
          have fz := B3.out.frozen i2
          have st := B3.out.set_ i2 (.int .i64 ((n3 : Int) - 4294967296))
          obtain ⟨Wc, hWc⟩ : ∃ Wc, Wc = (W3.setCell ⟨g2, i2, none⟩ (.int .i64 ((n3 : Int) - 4294967296))).drew := ⟨_, rfl⟩
          obtain ⟨cc, hcc⟩ : ∃ cc : List Int, cc = cn.set i2 ((n3 : Int) - 4294967296) := ⟨_, rfl⟩
          have hccl : cc.length = 256 := by rw [hcc, List.length_set]; exact hcl
          rw [HXC.out, ints_set, ← hcc] at st
          have Bc := Lib.hid (show Blk Wc g2 t (ints cc) by rw [hWc]; exact st)
          have Bx := Lib.hid (show Blk Wc g1 t (ints x) by rw [hWc]; exact B3x.out.far (p := ⟨g2, i2, none⟩) (by simpa using hg12.symm) _)
          have HBc := Lib.hid (show Below w.heap.size w Wc by rw [hWc]; exact (HB3.out.setCell (p := ⟨g2, i2, none⟩) hw3 _).drew)
          have hsD : (ints cc).size = N := by rw [ints_size, hccl, HN.out]
          have eWc := hWc.symm
          clear hWc hcc B3 B3x HB3 hcl st hbig hi2
          generalize cn.getD i2 0 = oldv at *
          go_wp2_with fail
          go_region
          have ldx := load_blk (N := N) hsX Bx.out
          have ldc := load_blk (N := N) hsD Bc.out
          obtain ⟨XX, hXX⟩ : ∃ XX, XX = ints x := ⟨_, rfl⟩
          obtain ⟨XD, hXD⟩ : ∃ XD, XD = ints cc := ⟨_, rfl⟩
          have K1 := Lib.hid (fun W => HK.out W x hxl)
          have K2 := Lib.hid (fun W => rkraft_any x hxl W)
          have G1 := Lib.hid (fun W => HC.out W cc x hccl hxl)
          have G2 := Lib.hid (fun W => rcost_any cc x hccl hxl W)
          rw [← hXX] at ldx K1 K2 G1 G2 hsX Bx
          rw [← hXD] at ldc G1 G2 hsD Bc
          obtain ⟨kn, hkn⟩ : ∃ kn, kn = (kraftV x).1 := ⟨_, rfl⟩
          obtain ⟨ko, hko⟩ : ∃ ko, ko = (kraftV x).2 := ⟨_, rfl⟩
          obtain ⟨cv, hcv⟩ : ∃ cv, cv = costV cc x := ⟨_, rfl⟩
          rw [← hkn, ← hko] at K1 K2
          rw [← hcv] at G1 G2
          clear hXX hXD hkn hko hcv ldc
          go_wp2_with fail
          refine (K1.out _).mono ?_
          rintro e w4 ⟨rfl, hb4⟩
          have HB4 := Lib.hid (HBc.out.trans (hb4.mono HBc.out.size))
          have Bx4 := Lib.hid (Bx.out.keep (hb4.block _ Bx.out.lt))
          have Bc4 := Lib.hid (Bc.out.keep (hb4.block _ Bc.out.lt))
          have ldx4 := load_blk (N := N) hsX Bx4.out
          clear hb4 Bx Bc HBc ldx
          go_wp2_with fail
          refine (K2.out _).mono ?_
          rintro e w5 ⟨rfl, hb5⟩
          have HB5 := Lib.hid (HB4.out.trans (hb5.mono HB4.out.size))
          have Bx5 := Lib.hid (Bx4.out.keep (hb5.block _ Bx4.out.lt))
          have Bc5 := Lib.hid (Bc4.out.keep (hb5.block _ Bc4.out.lt))
          clear hb5 Bx4 Bc4 HB4 ldx4 K1 K2
          have kp : ∀ w', Below w5.heap.size w5 w' → (loadCellsFrom ⟨g2, 0, none⟩ 0 N #[]).run Try.prog w' = .ok XD w' ∧ (loadCellsFrom ⟨g1, 0, none⟩ 0 N #[]).run Try.prog w' = .ok XX w' := fun w' hb =>
            ⟨load_blk (N := N) hsD (Bc5.out.keep (hb.block _ Bc5.out.lt)), load_blk (N := N) hsX (Bx5.out.keep (hb.block _ Bx5.out.lt))⟩
          have Kp := Lib.hid kp
          have hbc : Below w5.heap.size w5 w5 := Below.refl _ _
          clear kp Bx5 Bc5
          go_wp2_with fail
          go_region_held_law (fun w' => (loadCellsFrom ⟨g2, 0, none⟩ 0 N #[]).run Try.prog w' = .ok XD w' ∧ (loadCellsFrom ⟨g1, 0, none⟩ 0 N #[]).run Try.prog w' = .ok XX w') (first | exact Kp.out _ hbc | exact Kp.out _ hbc.drew) (first
            | (go_at_call 13; (with_reducible refine (G1.out _).mono ?_); rintro e w6 ⟨rfl, hb6⟩; have hbc := (show Below w5.heap.size w5 _ from by first | exact hbc | exact hbc.drew).trans (hb6.mono (by first | exact hbc.size | exact hbc.drew.size)); clear hb6)
            | (go_at_call 14; (with_reducible refine (G2.out _).mono ?_); rintro e w7 ⟨rfl, hb7⟩; have hbc := (show Below w5.heap.size w5 _ from by first | exact hbc | exact hbc.drew).trans (hb7.mono (by first | exact hbc.size | exact hbc.drew.size)); clear hb7))
          all_goals
            go_wp2_with fail
            go_ret
            exact ⟨rfl, HB5.out.trans (hbc.mono HB5.out.size)⟩
        · have q7 : ((n3 : Int) / 2147483648 == 1) = false := by rw [beq_eq_false_iff_ne]; omega
          have q7' : (n3 / 2147483648 == 1) = false := by rw [beq_eq_false_iff_ne]; omega
          clear hbig
          obtain ⟨Wc, hWc⟩ : ∃ Wc, Wc = W3 := ⟨_, rfl⟩
          obtain ⟨cc, hcc⟩ : ∃ cc, cc = cn := ⟨_, rfl⟩
          rw [← hWc] at B3 B3x HB3 e3 cn3
          have Bx := Lib.hid B3x.out
          have hXCc : XC = ints cc := by rw [HXC.out, hcc]
          have hccl : cc.length = 256 := by rw [hcc]; exact hcl
          have Bc := Lib.hid (show Blk Wc g2 t (ints cc) by rw [← hXCc]; exact B3.out)
          have hsD : (ints cc).size = N := by rw [← hXCc]; exact hsC
          have HBc := Lib.hid HB3.out
          clear hWc hcc hXCc B3 B3x HB3 hcl
          have ldx := load_blk (N := N) hsX Bx.out
          have ldc := load_blk (N := N) hsD Bc.out
          obtain ⟨XX, hXX⟩ : ∃ XX, XX = ints x := ⟨_, rfl⟩
          obtain ⟨XD, hXD⟩ : ∃ XD, XD = ints cc := ⟨_, rfl⟩
          have K1 := Lib.hid (fun W => HK.out W x hxl)
          have K2 := Lib.hid (fun W => rkraft_any x hxl W)
          have G1 := Lib.hid (fun W => HC.out W cc x hccl hxl)
          have G2 := Lib.hid (fun W => rcost_any cc x hccl hxl W)
          rw [← hXX] at ldx K1 K2 G1 G2 hsX Bx
          rw [← hXD] at ldc G1 G2 hsD Bc
          obtain ⟨kn, hkn⟩ : ∃ kn, kn = (kraftV x).1 := ⟨_, rfl⟩
          obtain ⟨ko, hko⟩ : ∃ ko, ko = (kraftV x).2 := ⟨_, rfl⟩
          obtain ⟨cv, hcv⟩ : ∃ cv, cv = costV cc x := ⟨_, rfl⟩
          rw [← hkn, ← hko] at K1 K2
          rw [← hcv] at G1 G2
          clear hXX hXD hkn hko hcv ldc
          go_wp2_with fail
          refine (K1.out _).mono ?_
          rintro e w4 ⟨rfl, hb4⟩
          have HB4 := Lib.hid (HBc.out.trans (hb4.mono HBc.out.size))
          have Bx4 := Lib.hid (Bx.out.keep (hb4.block _ Bx.out.lt))
          have Bc4 := Lib.hid (Bc.out.keep (hb4.block _ Bc.out.lt))
          have ldx4 := load_blk (N := N) hsX Bx4.out
          clear hb4 Bx Bc HBc ldx
          go_wp2_with fail
          refine (K2.out _).mono ?_
          rintro e w5 ⟨rfl, hb5⟩
          have HB5 := Lib.hid (HB4.out.trans (hb5.mono HB4.out.size))
          have Bx5 := Lib.hid (Bx4.out.keep (hb5.block _ Bx4.out.lt))
          have Bc5 := Lib.hid (Bc4.out.keep (hb5.block _ Bc4.out.lt))
          clear hb5 Bx4 Bc4 HB4 ldx4 K1 K2
          have kp : ∀ w', Below w5.heap.size w5 w' → (loadCellsFrom ⟨g2, 0, none⟩ 0 N #[]).run Try.prog w' = .ok XD w' ∧ (loadCellsFrom ⟨g1, 0, none⟩ 0 N #[]).run Try.prog w' = .ok XX w' := fun w' hb =>
            ⟨load_blk (N := N) hsD (Bc5.out.keep (hb.block _ Bc5.out.lt)), load_blk (N := N) hsX (Bx5.out.keep (hb.block _ Bx5.out.lt))⟩
          have Kp := Lib.hid kp
          have hbc : Below w5.heap.size w5 w5 := Below.refl _ _
          clear kp Bx5 Bc5
          go_wp2_with fail
          go_region_held_law (fun w' => (loadCellsFrom ⟨g2, 0, none⟩ 0 N #[]).run Try.prog w' = .ok XD w' ∧ (loadCellsFrom ⟨g1, 0, none⟩ 0 N #[]).run Try.prog w' = .ok XX w') (first | exact Kp.out _ hbc | exact Kp.out _ hbc.drew) (first
            | (go_at_call 13; (with_reducible refine (G1.out _).mono ?_); rintro e w6 ⟨rfl, hb6⟩; have hbc := (show Below w5.heap.size w5 _ from by first | exact hbc | exact hbc.drew).trans (hb6.mono (by first | exact hbc.size | exact hbc.drew.size)); clear hb6)
            | (go_at_call 14; (with_reducible refine (G2.out _).mono ?_); rintro e w7 ⟨rfl, hb7⟩; have hbc := (show Below w5.heap.size w5 _ from by first | exact hbc | exact hbc.drew).trans (hb7.mono (by first | exact hbc.size | exact hbc.drew.size)); clear hb7))
          all_goals
            go_wp2_with fail
            go_ret
            exact ⟨rfl, HB5.out.trans (hbc.mono HB5.out.size)⟩
      · have q6 : decide (3 < (ln : Int)) = false := by rw [decide_eq_false_iff_not]; omega
        have q6' : decide (3 < ln) = false := by rw [decide_eq_false_iff_not]; omega
        clear h3n
        obtain ⟨Wc, hWc⟩ : ∃ Wc, Wc = W3 := ⟨_, rfl⟩
        obtain ⟨cc, hcc⟩ : ∃ cc, cc = cn := ⟨_, rfl⟩
        rw [← hWc] at B3 B3x HB3 e3
        have Bx := Lib.hid B3x.out
        have hXCc : XC = ints cc := by rw [HXC.out, hcc]
        have hccl : cc.length = 256 := by rw [hcc]; exact hcl
        have Bc := Lib.hid (show Blk Wc g2 t (ints cc) by rw [← hXCc]; exact B3.out)
        have hsD : (ints cc).size = N := by rw [← hXCc]; exact hsC
        have HBc := Lib.hid HB3.out
        clear hWc hcc hXCc B3 B3x HB3 hcl
        have ldx := load_blk (N := N) hsX Bx.out
        have ldc := load_blk (N := N) hsD Bc.out
        obtain ⟨XX, hXX⟩ : ∃ XX, XX = ints x := ⟨_, rfl⟩
        obtain ⟨XD, hXD⟩ : ∃ XD, XD = ints cc := ⟨_, rfl⟩
        have K1 := Lib.hid (fun W => HK.out W x hxl)
        have K2 := Lib.hid (fun W => rkraft_any x hxl W)
        have G1 := Lib.hid (fun W => HC.out W cc x hccl hxl)
        have G2 := Lib.hid (fun W => rcost_any cc x hccl hxl W)
        rw [← hXX] at ldx K1 K2 G1 G2 hsX Bx
        rw [← hXD] at ldc G1 G2 hsD Bc
        obtain ⟨kn, hkn⟩ : ∃ kn, kn = (kraftV x).1 := ⟨_, rfl⟩
        obtain ⟨ko, hko⟩ : ∃ ko, ko = (kraftV x).2 := ⟨_, rfl⟩
        obtain ⟨cv, hcv⟩ : ∃ cv, cv = costV cc x := ⟨_, rfl⟩
        rw [← hkn, ← hko] at K1 K2
        rw [← hcv] at G1 G2
        clear hXX hXD hkn hko hcv ldc
        go_wp2_with fail
        refine (K1.out _).mono ?_
        rintro e w4 ⟨rfl, hb4⟩
        have HB4 := Lib.hid (HBc.out.trans (hb4.mono HBc.out.size))
        have Bx4 := Lib.hid (Bx.out.keep (hb4.block _ Bx.out.lt))
        have Bc4 := Lib.hid (Bc.out.keep (hb4.block _ Bc.out.lt))
        have ldx4 := load_blk (N := N) hsX Bx4.out
        clear hb4 Bx Bc HBc ldx
        go_wp2_with fail
        refine (K2.out _).mono ?_
        rintro e w5 ⟨rfl, hb5⟩
        have HB5 := Lib.hid (HB4.out.trans (hb5.mono HB4.out.size))
        have Bx5 := Lib.hid (Bx4.out.keep (hb5.block _ Bx4.out.lt))
        have Bc5 := Lib.hid (Bc4.out.keep (hb5.block _ Bc4.out.lt))
        clear hb5 Bx4 Bc4 HB4 ldx4 K1 K2
        have kp : ∀ w', Below w5.heap.size w5 w' → (loadCellsFrom ⟨g2, 0, none⟩ 0 N #[]).run Try.prog w' = .ok XD w' ∧ (loadCellsFrom ⟨g1, 0, none⟩ 0 N #[]).run Try.prog w' = .ok XX w' := fun w' hb =>
          ⟨load_blk (N := N) hsD (Bc5.out.keep (hb.block _ Bc5.out.lt)), load_blk (N := N) hsX (Bx5.out.keep (hb.block _ Bx5.out.lt))⟩
        have Kp := Lib.hid kp
        have hbc : Below w5.heap.size w5 w5 := Below.refl _ _
        clear kp Bx5 Bc5
        go_wp2_with fail
        go_region_held_law (fun w' => (loadCellsFrom ⟨g2, 0, none⟩ 0 N #[]).run Try.prog w' = .ok XD w' ∧ (loadCellsFrom ⟨g1, 0, none⟩ 0 N #[]).run Try.prog w' = .ok XX w') (first | exact Kp.out _ hbc | exact Kp.out _ hbc.drew) (first
          | (go_at_call 13; (with_reducible refine (G1.out _).mono ?_); rintro e w6 ⟨rfl, hb6⟩; have hbc := (show Below w5.heap.size w5 _ from by first | exact hbc | exact hbc.drew).trans (hb6.mono (by first | exact hbc.size | exact hbc.drew.size)); clear hb6)
          | (go_at_call 14; (with_reducible refine (G2.out _).mono ?_); rintro e w7 ⟨rfl, hb7⟩; have hbc := (show Below w5.heap.size w5 _ from by first | exact hbc | exact hbc.drew).trans (hb7.mono (by first | exact hbc.size | exact hbc.drew.size)); clear hb7))
        all_goals
          go_wp2_with fail
          go_ret
          exact ⟨rfl, HB5.out.trans (hbc.mono HB5.out.size)⟩
set_option maxRecDepth 4000 in
set_option maxHeartbeats 4000000 in
/-- The same for lists of any length. -/
theorem dcosts_all (hK : KraftC) (hC : CostC) {F : List Int → List Int × Bool} (hL : LengthsC F) (hF : LensOk F) (w : World) {A1 A2 A3 : Option Addr} {c1 c2 c3 : Nat} {a : List Nat} {l : List Int} {n : List Nat}
    (ha : ∀ x ∈ a, x < 256) (hl : ∀ z ∈ l, (Lit.int .i8 z).wf = true) (hn : ∀ x ∈ n, x < 4294967296) (s1 : Sl w w.heap.size A1 (byts a)) (s2 : Sl w w.heap.size A2 (l.map (Value.int .i8))) (s3 : Sl w w.heap.size A3 (u32s n)) :
    Calls Try.prog 4 #[.slice A1 a.length c1, .slice A2 l.length c2, .slice A3 n.length c3] w fun e w' => e = .returned (.bool true) ∧ Below w.heap.size w w' := by
  have AW := Lib.hid (fun w => awake_any hK hC hL hF w)
  by_cases h0 : 256 < a.length
  · clear hK hC hL hF s1 s2 s3 ha hl hn
    generalize a.length = la at *
    generalize l.length = ll at *
    generalize n.length = ln at *
    have q0 : decide (256 < (la : Int)) = true := by rw [decide_eq_true_eq]; omega
    have r0 : decide (256 < la) = true := by rw [decide_eq_true_eq]; omega
    go_enter Try.func4, Try.ntmps4
    go_wp2_with fail
    refine (AW.out _).mono ?_
    rintro e w1 ⟨rfl, hb1⟩
    go_wp2_with fail
    go_ret
    exact ⟨rfl, hb1⟩
  by_cases h1 : l.length < a.length
  · clear hK hC hL hF s1 s2 s3 ha hl hn
    generalize a.length = la at *
    generalize l.length = ll at *
    generalize n.length = ln at *
    have q0 : decide (256 < (la : Int)) = false := by rw [decide_eq_false_iff_not]; omega
    have r0 : decide (256 < la) = false := by rw [decide_eq_false_iff_not]; omega
    have q1 : decide ((ll : Int) < (la : Int)) = true := by rw [decide_eq_true_eq]; omega
    have r1 : decide (ll < la) = true := by rw [decide_eq_true_eq]; omega
    go_enter Try.func4, Try.ntmps4
    go_wp2_with fail
    refine (AW.out _).mono ?_
    rintro e w1 ⟨rfl, hb1⟩
    go_wp2_with fail
    go_ret
    exact ⟨rfl, hb1⟩
  by_cases h2 : 256 < n.length
  · clear hK hC hL hF s1 s2 s3 ha hl hn
    generalize a.length = la at *
    generalize l.length = ll at *
    generalize n.length = ln at *
    have q0 : decide (256 < (la : Int)) = false := by rw [decide_eq_false_iff_not]; omega
    have r0 : decide (256 < la) = false := by rw [decide_eq_false_iff_not]; omega
    have q1 : decide ((ll : Int) < (la : Int)) = false := by rw [decide_eq_false_iff_not]; omega
    have r1 : decide (ll < la) = false := by rw [decide_eq_false_iff_not]; omega
    have q2 : decide (256 < (ln : Int)) = true := by rw [decide_eq_true_eq]; omega
    have r2 : decide (256 < ln) = true := by rw [decide_eq_true_eq]; omega
    go_enter Try.func4, Try.ntmps4
    go_wp2_with fail
    refine (AW.out _).mono ?_
    rintro e w1 ⟨rfl, hb1⟩
    go_wp2_with fail
    go_ret
    exact ⟨rfl, hb1⟩
  by_cases h3 : 1000 < l.length
  · clear hK hC hL hF s1 s2 s3 ha hl hn
    generalize a.length = la at *
    generalize l.length = ll at *
    generalize n.length = ln at *
    have q0 : decide (256 < (la : Int)) = false := by rw [decide_eq_false_iff_not]; omega
    have r0 : decide (256 < la) = false := by rw [decide_eq_false_iff_not]; omega
    have q1 : decide ((ll : Int) < (la : Int)) = false := by rw [decide_eq_false_iff_not]; omega
    have r1 : decide (ll < la) = false := by rw [decide_eq_false_iff_not]; omega
    have q2 : decide (256 < (ln : Int)) = false := by rw [decide_eq_false_iff_not]; omega
    have r2 : decide (256 < ln) = false := by rw [decide_eq_false_iff_not]; omega
    have q3 : decide (1000 < (ll : Int)) = true := by rw [decide_eq_true_eq]; omega
    have r3 : decide (1000 < ll) = true := by rw [decide_eq_true_eq]; omega
    go_enter Try.func4, Try.ntmps4
    go_wp2_with fail
    refine (AW.out _).mono ?_
    rintro e w1 ⟨rfl, hb1⟩
    go_wp2_with fail
    go_ret
    exact ⟨rfl, hb1⟩
  exact dcosts_any hK hC hL hF w ha hl hn s1 s2 s3 (by omega) (by omega) (by omega) (by omega)
end Go.Proofs.Ythcppebfhjleiaa
