/- The document's UnpackWords, walked. -/
import Derived.Test.YtnkgcibdibgmjaaRunpw
namespace Go.Proofs.Ytnkgcibdibgmjaa
open Go.RowKit

/-- What lies beside the bytes that are written: the lengths and the words. -/
structure TwoW (W : World) (t : TypeId) (gl gw : Nat) (L Wd_ : List Int) : Prop where
  bl : Blk W gl t (ints L)
  bw : Blk W gw t (ints Wd_)
  len : L.length = 256
  wlen : Wd_.length = 256
theorem TwoW.cl {W wr : World} {t : TypeId} {gl gw : Nat} {L V : List Int} (h : TwoW W t gl gw L V) (hb : Below W.heap.size W wr) {i : Nat} (hi : i < 256) : wr.cell? ⟨gl, i, none⟩ = some (.int .i64 (L.getD i 0)) := by
  rw [hb.cell (p := ⟨gl, i, none⟩) h.bl.lt, h.bl.cell, ints_at (by rw [h.len]; exact hi)]
theorem TwoW.cw {W wr : World} {t : TypeId} {gl gw : Nat} {L V : List Int} (h : TwoW W t gl gw L V) (hb : Below W.heap.size W wr) {i : Nat} (hi : i < 256) : wr.cell? ⟨gw, i, none⟩ = some (.int .i64 (V.getD i 0)) := by
  rw [hb.cell (p := ⟨gw, i, none⟩) h.bw.lt, h.bw.cell, ints_at (by rw [h.wlen]; exact hi)]

set_option maxRecDepth 10000 in
set_option maxHeartbeats 16000000 in
theorem runpw_good (A : Option Addr) (cap : Nat) (b : List Nat) (hbl : ∀ x ∈ b, x < 256) (hlen : b.length ≤ 100000) (n : Nat) (hn : n ≤ 4096) {w : World} (hsl : Sl w w.heap.size A (byts b)) :
    Calls Try.prog 19 #[.slice A b.length cap, .int .i64 (n : Int)] w (UnpR (Wd.unpack b n) w) := by
  obtain ⟨i0, hi0, hz0, hs0, hb0⟩ := byte_parts (P := Try.prog) (e := 5) (by kernel_rfl)
  obtain ⟨t, T, ht, hT, hagg, hix, hund, hsz, hzz⟩ := t256
  have hi16 : (Try.prog.info? t).map (·.size) = some 256 := by rw [ht]; kernel_rfl
  obtain ⟨Z, hZ⟩ : ∃ Z, Z = ints (List.replicate 256 0) := ⟨_, rfl⟩
  rw [← hZ] at hzz
  have hZs : Z.size = 256 := by rw [hZ, ints_size, List.length_replicate]
  have store : ∀ (l : List Int) (w1 : World), l.length = 256 → (storeCells ⟨w1.heap.size, 0, none⟩ (ints l).toList 0).run Try.prog (w1.alloc (.cells Z t)) = .ok () (w1.alloc (.cells (ints l) t)) := fun l w1 hl =>
    run_storeCells_new w1 t Z (ints l) (by rw [hi16, ints_size, hl]) (by rw [hZs, ints_size, hl]) (ints_one l)
  obtain ⟨N, hN⟩ : ∃ N, N = b.length := ⟨_, rfl⟩
  obtain ⟨R, hR⟩ : ∃ R, R = Wd.unpack b n := ⟨_, rfl⟩
  have q1 : decide ((n : Int) < 0) = false := by rw [decide_eq_false_iff_not]; omega
  have q2 : decide (4096 < (n : Int)) = false := by rw [decide_eq_false_iff_not]; omega
  have q2' : decide (4096 < n) = false := by rw [decide_eq_false_iff_not]; omega
  have hR2 : R = if (Wd.table b).1 = 0 then Wd.body (Wd.table b).2.1 n (Wd.bitsB (Wd.table b).2.2) else ([], (Wd.table b).1) := by
    rw [hR]; unfold Wd.unpack; rw [if_neg (by omega), Int.toNat_natCast]
  have hNb : N ≤ 100000 := by omega
  have RT := Lib.hid (rtable_any A cap b hbl hlen N hN hsl)
  have Sw := Lib.hid (fun wr (hb : Below w.heap.size w wr) => hsl.below hb)
  have Hst := Lib.hid store
  have Hix := Lib.hid hix
  have HT := Lib.hid hT
  have HN := Lib.hid hN
  have Hbl := Lib.hid hbl
  have HR2 := Lib.hid hR2
  have hTE : ∃ E, (Wd.table b).1 = E := ⟨_, rfl⟩
  obtain ⟨E, hE⟩ := hTE
  have E1 : Op.alloc 50 = Op.alloc t := by rw [ht]
  have E2 : ∀ a b, Op.store 50 a b = Op.store t a b := by rw [ht]; exact fun _ _ => rfl
  have E3 : ∀ a b, Op.indexAddr 50 a b = Op.indexAddr t a b := by rw [ht]; exact fun _ _ => rfl
  have E4 : ∀ a, Op.load 50 a = Op.load t a := by rw [ht]; exact fun _ => rfl
  rw [← hR, ← hN]
  unfold ReadR at RT
  rw [hE] at RT HR2
  have HE := Lib.hid hE
  clear hR hR2 hE hN hsl hbl hlen ht hix hT hZ store hi16
  go_enter Try.func19, Try.ntmps19
  simp only [E1, E2, E3, E4]
  clear E1 E2 E3 E4
  go_wp2_with fail
  refine RT.out.mono ?_
  rintro e w1 ⟨L, at0, rfl, hL, hok, hb1⟩
  have st1 := Hst.out L w1 hL
  obtain ⟨XL, hXL⟩ : ∃ X, X = ints L := ⟨_, rfl⟩
  obtain ⟨W1, hW1⟩ : ∃ x, x = w1.alloc (.cells (ints L) t) := ⟨_, rfl⟩
  have e1 : w1.alloc (.cells (ints L) t) = W1 := hW1.symm
  have B1 := Lib.hid (show Blk W1 w1.heap.size t (ints L) by rw [hW1]; exact Blk.new _ _ _)
  have HB1 := Lib.hid (show Below w.heap.size w W1 by rw [hW1]; exact hb1.alloc hb1.size _)
  rw [← hXL] at st1 e1 ⊢
  have HXL := Lib.hid hXL
  have hXN : XL.size = T := by rw [hXL, ints_size, hL, HT.out]
  clear hW1 hb1 RT hXL
  generalize hgl : w1.heap.size = gl at *
  by_cases hE0 : E = 0
  · subst hE0
    obtain ⟨hLt, hat, hrest, hrng⟩ := hok rfl
    have hRb := HR2.out
    rw [if_pos rfl, hrest, ← hLt, bits_drop] at hRb
    have HRb := Lib.hid hRb
    have WT := Lib.hid (fun W => rwords_any L hL W)
    obtain ⟨V, hV⟩ : ∃ V, V = Wd.codes L := ⟨_, rfl⟩
    have hVl : V.length = 256 := by rw [hV]; exact Wd.asg_len L 12 0
    rw [← hV] at WT
    have ld1 := load_blk (N := T) (by rw [ints_size, hL, HT.out]) B1.out
    have HV := Lib.hid hV
    have hatN : at0 ≤ N := by rw [HN.out]; exact hat
    rw [← HXL.out] at ld1 WT
    clear hRb hok hLt hrest HR2 hat hV
    go_wp2_with fail
    refine (WT.out W1).mono ?_
    rintro e w2 ⟨rfl, hb2⟩
    have st2 := Hst.out V w2 hVl
    obtain ⟨XV, hXV⟩ : ∃ X, X = ints V := ⟨_, rfl⟩
    obtain ⟨W2, hW2⟩ : ∃ x, x = w2.alloc (.cells (ints V) t) := ⟨_, rfl⟩
    have e2 : w2.alloc (.cells (ints V) t) = W2 := hW2.symm
    have T2 := Lib.hid (show TwoW W2 t gl w2.heap.size L V from ⟨by
      have h := B1.out.keep (hb2.block _ B1.out.lt)
      rw [hW2]; exact h.alloc _, by rw [hW2]; exact Blk.new _ _ _, hL, hVl⟩)
    have HB2 := Lib.hid (show Below w.heap.size w W2 by
      have h := HB1.out.trans (hb2.mono HB1.out.size)
      rw [hW2]; exact h.alloc h.size _)
    rw [← hXV] at st2 e2 ⊢
    have hXVN : XV.size = T := by rw [hXV, ints_size, hVl, HT.out]
    clear hW2 hb2 WT hXV B1 HB1 st1 ld1 e1
    generalize hgw : w2.heap.size = gw at *
    go_wp2_with fail
    go_loop [10, 11] (fun u i => ∃ k : Nat, k ≤ 256 ∧ i = .int .i64 k ∧ u = .int .i64 ((Wd.usedN L k : Nat) : Int)) (fun _ i => 256 - (intOf i).toNat)
    case atStart => exact ⟨0, by decide, rfl, rfl⟩
    case round =>
      obtain ⟨k, hk, rfl, rfl⟩ := hrel
      have hul := usedN_le L k
      by_cases hlt : k < 256
      · have p5 : decide ((k : Int) < 256) = true := by rw [decide_eq_true_eq]; omega
        have p5' : decide (k < 256) = true := by rw [decide_eq_true_eq]; omega
        have ixk := Hix.out .i64 k hlt gl
        have ck := T2.out.cl (Below.refl _ _) hlt
        have Hu := Lib.hid (show Wd.usedN L (k + 1) = if 0 < L.getD k 0 then Wd.usedN L k + 1 else Wd.usedN L k from rfl)
        generalize L.getD k 0 = y at *
        generalize Wd.usedN L k = u at *
        by_cases hy : 0 < y
        · have p6 : decide (0 < y) = true := by rw [decide_eq_true_eq]; exact hy
          have Hu2 := Lib.hid (show Wd.usedN L (k + 1) = u + 1 by rw [Hu.out, if_pos hy])
          clear hy Hu
          go_wp2_with fail
          go_round
          case rel => exact ⟨k + 1, by omega, by go_num, by rw [Hu2.out]; go_num⟩
          case measure => simp [intOf]; omega
        · have p6 : decide (0 < y) = false := by rw [decide_eq_false_iff_not]; exact hy
          have Hu2 := Lib.hid (show Wd.usedN L (k + 1) = u by rw [Hu.out, if_neg hy])
          clear hy Hu
          go_wp2_with fail
          go_round
          case rel => exact ⟨k + 1, by omega, by go_num, by rw [Hu2.out]⟩
          case measure => simp [intOf]; omega
      have hk6 : k = 256 := by omega
      subst hk6
      have p5 : decide ((256 : Int) < 256) = false := by simp
      obtain ⟨U, hU⟩ : ∃ U, Wd.usedN L 256 = U := ⟨_, rfl⟩
      have hRb := HRb.out
      unfold Wd.body at hRb
      rw [hU, ← HV.out] at hRb
      rw [hU] at hul ⊢
      obtain ⟨RA, hRA⟩ : ∃ RA, Wd.rdAll L V U n ((Wd.bitsB b).drop (8 * at0)) [] = RA := ⟨_, rfl⟩
      rw [hRA] at hRb
      have HRb2 := Lib.hid hRb
      have HRA := Lib.hid hRA
      have Hrng := Lib.hid hrng
      clear hU hRb hRA HRb hk hlt hrng
      have hp0 : (8 : Int) * (at0 : Int) = ((8 * at0 : Nat) : Int) := by omega
      have hpb0 : 8 * at0 ≤ 8 * N := by omega
      obtain ⟨p0, hp0e⟩ : ∃ p0, 8 * at0 = p0 := ⟨_, rfl⟩
      rw [hp0e] at hp0 hpb0 HRA
      clear hp0e
      go_wp2_with fail
      go_loopg [12, 13] n (fun d x v wr => ∃ (p m c' : Nat) (A' : Option Addr) (acc : List Nat), d = n - m ∧ x = .int .i64 p ∧ v = .slice A' m c' ∧ p ≤ 8 * N ∧ Mine W2 wr A' m c' acc ∧ (∀ y ∈ acc, y < 256) ∧ m ≤ n ∧ Wd.rdAll L V U (n - m) ((Wd.bitsB b).drop p) acc = RA)
      case atStart => exact ⟨p0, 0, 0, none, [], rfl, rfl, rfl, hpb0, ⟨World.ownsRow_nil _ _ _ _, Below.refl _ _⟩, by simp, Nat.zero_le _, HRA.out⟩
      case round =>
        obtain ⟨p, m, c', A', acc, rfl, rfl, rfl, hp, hm, hac, hmn, hrd⟩ := hrel
        have M := Lib.hid hm
        have Hac := Lib.hid hac
        have hbw : Below w.heap.size w wr := HB2.out.trans (hm.bel.mono HB2.out.size)
        have HBW := Lib.hid hbw
        clear hm hac HRA hpb0 hp0 e2 st2
        by_cases hmn2 : m < n
        · have z1 : decide ((m : Int) < (n : Int)) = true := by rw [decide_eq_true_eq]; omega
          have z1' : decide (m < n) = true := by rw [decide_eq_true_eq]; omega
          obtain ⟨d, hd⟩ : ∃ d, n - m = d + 1 := ⟨n - m - 1, by omega⟩
          rw [hd, Wd.rdAll] at hrd
          by_cases hU0 : U = 0
          · rw [if_pos hU0] at hrd
            have HRe := Lib.hid (show R = ([], 4) by rw [HRb2.out, ← hrd]; rfl)
            have z2 : ((U : Int) == 0) = true := by rw [beq_iff_eq]; omega
            have z2' : (U == 0) = true := by rw [beq_iff_eq]; exact hU0
            clear hrd hU0
            go_wp2_with fail
            go_returns
            exact unpR_no HRe.out HBW.out
          rw [if_neg hU0] at hrd
          have z2 : ((U : Int) == 0) = false := by rw [beq_eq_false_iff_ne]; omega
          have z2' : (U == 0) = false := by rw [beq_eq_false_iff_ne]; exact hU0
          obtain ⟨RW, hRW⟩ : ∃ RW, Wd.rdW L V U 11 1 0 ((Wd.bitsB b).drop p) = RW := ⟨_, rfl⟩
          rw [hRW] at hrd
          have Hrd := Lib.hid hrd
          have HRW := Lib.hid hRW
          have Hd := Lib.hid hd
          clear hrd hRW hd hU0
          go_wp2_with fail
          go_loop [12, 14, 15, 16] (fun x wd f k => ∃ (k' p' word : Nat) (fd : Int), x = .int .i64 p' ∧ wd = .int .i64 word ∧ f = .int .i64 fd ∧ k = .int .i64 k' ∧ 1 ≤ k' ∧ k' ≤ 12 ∧ p' ≤ 8 * N ∧ word + 1 ≤ 2 ^ (k' - 1) ∧ ((fd = -1 ∧ Wd.rdW L V U (12 - k') k' word ((Wd.bitsB b).drop p') = RW) ∨ (∃ s : Nat, fd = (s : Int) ∧ s < 256 ∧ RW = (0, s, (Wd.bitsB b).drop p')))) (fun _ _ _ k => 12 - (intOf k).toNat)
          case atStart => exact ⟨1, p, 0, -1, rfl, rfl, rfl, rfl, by decide, by decide, hp, by decide, .inl ⟨rfl, HRW.out⟩⟩
          case round =>
            obtain ⟨k, p', word, fd, rfl, rfl, rfl, rfl, hk1, hk12, hp', hwd, hst⟩ := hrel
            have hw11 : 2 ^ (k - 1) ≤ 2 ^ 11 := Nat.pow_le_pow_right (by decide) (by omega)
            have hwb : word < 2048 := by omega
            clear hw11
            rcases hst with ⟨rfl, hw⟩ | ⟨s, rfl, hs, hw⟩
            · by_cases hk : k ≤ 11
              · have z3 : decide ((k : Int) ≤ 11) = true := by rw [decide_eq_true_eq]; omega
                have z3' : decide (k ≤ 11) = true := by rw [decide_eq_true_eq]; omega
                obtain ⟨f, hf⟩ : ∃ f, 12 - k = f + 1 := ⟨11 - k, by omega⟩
                rw [hf] at hw
                by_cases hend : 8 * N ≤ p'
                · have z4 : decide ((8 : Int) * (N : Int) ≤ (p' : Int)) = true := by rw [decide_eq_true_eq]; omega
                  rw [bits_end (by rw [← HN.out]; exact hend), Wd.rdW] at hw
                  have hr := Hrd.out
                  rw [← hw, if_neg (by decide)] at hr
                  have HRe := Lib.hid (show R = ([], 2) by rw [HRb2.out, ← hr]; rfl)
                  clear hw hr
                  go_wp2_with fail
                  go_returns
                  exact unpR_no HRe.out HBW.out
                have z4 : decide ((8 : Int) * (N : Int) ≤ (p' : Int)) = false := by rw [decide_eq_false_iff_not]; omega
                have hq8 : p' / 8 < b.length := by rw [← HN.out]; omega
                rw [bits_next (by rw [← HN.out]; omega), Wd.rdW] at hw
                obtain ⟨bb, ob, eA, cx⟩ := sl_cell (Sw.out wr HBW.out) hq8
                subst eA
                have hx := getB_lt Hbl.out (p' / 8)
                generalize b.getD (p' / 8) 0 = x at *
                have Hw := Lib.hid hw
                clear hw
                have hr8 : p' % 8 < 8 := Nat.mod_lt _ (by decide)
                obtain ⟨bt, hbt⟩ : ∃ bt, bt = x / 2 ^ (7 - p' % 8) % 2 := ⟨_, rfl⟩
                have hb2 : bt < 2 := by rw [hbt]; exact Nat.mod_lt _ (by decide)
                have hand := bit_i64 hx (7 - p' % 8)
                rw [← hbt] at hand
                have hor := or_bit (a := word) (b := bt) (by omega) hb2
                obtain ⟨wd2, hwd2⟩ : ∃ wd2, wd2 = word * 2 + bt := ⟨_, rfl⟩
                rw [← hwd2] at hor
                have hwp : wd2 + 1 ≤ 2 ^ k := pow_next hwd hb2 hwd2 hk1
                have hw := Hw.out
                rw [← hbt, ← hwd2] at hw
                have Hw2 := Lib.hid hw
                have Hwp := Lib.hid hwp
                clear hw Hw hbt hwd2 hwp hwd
                go_wp2_with fail
                go_loop [15, 17] (fun f i => ∃ (j : Nat) (fd : Int), j ≤ 256 ∧ i = .int .i64 j ∧ f = .int .i64 fd ∧ ((fd = -1 ∧ findK L V k wd2 j = none) ∨ (∃ s : Nat, fd = (s : Int) ∧ s < 256 ∧ findK L V k wd2 256 = some s))) (fun _ i => 256 - (intOf i).toNat)
                case atStart => exact ⟨0, -1, by decide, rfl, rfl, .inl ⟨rfl, rfl⟩⟩
                case round =>
                  obtain ⟨j, fd, hj, rfl, rfl, hfd⟩ := hrel
                  by_cases hj6 : j < 256
                  · have z5 : decide ((j : Int) < 256) = true := by rw [decide_eq_true_eq]; omega
                    have z5' : decide (j < 256) = true := by rw [decide_eq_true_eq]; omega
                    rcases hfd with ⟨rfl, hno⟩ | ⟨s, rfl, hs, hyes⟩
                    · have ixl := Hix.out .i64 j hj6 gl
                      have ixw := Hix.out .i64 j hj6 gw
                      have cl := T2.out.cl M.out.bel hj6
                      have cw := T2.out.cw M.out.bel hj6
                      have hh : hit L V k wd2 j = (L.getD j 0 == (k : Int) && V.getD j 0 == (wd2 : Int)) := rfl
                      have Hno := Lib.hid hno
                      have Hh := Lib.hid hh
                      clear hno hh
                      generalize L.getD j 0 = lj at *
                      generalize V.getD j 0 = vj at *
                      by_cases h1 : lj = (k : Int)
                      · have y1 : (lj == (k : Int)) = true := by rw [beq_iff_eq]; exact h1
                        by_cases h2 : vj = (wd2 : Int)
                        · have y2 : (vj == (wd2 : Int)) = true := by rw [beq_iff_eq]; exact h2
                          have Hy := Lib.hid (findK_hit Hno.out (by rw [Hh.out, y1, y2]; rfl) 256 hj6)
                          clear h1 h2
                          go_wp2_with fail
                          go_round
                          case rel => exact ⟨j + 1, (j : Int), by omega, by go_num, rfl, .inr ⟨j, rfl, hj6, Hy.out⟩⟩
                          case measure => simp [intOf]; omega
                        · have y2 : (vj == (wd2 : Int)) = false := by rw [beq_eq_false_iff_ne]; exact h2
                          have Hy := Lib.hid (findK_miss Hno.out (by rw [Hh.out, y1, y2]; rfl))
                          clear h1 h2
                          go_wp2_with fail
                          go_round
                          case rel => exact ⟨j + 1, -1, by omega, by go_num, rfl, .inl ⟨rfl, Hy.out⟩⟩
                          case measure => simp [intOf]; omega
                      · have y1 : (lj == (k : Int)) = false := by rw [beq_eq_false_iff_ne]; exact h1
                        have Hy := Lib.hid (findK_miss Hno.out (by rw [Hh.out, y1]; rfl))
                        clear h1
                        go_wp2_with fail
                        go_round
                        case rel => exact ⟨j + 1, -1, by omega, by go_num, rfl, .inl ⟨rfl, Hy.out⟩⟩
                        case measure => simp [intOf]; omega
                    · have y0 : decide ((s : Int) < 0) = false := by rw [decide_eq_false_iff_not]; omega
                      have hw := Hw2.out
                      rw [findS_is, hyes] at hw
                      have Hw3 := Lib.hid hw
                      clear hw hyes
                      go_wp2_with fail
                      go_round
                      case rel => exact ⟨k + 1, p' + 1, wd2, (s : Int), by go_num, rfl, rfl, by go_num, by omega, by omega, by omega, Hwp.out, .inr ⟨s, rfl, hs, Hw3.out.symm⟩⟩
                      case measure => simp [intOf]; omega
                  · have hj66 : j = 256 := by omega
                    subst hj66
                    have z5 : decide ((256 : Int) < 256) = false := by simp
                    rcases hfd with ⟨rfl, hno⟩ | ⟨s, rfl, hs, hyes⟩
                    · have hw := Hw2.out
                      rw [findS_is, hno] at hw
                      by_cases hU1 : U = 1
                      · simp only at hw
                        rw [if_pos hU1] at hw
                        have hr := Hrd.out
                        rw [← hw, if_neg (by decide)] at hr
                        have HRe := Lib.hid (show R = ([], 4) by rw [HRb2.out, ← hr]; rfl)
                        have y3 : ((U : Int) == 1) = true := by rw [beq_iff_eq]; omega
                        have y3' : (U == 1) = true := by rw [beq_iff_eq]; exact hU1
                        clear hw hr hno hU1
                        go_wp2_with fail
                        go_returns
                        exact unpR_no HRe.out HBW.out
                      · simp only at hw
                        rw [if_neg hU1] at hw
                        have y3 : ((U : Int) == 1) = false := by rw [beq_eq_false_iff_ne]; omega
                        have y3' : (U == 1) = false := by rw [beq_eq_false_iff_ne]; exact hU1
                        have Hw3 := Lib.hid hw
                        clear hw hno hU1
                        go_wp2_with fail
                        go_round
                        case rel => exact ⟨k + 1, p' + 1, wd2, -1, by go_num, rfl, rfl, by go_num, by omega, by omega, by omega, Hwp.out, .inl ⟨rfl, by rw [show 12 - (k + 1) = f by omega]; exact Hw3.out⟩⟩
                        case measure => simp [intOf]; omega
                    · have y0 : decide ((s : Int) < 0) = false := by rw [decide_eq_false_iff_not]; omega
                      have hw := Hw2.out
                      rw [findS_is, hyes] at hw
                      have Hw3 := Lib.hid hw
                      clear hw hyes
                      go_wp2_with fail
                      go_round
                      case rel => exact ⟨k + 1, p' + 1, wd2, (s : Int), by go_num, rfl, rfl, by go_num, by omega, by omega, by omega, Hwp.out, .inr ⟨s, rfl, hs, Hw3.out.symm⟩⟩
                      case measure => simp [intOf]; omega
              · have hk12' : k = 12 := by omega
                subst hk12'
                have z3 : decide ((12 : Int) ≤ 11) = false := by simp
                rw [show 12 - 12 = 0 from rfl, Wd.rdW] at hw
                have hr := Hrd.out
                rw [← hw, if_neg (by decide)] at hr
                have HRe := Lib.hid (show R = ([], 4) by rw [HRb2.out, ← hr]; rfl)
                clear hw hr
                go_wp2_with fail
                go_returns
                exact unpR_no HRe.out HBW.out
            · have y0 : decide ((s : Int) < 0) = false := by rw [decide_eq_false_iff_not]; omega
              have hr := Hrd.out
              rw [hw, if_pos rfl] at hr
              have Hr2 := Lib.hid hr
              have w8 : IntKind.u8.wrap (s : Int) = (s : Int) := by rw [IntKind.wrap_u8]; omega
              clear hw hr
              have Mz := Lib.hid (M.out.below (w' := wr.alloc (.cells #[.int .u8 (s : Int)] 5)) ((Below.refl _ _).alloc (Nat.le_refl _) _))
              have Sz := Lib.hid (sl_cells (w := wr) (cs := #[.int .u8 (s : Int)]) (l := [s]) rfl)
              by_cases hk : k ≤ 11
              · have z3 : decide ((k : Int) ≤ 11) = true := by rw [decide_eq_true_eq]; omega
                have z3' : decide (k ≤ 11) = true := by rw [decide_eq_true_eq]; omega
                go_wp2_with (at_builtin; refine wpList_append_sl (base := W2.heap.size) _ rfl (.tmp 112) (.tmp 115) _ rfl Try.underlying22 hi0 hz0 hs0 hb0 rfl rfl Mz.out.own rfl (byts_length [s]).symm (by simp) Sz.out (byts_one _) (by rw [byts_length]; exact Nat.le_refl _) (by rw [byts_length]; unfold maxLen; simp; omega) (by rw [byts_length]; simp; omega) Mz.out.bel.size ?_; intro v6 w6 h1 h2 _; obtain ⟨A6, c6, rfl, m6⟩ := Mz.out.app (r := [s]) rfl (show m + 1 = m + 1 from rfl) h1 h2; have M6 := Lib.hid m6; clear h1 h2 m6)
                go_roundg (n - (m + 1))
                case rel => exact ⟨p', m + 1, c6, A6, acc ++ [s], rfl, rfl, rfl, hp', M6.out, fun y hy => by
                  rcases List.mem_append.1 hy with h | h
                  · exact Hac.out y h
                  · have : y = s := by simpa using h
                    omega, by omega, by rw [show n - (m + 1) = d by have := Hd.out; omega]; exact Hr2.out⟩
                case measure => omega
              · have z3 : decide ((k : Int) ≤ 11) = false := by rw [decide_eq_false_iff_not]; omega
                have z3' : decide (k ≤ 11) = false := by rw [decide_eq_false_iff_not]; omega
                go_wp2_with (at_builtin; refine wpList_append_sl (base := W2.heap.size) _ rfl (.tmp 112) (.tmp 115) _ rfl Try.underlying22 hi0 hz0 hs0 hb0 rfl rfl Mz.out.own rfl (byts_length [s]).symm (by simp) Sz.out (byts_one _) (by rw [byts_length]; exact Nat.le_refl _) (by rw [byts_length]; unfold maxLen; simp; omega) (by rw [byts_length]; simp; omega) Mz.out.bel.size ?_; intro v6 w6 h1 h2 _; obtain ⟨A6, c6, rfl, m6⟩ := Mz.out.app (r := [s]) rfl (show m + 1 = m + 1 from rfl) h1 h2; have M6 := Lib.hid m6; clear h1 h2 m6)
                go_roundg (n - (m + 1))
                case rel => exact ⟨p', m + 1, c6, A6, acc ++ [s], rfl, rfl, rfl, hp', M6.out, fun y hy => by
                  rcases List.mem_append.1 hy with h | h
                  · exact Hac.out y h
                  · have : y = s := by simpa using h
                    omega, by omega, by rw [show n - (m + 1) = d by have := Hd.out; omega]; exact Hr2.out⟩
                case measure => omega
        · have hmn3 : n = m := by omega
          subst hmn3
          have z1 : decide ((n : Int) < (n : Int)) = false := by simp
          have z1' : decide (n < n) = false := by simp
          rw [Nat.sub_self, Wd.rdAll] at hrd
          have hre := HRb2.out
          rw [← hrd, if_pos rfl] at hre
          simp only [Wd.endV, List.length_drop, bitsB_len] at hre
          rw [← HN.out] at hre
          by_cases h8 : 8 ≤ 8 * N - p
          · rw [if_pos h8] at hre
            have HRe := Lib.hid hre
            have z6 : decide (8 ≤ (8 : Int) * (N : Int) - (p : Int)) = true := by rw [decide_eq_true_eq]; omega
            clear hre hrd
            go_wp2_with fail
            go_returns
            exact unpR_no HRe.out HBW.out
          rw [if_neg h8] at hre
          have z6 : decide (8 ≤ (8 : Int) * (N : Int) - (p : Int)) = false := by rw [decide_eq_false_iff_not]; omega
          have HRe := Lib.hid hre
          clear hre hrd
          go_wp2_with fail
          go_loop [12] (fun x => ∃ p' : Nat, x = .int .i64 p' ∧ p' ≤ 8 * N ∧ ((Wd.bitsB b).drop p).any (· == 1) = ((Wd.bitsB b).drop p').any (· == 1)) (fun x => 8 * N - (intOf x).toNat)
          case atStart => exact ⟨p, rfl, hp, rfl⟩
          case round =>
            obtain ⟨p', rfl, hp', hany⟩ := hrel
            by_cases hlt : p' < 8 * N
            · have z7 : decide ((p' : Int) < (8 : Int) * (N : Int)) = true := by rw [decide_eq_true_eq]; omega
              have hq8 : p' / 8 < b.length := by rw [← HN.out]; omega
              rw [bits_next (p := p') (by rw [← HN.out]; omega), List.any_cons] at hany
              obtain ⟨bb, ob, eA, cx⟩ := sl_cell (Sw.out wr HBW.out) hq8
              subst eA
              have hx := getB_lt Hbl.out (p' / 8)
              generalize b.getD (p' / 8) 0 = x at *
              have hr8 : p' % 8 < 8 := Nat.mod_lt _ (by decide)
              obtain ⟨bt, hbt⟩ : ∃ bt, bt = x / 2 ^ (7 - p' % 8) % 2 := ⟨_, rfl⟩
              have hb2 : bt < 2 := by rw [hbt]; exact Nat.mod_lt _ (by decide)
              have hand := bit_u8 hx (7 - p' % 8)
              rw [← hbt] at hand hany
              clear hbt
              by_cases h1 : bt = 1
              · subst h1
                have HRf := Lib.hid (show R = ([], 4) by rw [HRe.out, hany]; rfl)
                clear hany
                go_wp2_with fail
                go_returns
                exact unpR_no HRf.out HBW.out
              · have h0 : bt = 0 := by omega
                subst h0
                have Ha := Lib.hid (show ((Wd.bitsB b).drop p).any (· == 1) = ((Wd.bitsB b).drop (p' + 1)).any (· == 1) by rw [hany]; rfl)
                clear hany
                go_wp2_with fail
                go_round
                case rel => exact ⟨p' + 1, by go_num, by omega, Ha.out⟩
                case measure => simp [intOf]; omega
            · have hpe : p' = 8 * N := by omega
              have z7 : decide ((p' : Int) < (8 : Int) * (N : Int)) = false := by rw [decide_eq_false_iff_not]; omega
              rw [bits_end (p := p') (by rw [← HN.out]; omega)] at hany
              have HRf := Lib.hid (show R = (acc, 0) by rw [HRe.out, hany]; rfl)
              clear hany
              go_wp2_with fail
              go_returns
              obtain ⟨A5, c5, he, hby, hbb⟩ := unpR_ok HRf.out M.out Hac.out (by omega)
              exact ⟨A5, c5, he, hby, HB2.out.trans (hbb.mono HB2.out.size)⟩
  · have HRe := Lib.hid (show R = ([], E) by rw [HR2.out, if_neg hE0])
    have p3 : (((E : Nat) : Int) != 0) = true := by rw [bne_iff_ne]; omega
    have p3' : (E != 0) = true := by rw [bne_iff_ne]; exact hE0
    clear HR2 hE0 hok
    go_wp2_with fail
    go_returns
    exact unpR_no HRe.out HB1.out

set_option maxHeartbeats 1000000 in
/-- For any length. -/
theorem runpw_by {w : World} {A : Option Addr} {c : Nat} {l : List Nat} (h : By w A c l) (hlen : l.length ≤ 100000) (n : Int) (N : Nat) (hN : N = l.length) : Calls Try.prog 19 #[.slice A N c, .int .i64 n] w (UnpR (Wd.unpack l n) w) := by
  subst hN
  by_cases hout : n < 0 ∨ 4096 < n
  · have hr : Wd.unpack l n = ([], 1) := by unfold Wd.unpack; rw [if_pos hout]
    rw [hr]
    clear hr h hlen
    generalize l.length = N at *
    rcases hout with h | h
    · have q1 : decide (n < 0) = true := by simpa using h
      clear h
      go_enter Try.func19, Try.ntmps19
      go_wp2_with fail
      go_returns
      exact unpR_no rfl (Below.refl _ _)
    · have q1 : decide (n < 0) = false := by rw [decide_eq_false_iff_not]; omega
      have q2 : decide (4096 < n) = true := by simpa using h
      clear h
      go_enter Try.func19, Try.ntmps19
      go_wp2_with fail
      go_returns
      exact unpR_no rfl (Below.refl _ _)
  · obtain ⟨m, rfl⟩ : ∃ m : Nat, n = (m : Int) := ⟨n.toNat, by omega⟩
    exact runpw_good A c l h.lt hlen m (by omega) h.sl
end Go.Proofs.Ytnkgcibdibgmjaa
