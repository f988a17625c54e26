/- DepthTold, under what the program's functions are held to. -/
import Derived.Test.YthcppebfhjleiaaDepc
import Derived.Test.YthcppebfhjleiaaEqArr
namespace Go.Proofs.Ythcppebfhjleiaa
open Go.RowKit

set_option maxRecDepth 4000 in
set_option maxHeartbeats 8000000 in
theorem dtold_any (hK : KraftC) (hC : CostC) {F : List Int → List Int × Bool} (hL : LengthsC F) (hF : LensOk F) (w : World) (a b : Nat) (n : Int) (ha : a < 256) (hb : b < 256) :
    Calls Try.prog 5 #[.int .u8 (a : Int), .int .i64 n, .int .u8 (b : Int)] w fun e w' => e = .returned (.bool true) ∧ Below w.heap.size w w' := by
  have AW := Lib.hid (fun w => awake_any hK hC hL hF w)
  obtain ⟨t, N, ht, hN, hagg, hix, hund, hsz, hz0⟩ := t256
  have hi16 : (Try.prog.info? t).map (·.size) = some 256 := by rw [ht]; kernel_rfl
  obtain ⟨z0, hz⟩ : ∃ z0 : List Int, z0 = List.replicate 256 0 := ⟨_, rfl⟩
  have hz0l : z0.length = 256 := by rw [hz, List.length_replicate]
  obtain ⟨Z, hZ⟩ : ∃ Z, Z = ints z0 := ⟨_, rfl⟩
  rw [← hz, ← hZ] at hz0
  have hZs : Z.size = 256 := by rw [hZ, ints_size, hz0l]
  have heq : ∀ w, (Op.equalIn 10000 t (.agg Z) (.agg Z)).run Try.prog w = .ok true w := fun w => by rw [hZ, ht]; exact eq_arr z0 hz0l w
  have heg : ∀ (a b : Operand) (w : World), (eqGuard BinOp.eql t a b (.agg Z) (.agg Z)).run Try.prog w = .ok () w := by rw [ht]; intro a b w; kernel_rfl
  have store : ∀ (L : Array Value) (w1 : World), L.size = 256 → (∀ u ∈ L.toList, u.oneCell' = true) → (storeCells ⟨w1.heap.size, 0, none⟩ L.toList 0).run Try.prog (w1.alloc (.cells Z t)) = .ok () (w1.alloc (.cells L t)) := fun L w1 hLs hLo =>
    run_storeCells_new w1 t Z L (by rw [hi16, hLs]) (by rw [hLs, hZs]) (by rw [Array.all_eq_true_iff_forall_mem]; intro u hu; exact hLo u (by simpa using hu))
  have Hst := Lib.hid store
  have ixa := fun g w => hix .u8 a ha g w
  have ixb := fun g w => hix .u8 b hb g w
  have Hix := Lib.hid hix
  have HN := Lib.hid hN
  have HZ := Lib.hid hZ
  have Hz := Lib.hid hz
  have HF := Lib.hid hF
  have HL := Lib.hid hL
  have E1 : Op.alloc 24 = Op.alloc t := by rw [ht]
  have E2 : ∀ a b, Op.store 24 a b = Op.store t a b := by rw [ht]; exact fun _ _ => rfl
  have E3 : ∀ a b, Op.indexAddr 24 a b = Op.indexAddr t a b := by rw [ht]; exact fun _ _ => rfl
  have E4 : ∀ a, Op.load 24 a = Op.load t a := by rw [ht]; exact fun _ => rfl
  have E5 : ∀ a, Op.build 24 a = Op.build t a := by rw [ht]; exact fun _ => rfl
  have E6 : ∀ a b, Op.binOp .eql 24 a b 24 = Op.binOp .eql t a b t := by rw [ht]; exact fun _ _ => rfl
  clear ht hix hN hK hC hL hF store hi16 hZ hz
  go_enter Try.func5, Try.ntmps5
  simp only [E1, E2, E3, E4, E5]
  try simp only [E6]
  clear E1 E2 E3 E4 E5 E6
  go_wp2_with fail
  refine (AW.out _).mono ?_
  rintro e w1 ⟨rfl, hb1⟩
  obtain ⟨W0, hW0⟩ : ∃ W0, W0 = w1.alloc (.cells Z t) := ⟨_, rfl⟩
  have B0 : Blk W0 w1.heap.size t Z := by rw [hW0]; exact Blk.new _ _ _
  have bw0 : Below w.heap.size w W0 := by rw [hW0]; exact hb1.alloc hb1.size _
  have hgw : w.heap.size ≤ w1.heap.size := hb1.size
  have ca : W0.cell? ⟨w1.heap.size, a, none⟩ = some (.int .i64 (z0.getD a 0)) := by rw [B0.cell, HZ.out, ints_at (by omega)]
  have fa := B0.frozen a
  have B1 := B0.set_ a (.int .i64 n)
  obtain ⟨W1, hW1⟩ : ∃ W1, W1 = W0.setCell ⟨w1.heap.size, a, none⟩ (.int .i64 n) := ⟨_, rfl⟩
  obtain ⟨c1, hc1⟩ : ∃ c1 : List Int, c1 = z0.set a n := ⟨_, rfl⟩
  rw [← hW1, HZ.out, ints_set, ← hc1] at B1
  have hc1l : c1.length = 256 := by rw [hc1, List.length_set, hz0l]
  have bw1 : Below w.heap.size w W1 := by rw [hW1]; exact bw0.setCell hgw _
  have e0 : w1.alloc (.cells Z t) = W0 := hW0.symm
  have e1 : W0.setCell ⟨w1.heap.size, a, none⟩ (.int .i64 n) = W1 := hW1.symm
  have HB1 := Lib.hid B1
  have HW1 := Lib.hid bw1
  have Hc1 := Lib.hid hc1
  clear hW0 B0 bw0 hb1 hW1 B1 bw1 hc1 AW
  generalize z0.getD a 0 = za at *
  generalize hg : w1.heap.size = g at *
  by_cases hab : b = a
  · have q1 : ((b : Int) != (a : Int)) = false := by simp; omega
    have q1' : (b != a) = false := by simp; omega
    obtain ⟨Wc, hWc⟩ : ∃ Wc, Wc = W1 := ⟨_, rfl⟩
    obtain ⟨c, hc⟩ : ∃ c, c = c1 := ⟨_, rfl⟩
    rw [← hc] at HB1 hc1l
    have hcl : c.length = 256 := hc1l
    rw [← hWc] at HB1 HW1 e1
    have HBc := Lib.hid HB1.out
    have HWc := Lib.hid HW1.out
    clear hab hWc hc HB1 HW1 Hc1 hc1l
    go_wp2_with fail
    go_loop [8, 9] (fun f i => ∃ k : Nat, k ≤ 256 ∧ i = .int .i64 k ∧ f = .bool (!(c.take k).any cbad)) (fun _ i => 256 - (intOf i).toNat)
    case atStart => exact ⟨0, by decide, rfl, rfl⟩
    case round =>
      obtain ⟨k, hk, rfl, rfl⟩ := hrel
      by_cases hlt : k < 256
      · have q0 : decide ((k : Int) < 256) = true := by rw [decide_eq_true_eq]; omega
        have q0' : decide (k < 256) = true := by rw [decide_eq_true_eq]; omega
        have cx : Wc.cell? ⟨g, k, none⟩ = some (.int .i64 (c.getD k 0)) := by rw [HBc.out.cell, ints_at (by omega)]
        have ix := Hix.out .i64 k hlt g
        have hn := cbad_next (l := c) (i := k) (by omega)
        generalize c.getD k 0 = x at *
        generalize (c.take k).any cbad = v at *
        have Hn := Lib.hid hn
        clear hn
        cases v
        · by_cases h0 : 0 ≤ x
          · have p1 : decide (0 ≤ x) = true := by simpa using h0
            obtain ⟨y, hy⟩ : ∃ y, decide (x ≤ 1048576) = y := ⟨_, rfl⟩
            have hcb : cbad x = !y := by
              rw [← hy]; unfold cbad
              cases h1 : decide (x ≤ 1048576)
              · have : 1048576 < x := by rw [decide_eq_false_iff_not] at h1; omega
                simp [this]
              · have : ¬ 1048576 < x := by rw [decide_eq_true_eq] at h1; omega
                have h0' : ¬ x < 0 := by omega
                simp [this, h0']
            have Hn2 := Lib.hid (show (c.take (k + 1)).any cbad = !y by rw [Hn.out, hcb]; rfl)
            clear h0 hcb Hn
            go_wp2_with fail
            go_round
            case rel => exact ⟨k + 1, by omega, by go_num, by rw [Hn2.out]; simp⟩
            case measure => simp [intOf]; omega
          · have p1 : decide (0 ≤ x) = false := by simpa using h0
            have hcb : cbad x = true := by
              unfold cbad
              have : x < 0 := by omega
              simp [this]
            have Hn2 := Lib.hid (show (c.take (k + 1)).any cbad = true by rw [Hn.out, hcb]; rfl)
            clear h0 hcb Hn
            go_wp2_with fail
            go_round
            case rel => exact ⟨k + 1, by omega, by go_num, by rw [Hn2.out]; rfl⟩
            case measure => simp [intOf]; omega
        · have Hn2 := Lib.hid (show (c.take (k + 1)).any cbad = true by rw [Hn.out]; rfl)
          clear Hn
          go_wp2_with fail
          go_round
          case rel => exact ⟨k + 1, by omega, by go_num, by rw [Hn2.out]; rfl⟩
          case measure => simp [intOf]; omega
      · have hk6 : k = 256 := by omega
        subst hk6
        have hta : c.take 256 = c := List.take_of_length_le (by omega)
        rw [hta]
        have ld := load_blk (N := N) (by rw [ints_size, hcl, HN.out]) HBc.out
        obtain ⟨C, hC⟩ : ∃ C, C = ints c := ⟨_, rfl⟩
        have N1 := Lib.hid (HL.out Wc c hcl)
        rw [← hC] at ld N1
        clear hC hta
        have hll := HF.out.len c hcl
        obtain ⟨L, hLd⟩ : ∃ L, L = ints (F c).1 := ⟨_, rfl⟩
        have hLs : L.size = 256 := by rw [hLd, ints_size, hll]
        have hLo : ∀ u ∈ L.toList, u.oneCell' = true := by
          intro u hu
          have := ints_one (F c).1
          rw [Array.all_eq_true_iff_forall_mem, ← hLd] at this
          exact this u (by simpa using hu)
        have St := Lib.hid (fun w1 => Hst.out L w1 hLs hLo)
        have HLs := Lib.hid (show L.size = N by rw [hLs, HN.out])
        rw [← hLd] at N1
        cases hbad : c.any cbad
        · have hok := HF.out.ok c hcl hbad
          rw [hok] at N1
          clear hLd hLs hLo hll hbad hok
          go_wp2_with fail
          refine N1.out.mono ?_
          rintro e w3 ⟨rfl, hb3⟩
          have HW3 := Lib.hid (HWc.out.trans (hb3.mono HWc.out.size))
          have st3 := St.out w3
          clear hb3 N1 ld
          go_wp2_with fail
          go_ret
          exact ⟨rfl, HW3.out.alloc HW3.out.size _⟩
        · have hF0 := HF.out.bad c hcl hbad
          have hLZ : L = Z := by rw [hLd, hF0, HZ.out, Hz.out]
          rw [hF0] at N1
          clear hLd hLs hLo hll hbad hF0
          subst hLZ
          go_wp2_with fail
          refine N1.out.mono ?_
          rintro e w3 ⟨rfl, hb3⟩
          have HW3 := Lib.hid (HWc.out.trans (hb3.mono HWc.out.size))
          have st3 := St.out w3
          obtain ⟨W4, hW4⟩ : ∃ W4, W4 = w3.alloc (.cells L t) := ⟨_, rfl⟩
          have b4 : Blk W4 w3.heap.size t L := by rw [hW4]; exact Blk.new _ _ _
          have ld4 := load_blk (N := N) HLs.out b4
          have HW4 := Lib.hid (show Below w.heap.size w W4 by rw [hW4]; exact HW3.out.alloc HW3.out.size _)
          have e4 : w3.alloc (.cells L t) = W4 := hW4.symm
          rw [e4] at st3
          have hsN := HLs.out
          clear hb3 N1 ld hW4 b4
          go_wp2_with fail
          go_ret
          exact ⟨rfl, HW4.out⟩
  · have q1 : ((b : Int) != (a : Int)) = true := by simp; omega
    have q1' : (b != a) = true := by simp; omega
    have cb : W1.cell? ⟨g, b, none⟩ = some (.int .i64 (c1.getD b 0)) := by rw [HB1.out.cell, ints_at (by omega)]
    have fb := HB1.out.frozen b
    have B2 := HB1.out.set_ b (.int .i64 1)
    obtain ⟨Wc, hWc⟩ : ∃ Wc, Wc = W1.setCell ⟨g, b, none⟩ (.int .i64 1) := ⟨_, rfl⟩
    obtain ⟨c, hc⟩ : ∃ c, c = c1.set b 1 := ⟨_, rfl⟩
    rw [← hWc, ints_set, ← hc] at B2
    have hcl : c.length = 256 := by rw [hc, List.length_set, hc1l]
    have HBc := Lib.hid B2
    have HWc := Lib.hid (show Below w.heap.size w Wc by rw [hWc]; exact HW1.out.setCell hgw _)
    have e2 : W1.setCell ⟨g, b, none⟩ (.int .i64 1) = Wc := hWc.symm
    clear hab hWc hc HB1 HW1 Hc1 hc1l B2
    generalize c1.getD b 0 = zb at *
    go_wp2_with fail
    go_loop [8, 9] (fun f i => ∃ k : Nat, k ≤ 256 ∧ i = .int .i64 k ∧ f = .bool (!(c.take k).any cbad)) (fun _ i => 256 - (intOf i).toNat)
    case atStart => exact ⟨0, by decide, rfl, rfl⟩
    case round =>
      obtain ⟨k, hk, rfl, rfl⟩ := hrel
      by_cases hlt : k < 256
      · have q0 : decide ((k : Int) < 256) = true := by rw [decide_eq_true_eq]; omega
        have q0' : decide (k < 256) = true := by rw [decide_eq_true_eq]; omega
        have cx : Wc.cell? ⟨g, k, none⟩ = some (.int .i64 (c.getD k 0)) := by rw [HBc.out.cell, ints_at (by omega)]
        have ix := Hix.out .i64 k hlt g
        have hn := cbad_next (l := c) (i := k) (by omega)
        generalize c.getD k 0 = x at *
        generalize (c.take k).any cbad = v at *
        have Hn := Lib.hid hn
        clear hn
        cases v
        · by_cases h0 : 0 ≤ x
          · have p1 : decide (0 ≤ x) = true := by simpa using h0
            obtain ⟨y, hy⟩ : ∃ y, decide (x ≤ 1048576) = y := ⟨_, rfl⟩
            have hcb : cbad x = !y := by
              rw [← hy]; unfold cbad
              cases h1 : decide (x ≤ 1048576)
              · have : 1048576 < x := by rw [decide_eq_false_iff_not] at h1; omega
                simp [this]
              · have : ¬ 1048576 < x := by rw [decide_eq_true_eq] at h1; omega
                have h0' : ¬ x < 0 := by omega
                simp [this, h0']
            have Hn2 := Lib.hid (show (c.take (k + 1)).any cbad = !y by rw [Hn.out, hcb]; rfl)
            clear h0 hcb Hn
            go_wp2_with fail
            go_round
            case rel => exact ⟨k + 1, by omega, by go_num, by rw [Hn2.out]; simp⟩
            case measure => simp [intOf]; omega
          · have p1 : decide (0 ≤ x) = false := by simpa using h0
            have hcb : cbad x = true := by
              unfold cbad
              have : x < 0 := by omega
              simp [this]
            have Hn2 := Lib.hid (show (c.take (k + 1)).any cbad = true by rw [Hn.out, hcb]; rfl)
            clear h0 hcb Hn
            go_wp2_with fail
            go_round
            case rel => exact ⟨k + 1, by omega, by go_num, by rw [Hn2.out]; rfl⟩
            case measure => simp [intOf]; omega
        · have Hn2 := Lib.hid (show (c.take (k + 1)).any cbad = true by rw [Hn.out]; rfl)
          clear Hn
          go_wp2_with fail
          go_round
          case rel => exact ⟨k + 1, by omega, by go_num, by rw [Hn2.out]; rfl⟩
          case measure => simp [intOf]; omega
      · have hk6 : k = 256 := by omega
        subst hk6
        have hta : c.take 256 = c := List.take_of_length_le (by omega)
        rw [hta]
        have ld := load_blk (N := N) (by rw [ints_size, hcl, HN.out]) HBc.out
        obtain ⟨C, hC⟩ : ∃ C, C = ints c := ⟨_, rfl⟩
        have N1 := Lib.hid (HL.out Wc c hcl)
        rw [← hC] at ld N1
        clear hC hta
        have hll := HF.out.len c hcl
        obtain ⟨L, hLd⟩ : ∃ L, L = ints (F c).1 := ⟨_, rfl⟩
        have hLs : L.size = 256 := by rw [hLd, ints_size, hll]
        have hLo : ∀ u ∈ L.toList, u.oneCell' = true := by
          intro u hu
          have := ints_one (F c).1
          rw [Array.all_eq_true_iff_forall_mem, ← hLd] at this
          exact this u (by simpa using hu)
        have St := Lib.hid (fun w1 => Hst.out L w1 hLs hLo)
        have HLs := Lib.hid (show L.size = N by rw [hLs, HN.out])
        rw [← hLd] at N1
        cases hbad : c.any cbad
        · have hok := HF.out.ok c hcl hbad
          rw [hok] at N1
          clear hLd hLs hLo hll hbad hok
          go_wp2_with fail
          refine N1.out.mono ?_
          rintro e w3 ⟨rfl, hb3⟩
          have HW3 := Lib.hid (HWc.out.trans (hb3.mono HWc.out.size))
          have st3 := St.out w3
          clear hb3 N1 ld
          go_wp2_with fail
          go_ret
          exact ⟨rfl, HW3.out.alloc HW3.out.size _⟩
        · have hF0 := HF.out.bad c hcl hbad
          have hLZ : L = Z := by rw [hLd, hF0, HZ.out, Hz.out]
          rw [hF0] at N1
          clear hLd hLs hLo hll hbad hF0
          subst hLZ
          go_wp2_with fail
          refine N1.out.mono ?_
          rintro e w3 ⟨rfl, hb3⟩
          have HW3 := Lib.hid (HWc.out.trans (hb3.mono HWc.out.size))
          have st3 := St.out w3
          obtain ⟨W4, hW4⟩ : ∃ W4, W4 = w3.alloc (.cells L t) := ⟨_, rfl⟩
          have b4 : Blk W4 w3.heap.size t L := by rw [hW4]; exact Blk.new _ _ _
          have ld4 := load_blk (N := N) HLs.out b4
          have HW4 := Lib.hid (show Below w.heap.size w W4 by rw [hW4]; exact HW3.out.alloc HW3.out.size _)
          have e4 : w3.alloc (.cells L t) = W4 := hW4.symm
          rw [e4] at st3
          have hsN := HLs.out
          clear hb3 N1 ld hW4 b4
          go_wp2_with fail
          go_ret
          exact ⟨rfl, HW4.out⟩
end Go.Proofs.Ythcppebfhjleiaa
