/- DepthSame, under what the program's functions are held to. -/
import Derived.Test.YthcppebfhjleiaaDkn
import Derived.Test.YthcppebfhjleiaaEqArr
import Derived.RegionTactic
namespace Go.Proofs.Ythcppebfhjleiaa
open Go.RowKit

/-- k counts that are all alike. -/
def cSame (v : Int) : Nat → List Int
  | 0 => List.replicate 256 0
  | k + 1 => (cSame v k).set k v
theorem cSame_len (v : Int) : ∀ k, (cSame v k).length = 256
  | 0 => List.length_replicate
  | k + 1 => by rw [cSame, List.length_set]; exact cSame_len v k
theorem cSame_at (v : Int) {i : Nat} (hi : i < 256) : ∀ k, (cSame v k).getD i 0 = if i < k then v else 0
  | 0 => by
    unfold cSame
    rw [List.getD_eq_getElem?_getD, List.getElem?_replicate, if_pos hi, if_neg (by omega)]; rfl
  | k + 1 => by
    have ih := cSame_at v hi k
    rw [List.getD_eq_getElem?_getD] at ih
    unfold cSame
    rw [List.getD_eq_getElem?_getD, List.getElem?_set]
    by_cases h : k = i
    · subst h
      rw [if_pos rfl, if_pos (by rw [cSame_len]; exact hi), if_pos (by omega)]; rfl
    · rw [if_neg h, ih]
      by_cases h2 : i < k
      · rw [if_pos h2, if_pos (by omega)]
      · rw [if_neg h2, if_neg (by omega)]
theorem cSame_ok {v : Int} (h0 : 0 ≤ v) (h1 : v ≤ 1048576) (k : Nat) : (cSame v k).any cbad = false := by
  rw [List.any_eq_false]
  intro x hx
  obtain ⟨i, hi, rfl⟩ := List.mem_iff_getElem.1 hx
  rw [cSame_len] at hi
  have := cSame_at v hi k
  rw [List.getD_eq_getElem?_getD, List.getElem?_eq_getElem (by rw [cSame_len]; exact hi), Option.getD_some] at this
  rw [this]
  unfold cbad
  split <;> simp <;> omega
theorem cSame_usedK {v : Int} (h0 : 0 < v) (k : Nat) : ∀ j, j ≤ 256 → usedK (cSame v k) j = min j k
  | 0, _ => by simp [usedK]
  | j + 1, hj => by
    rw [usedK_next (by rw [cSame_len]; omega), cSame_usedK h0 k j (by omega), cSame_at v (by omega)]
    by_cases h : j < k
    · rw [if_pos h, if_pos h0]; omega
    · rw [if_neg h, if_neg (by decide)]; omega
theorem cSame_used {v : Int} (h0 : 0 < v) {k : Nat} (hk : k ≤ 256) : used (cSame v k) = k := by
  rw [← usedK_all (cSame_len v k), cSame_usedK h0 k 256 (Nat.le_refl _)]; omega
section
variable {F : List Int → List Int × Bool}
theorem same_len (hF : LensOk F) {v : Int} (h0 : 0 < v) (h1 : v ≤ 1048576) {k : Nat} {i : Nat} (hi : i < k) (hk : k ≤ 256) : 1 ≤ (F (cSame v k)).1.getD i 0 ∧ (F (cSame v k)).1.getD i 0 ≤ 11 := by
  have hp := hF.pos (cSame v k) (cSame_len v k) (cSame_ok (by omega) h1 k) i (by omega)
  have hr := hF.rng (cSame v k) (cSame_len v k) (cSame_ok (by omega) h1 k) i (by omega)
  rw [cSame_at v (by omega), if_pos hi] at hp
  have := hp.2 h0
  omega
theorem same_sum (hF : LensOk F) {v : Int} (h0 : 0 < v) (h1 : v ≤ 1048576) {k : Nat} (hk : k ≤ 256) : ∀ j, j ≤ 256 → v * (min j k : Nat) ≤ sumN (fun i => (cSame v k).getD i 0 * (F (cSame v k)).1.getD i 0) j
  | 0, _ => by simp [sumN]
  | j + 1, hj => by
    have ih := same_sum hF h0 h1 hk j (by omega)
    rw [sumN, cSame_at v (by omega)]
    by_cases h : j < k
    · have hl := (same_len hF h0 h1 h hk).1
      rw [if_pos h]
      have e : (min (j + 1) k : Nat) = (min j k : Nat) + 1 := by omega
      have hm : v * 1 ≤ v * (F (cSame v k)).1.getD j 0 := Int.mul_le_mul_of_nonneg_left hl (by omega)
      rw [e, Int.natCast_add, Int.mul_add]
      have : v * ((1 : Nat) : Int) = v * 1 := rfl
      omega
    · rw [if_neg h, Int.zero_mul, Int.add_zero]
      have e : (min (j + 1) k : Nat) = (min j k : Nat) := by omega
      rw [e]; exact ih
theorem same_cost (hF : LensOk F) {v : Int} (h0 : 0 < v) (h1 : v ≤ 1048576) {k : Nat} (hk : k ≤ 256) : v * (k : Int) ≤ costV (cSame v k) (F (cSame v k)).1 := by
  have hok := cSame_ok (v := v) (by omega) h1 k
  have hkv := lens_kraft hF (cSame_len v k) hok
  have hcost : costV (cSame v k) (F (cSame v k)).1 = csum (cSame v k) (F (cSame v k)).1 256 := by unfold costV; rw [hkv, if_pos ⟨rfl, hok⟩]
  rw [hcost, csum_sumN (cSame_len v k) hok 256 (Nat.le_refl _)]
  have := same_sum hF h0 h1 hk 256 (Nat.le_refl _)
  rw [show (min 256 k : Nat) = k by omega] at this
  exact this
theorem zero_len (hF : LensOk F) : (F (List.replicate 256 0)) = (List.replicate 256 0, true) := by
  have hok : (List.replicate 256 (0 : Int)).any cbad = false := by decide +kernel
  have hl := hF.len (List.replicate 256 0) List.length_replicate
  have h2 := hF.ok (List.replicate 256 0) List.length_replicate hok
  have h1 : (F (List.replicate 256 0)).1 = List.replicate 256 0 := by
    rw [List.eq_replicate_iff]
    refine ⟨hl, fun x hx => ?_⟩
    obtain ⟨i, hi, rfl⟩ := List.mem_iff_getElem.1 hx
    rw [hl] at hi
    have hz := lens_zero hF List.length_replicate hok hi (by rw [List.getD_eq_getElem?_getD, List.getElem?_replicate, if_pos hi]; rfl)
    rw [List.getD_eq_getElem?_getD, List.getElem?_eq_getElem (by rw [hl]; exact hi), Option.getD_some] at hz
    exact hz
  exact Prod.ext h1 h2
end
theorem drewN_drew (w : World) (m : Nat) : (w.drewN m).drew = w.drewN (m + 1) := rfl

set_option maxRecDepth 8000 in
set_option maxHeartbeats 8000000 in
theorem dsame_any (hK : KraftC) (hC : CostC) {F : List Int → List Int × Bool} (hL : LengthsC F) (hF : LensOk F) (w : World) (n u : Nat) (hn : n < 256) (hu : u < 65536) :
    Calls Try.prog 6 #[.int .u8 (n : Int), .int .u16 (u : Int)] w fun e w' => e = .returned (.bool true) ∧ Below w.heap.size w w' := by
  have AW := Lib.hid (fun w => awake_any hK hC hL hF w)
  obtain ⟨t, N, ht, hN, hagg, hix, hund, hsz, hz0⟩ := t256
  have hi16 : (Try.prog.info? t).map (·.size) = some 256 := by rw [ht]; kernel_rfl
  obtain ⟨k, hk⟩ : ∃ k : Nat, (1 : Int) + (n : Int) = (k : Int) := ⟨1 + n, by omega⟩
  obtain ⟨v, hv⟩ : ∃ v : Nat, (1 : Int) + (u : Int) = (v : Int) := ⟨1 + u, by omega⟩
  have hk1 : 1 ≤ k := by omega
  have hk2 : k ≤ 256 := by omega
  have hv1 : 0 < (v : Int) := by omega
  have hv2 : (v : Int) ≤ 1048576 := by omega
  have hvb : v ≤ 65536 := by omega
  obtain ⟨z0, hz⟩ : ∃ z0 : List Int, z0 = List.replicate 256 0 := ⟨_, rfl⟩
  obtain ⟨Z, hZ⟩ : ∃ Z, Z = ints z0 := ⟨_, rfl⟩
  rw [← hz, ← hZ] at hz0
  have hZs : Z.size = 256 := by rw [hZ, ints_size, hz, List.length_replicate]
  have heq : ∀ (l : List Int), l.length = 256 → ∀ w, (Op.equalIn 10000 t (.agg (ints l)) (.agg (ints l))).run Try.prog w = .ok true w := fun l hl w => by rw [ht]; exact eq_arr l hl w
  have store : ∀ (l : List Int) (w1 : World), l.length = 256 → (storeCells ⟨w1.heap.size, 0, none⟩ (ints l).toList 0).run Try.prog (w1.alloc (.cells Z t)) = .ok () (w1.alloc (.cells (ints l) t)) := fun l w1 hl =>
    run_storeCells_new w1 t Z (ints l) (by rw [hi16, ints_size, hl]) (by rw [hZs, ints_size, hl]) (ints_one l)
  have hcl := cSame_len (v : Int) k
  have hok := cSame_ok (v := (v : Int)) (by omega) hv2 k
  have hlen := hF.len (cSame v k) hcl
  have LT := Lib.hid (fun W => hL W (cSame v k) hcl)
  rw [hF.ok _ hcl hok] at LT
  have LZ := Lib.hid (fun W => hL W z0 (by rw [hz, List.length_replicate]))
  have hzl := zero_len hF
  rw [← hz] at hzl
  rw [hzl] at LZ
  have hkv := lens_kraft hF hcl hok
  have hcost := same_cost hF hv1 hv2 hk2
  have hrg := fun i (hi : i < k) => same_len hF hv1 hv2 hi hk2
  have hks1 : k = 1 → ksum (F (cSame v k)).1 = 1024 := fun h => hF.one _ hcl hok (by rw [cSame_used hv1 hk2]; exact h)
  have hks2 : 2 ≤ k → ksum (F (cSame v k)).1 = 2048 := fun h => hF.full _ hcl hok (by rw [cSame_used hv1 hk2]; exact h)
  have KT := Lib.hid (fun W => hK W (F (cSame v k)).1 hlen)
  rw [hkv] at KT
  have CT := Lib.hid (fun W => hC W (cSame v k) (F (cSame v k)).1 hcl hlen)
  obtain ⟨cc, hcc⟩ : ∃ c, c = cSame v k := ⟨_, rfl⟩
  rw [← hcc] at LT KT CT hcost hrg hks1 hks2 hcl hlen hkv
  obtain ⟨l, hl⟩ : ∃ l, l = (F cc).1 := ⟨_, rfl⟩
  rw [← hl] at LT KT CT hcost hrg hks1 hks2 hlen
  have hks : ksum l ≤ 524288 := by have := ksum_le l; omega
  have SL := Lib.hid (fun W => store l W hlen)
  have SZ := Lib.hid (fun W => store z0 W (by rw [hz, List.length_replicate]))
  have hLs : (ints l).size = N := by rw [ints_size, hlen, hN]
  have hCs : (ints cc).size = N := by rw [ints_size, hcl, hN]
  have heqL := heq l hlen
  have heqZ := heq z0 (by rw [hz, List.length_replicate])
  obtain ⟨XC, hXC⟩ : ∃ X, X = ints cc := ⟨_, rfl⟩
  obtain ⟨XL, hXL⟩ : ∃ X, X = ints l := ⟨_, rfl⟩
  rw [← hXC] at LT CT hCs
  rw [← hXL] at LT KT CT SL hLs heqL
  rw [← hZ] at LZ SZ heqZ
  have heg : ∀ (a b : Operand) (X Y : Array Value) (w : World), (eqGuard BinOp.eql t a b (.agg X) (.agg Y)).run Try.prog w = .ok () w := by rw [ht]; intro a b X Y w; rfl
  have HXL := Lib.hid hXL
  have HXC := Lib.hid (show ints (cSame v k) = XC by rw [hXC, hcc])
  have HZ := Lib.hid (show ints (cSame v 0) = Z by rw [hZ, hz]; rfl)
  have Hrg := Lib.hid hrg
  have Hks1 := Lib.hid hks1
  have Hks2 := Lib.hid hks2
  have Hix := Lib.hid hix
  have HlN := Lib.hid hlen
  have hZN : Z.size = N := by rw [hZs, hN]
  obtain ⟨V, hV⟩ : ∃ V, V = costV cc l := ⟨_, rfl⟩
  rw [← hV] at CT hcost
  have hmul : (v : Int) * (k : Int) = ((v * k : Nat) : Int) := by simp
  have hmb : v * k ≤ 65536 * 256 := Nat.mul_le_mul hvb hk2
  obtain ⟨P, hP⟩ : ∃ P : Nat, P = v * k := ⟨_, rfl⟩
  rw [← hP] at hmul hmb
  rw [hmul] at hcost
  have pV : decide ((P : Int) ≤ V) = true := by rw [decide_eq_true_eq]; exact hcost
  have E1 : Op.alloc 24 = Op.alloc t := by rw [ht]
  have E2 : ∀ a b, Op.store 24 a b = Op.store t a b := by rw [ht]; exact fun _ _ => rfl
  have E3 : ∀ a b, Op.indexAddr 24 a b = Op.indexAddr t a b := by rw [ht]; exact fun _ _ => rfl
  have E4 : ∀ a, Op.load 24 a = Op.load t a := by rw [ht]; exact fun _ => rfl
  have E5 : ∀ a, Op.build 24 a = Op.build t a := by rw [ht]; exact fun _ => rfl
  have E6 : ∀ a b, Op.binOp .eql 24 a b 24 = Op.binOp .eql t a b t := by rw [ht]; exact fun _ _ => rfl
  clear ht hix hN hK hC hL hF store hi16 hZ hXC hXL heq hz hzl hkv hrg hks1 hks2 hok hcc hl hV hP hcost
  go_enter Try.func6, Try.ntmps6
  simp only [E1, E2, E3, E4, E5, E6]
  clear E1 E2 E3 E4 E5 E6
  go_wp2_with fail
  refine (AW.out _).mono ?_
  rintro e w1 ⟨rfl, hb1⟩
  have HB1 := Lib.hid hb1
  have hgw : w.heap.size ≤ w1.heap.size := hb1.size
  clear hb1 AW
  go_wp2_with fail
  go_loopw [7] (fun i wr => ∃ j : Nat, j ≤ k ∧ i = .int .i64 j ∧ Blk wr w1.heap.size t (ints (cSame v j)) ∧ Below w.heap.size w wr) (fun i _ => k - (intOf i).toNat)
  case atStart => exact ⟨0, Nat.zero_le _, rfl, by rw [HZ.out]; exact Blk.new _ _ _, HB1.out.alloc HB1.out.size _⟩
  case round =>
    obtain ⟨j, hj, rfl, hb, hbl⟩ := hrel
    by_cases hlt : j < k
    · have p0 : decide ((j : Int) < (k : Int)) = true := by rw [decide_eq_true_eq]; omega
      have p0' : decide (j < k) = true := by rw [decide_eq_true_eq]; omega
      have ixj := Hix.out .i64 j (by omega) w1.heap.size
      have cj : wr.cell? ⟨w1.heap.size, j, none⟩ = some (.int .i64 ((cSame v j).getD j 0)) := by rw [hb.cell, ints_at (by rw [cSame_len]; omega)]
      have fj := hb.frozen j
      have hst := hb.set_ j (.int .i64 (v : Int))
      rw [ints_set, show (cSame v j).set j (v : Int) = cSame v (j + 1) from rfl] at hst
      have Hst := Lib.hid hst
      have Hbl := Lib.hid (hbl.setCell (p := ⟨w1.heap.size, j, none⟩) hgw (.int .i64 (v : Int)))
      clear hb hbl hst
      generalize (cSame v j).getD j 0 = dj at *
      go_wp2_with fail
      go_roundw
      case rel => exact ⟨j + 1, by omega, by go_num, Hst.out, Hbl.out⟩
      case measure => simp [intOf]; omega
    have hjk : k = j := by omega
    subst hjk
    have p0 : decide ((k : Int) < (k : Int)) = false := by simp
    have p0' : decide (k < k) = false := by simp
    rw [HXC.out] at hb
    have B1 := Lib.hid hb
    have HB := Lib.hid hbl
    have ld := load_blk (N := N) hCs hb
    clear hb hbl hlt hj HB1
    generalize hg0 : w1.heap.size = g0 at *
    go_wp2_with fail
    refine (LT.out wr).mono ?_
    rintro e v1 ⟨rfl, hv⟩
    have st1 := SL.out v1
    obtain ⟨V1, hV1⟩ : ∃ V, V = v1.alloc (.cells XL t) := ⟨_, rfl⟩
    have ev1 : v1.alloc (.cells XL t) = V1 := hV1.symm
    have nb : Blk V1 v1.heap.size t XL := by rw [hV1]; exact Blk.new _ _ _
    have B1' := Lib.hid (show Blk V1 g0 t XC by
      have h := B1.out.keep (hv.block _ B1.out.lt)
      rw [hV1]; exact h.alloc _)
    have HB' := Lib.hid (show Below w.heap.size w V1 by
      have h := HB.out.trans (hv.mono HB.out.size)
      rw [hV1]; exact h.alloc h.size _)
    generalize hg1 : v1.heap.size = g1 at *
    have N1 := Lib.hid nb
    clear nb hv hV1 HB ld B1
    have B1 := Lib.hid B1'.out
    have HB := Lib.hid HB'.out
    clear HB' B1'
    have ld := load_blk (N := N) hCs B1.out
    go_wp2_with fail
    refine (LT.out V1).mono ?_
    rintro e v2 ⟨rfl, hv⟩
    have st2 := SL.out v2
    obtain ⟨V2, hV2⟩ : ∃ V, V = v2.alloc (.cells XL t) := ⟨_, rfl⟩
    have ev2 : v2.alloc (.cells XL t) = V2 := hV2.symm
    have nb : Blk V2 v2.heap.size t XL := by rw [hV2]; exact Blk.new _ _ _
    have B1' := Lib.hid (show Blk V2 g0 t XC by
      have h := B1.out.keep (hv.block _ B1.out.lt)
      rw [hV2]; exact h.alloc _)
    have N1' := Lib.hid (show Blk V2 g1 t XL by
      have h := N1.out.keep (hv.block _ N1.out.lt)
      rw [hV2]; exact h.alloc _)
    have HB' := Lib.hid (show Below w.heap.size w V2 by
      have h := HB.out.trans (hv.mono HB.out.size)
      rw [hV2]; exact h.alloc h.size _)
    generalize hg2 : v2.heap.size = g2 at *
    have N2 := Lib.hid nb
    clear nb hv hV2 HB ld B1 N1
    have B1 := Lib.hid B1'.out
    have N1 := Lib.hid N1'.out
    have HB := Lib.hid HB'.out
    clear HB' B1' N1'
    have C3 := Lib.hid (fun i (hi : i < 256) => show V2.cell? ⟨g1, i, none⟩ = some (.int .i64 (l.getD i 0)) by rw [N1.out.cell, HXL.out, ints_at (by rw [HlN.out]; exact hi)])
    go_wp2_with fail
    go_loopw [12, 13, 14] (fun lo hi i wr => ∃ (j m : Nat) (a b : Int), j ≤ k ∧ i = .int .i64 j ∧ lo = .int .i64 a ∧ hi = .int .i64 b ∧ 1 ≤ a ∧ a ≤ 99 ∧ 0 ≤ b ∧ b ≤ 11 ∧ wr = V2.drewN m) (fun _ _ i _ => k - (intOf i).toNat)
    case atStart => exact ⟨0, 0, 99, 0, Nat.zero_le _, rfl, rfl, rfl, by decide, by decide, by decide, by decide, rfl⟩
    case round =>
      obtain ⟨j, m, a, b, hj, rfl, rfl, rfl, ha1, ha2, hb1, hb2, rfl⟩ := hrel
      by_cases hlt : j < k
      · have p1 : decide ((j : Int) < (k : Int)) = true := by rw [decide_eq_true_eq]; omega
        have p1' : decide (j < k) = true := by rw [decide_eq_true_eq]; omega
        have ixj := Hix.out .i64 j (by omega) g1
        have cx := C3.out j (by omega)
        have hr := Hrg.out j hlt
        generalize l.getD j 0 = x at *
        obtain ⟨mn, hmn⟩ : ∃ mn, mn = if x < a then x else a := ⟨_, rfl⟩
        obtain ⟨mx, hmx⟩ : ∃ mx, mx = if b < x then x else b := ⟨_, rfl⟩
        have hmin : ∀ (ts : Array TypeId) (t : TypeId) (W : World), (Builtin.min_ ts t #[.int .i64 a, .int .i64 x]).run Try.prog W = .ok (.int .i64 mn) W := fun ts t W => by rw [run_min_int2, hmn]
        have hmax : ∀ (ts : Array TypeId) (t : TypeId) (W : World), (Builtin.max_ ts t #[.int .i64 b, .int .i64 x]).run Try.prog W = .ok (.int .i64 mx) W := fun ts t W => by rw [run_max_int2, hmx]
        have Hmb := Lib.hid (show 1 ≤ mn ∧ mn ≤ 99 ∧ 0 ≤ mx ∧ mx ≤ 11 by
          rw [hmn, hmx]
          refine ⟨?_, ?_, ?_, ?_⟩ <;> split <;> omega)
        clear hmn hmx hr ha1 ha2 hb1 hb2
        go_wp2_with fail
        go_region
        go_wp2_with fail
        go_roundw
        case rel => exact ⟨j + 1, m + 1, mn, mx, by omega, by go_num, rfl, rfl, Hmb.out.1, Hmb.out.2.1, Hmb.out.2.2.1, Hmb.out.2.2.2, rfl⟩
        case measure => simp [intOf]; omega
      have hjk : k = j := by omega
      subst hjk
      have p1 : decide ((k : Int) < (k : Int)) = false := by simp
      have p1' : decide (k < k) = false := by simp
      have pa : decide (1 ≤ a) = true := by rw [decide_eq_true_eq]; exact ha1
      have pb : decide (b ≤ 11) = true := by rw [decide_eq_true_eq]; exact hb2
      have hbd : Below V2.heap.size V2 (V2.drewN m) := drewN_below m
      have B1' := Lib.hid (B1.out.keep (hbd.block _ B1.out.lt))
      have N1' := Lib.hid (N1.out.keep (hbd.block _ N1.out.lt))
      have N2' := Lib.hid (N2.out.keep (hbd.block _ N2.out.lt))
      have HB' := Lib.hid (HB.out.trans (hbd.mono HB.out.size))
      clear C3 hbd B1 N1 N2 HB hlt hj
      generalize V2.drewN m = W3 at *
      have ld := load_blk (N := N) hLs N1'.out
      go_wp2_with fail
      refine (KT.out W3).mono ?_
      rintro e v4 ⟨rfl, hv4⟩
      have B1 := Lib.hid (B1'.out.keep (hv4.block _ B1'.out.lt))
      have N1 := Lib.hid (N1'.out.keep (hv4.block _ N1'.out.lt))
      have N2 := Lib.hid (N2'.out.keep (hv4.block _ N2'.out.lt))
      have HB := Lib.hid (HB'.out.trans (hv4.mono HB'.out.size))
      clear hv4 B1' N1' N2' HB' ld
      have LZ4 := Lib.hid (LZ.out v4)
      go_wp2_with fail
      refine LZ4.out.mono ?_
      rintro e v5 ⟨rfl, hv5⟩
      obtain ⟨V5, hV5⟩ : ∃ V, V = v5.alloc (.cells Z t) := ⟨_, rfl⟩
      have ev5 : v5.alloc (.cells Z t) = V5 := hV5.symm
      have st5 := SZ.out v5
      rw [ev5] at st5
      have b1 : Blk V5 g0 t XC := by rw [hV5]; exact (B1.out.keep (hv5.block _ B1.out.lt)).alloc _
      have b2 : Blk V5 g1 t XL := by rw [hV5]; exact (N1.out.keep (hv5.block _ N1.out.lt)).alloc _
      have b3 : Blk V5 g2 t XL := by rw [hV5]; exact (N2.out.keep (hv5.block _ N2.out.lt)).alloc _
      have b4 : Blk V5 v5.heap.size t Z := by rw [hV5]; exact Blk.new _ _ _
      have HB5 := Lib.hid (show Below w.heap.size w V5 by
        have h := HB.out.trans (hv5.mono HB.out.size)
        rw [hV5]; exact h.alloc h.size _)
      have l1 := load_blk (N := N) hCs b1
      have l2 := load_blk (N := N) hLs b2
      have l3 := load_blk (N := N) hLs b3
      have l4 := load_blk (N := N) hZN b4
      clear b1 b2 b3 b4 hV5 hv5 B1 N1 N2 HB LZ4
      generalize hg5 : v5.heap.size = g5 at *
      by_cases hone : k = 1
      · have hs := Hks1.out hone
        have z1 : ((k : Int) == 1) = true := by rw [beq_iff_eq]; omega
        have z1' : (k == 1) = true := by rw [beq_iff_eq]; exact hone
        have z2 : (((ksum l : Nat) : Int) == 1024) = true := by rw [beq_iff_eq]; omega
        have z2' : (ksum l == 1024) = true := by rw [beq_iff_eq]; exact hs
        clear hs hone
        go_wp2_with fail
        refine (CT.out V5).mono ?_
        rintro e v6 ⟨rfl, hv6⟩
        have HBe := Lib.hid (HB5.out.trans (hv6.mono HB5.out.size))
        clear hv6 HB5
        go_wp2_with fail
        go_ret
        exact ⟨rfl, HBe.out⟩
      · have hs := Hks2.out (by omega)
        have z1 : ((k : Int) == 1) = false := by rw [beq_eq_false_iff_ne]; omega
        have z1' : (k == 1) = false := by rw [beq_eq_false_iff_ne]; exact hone
        have z3 : decide (1 < (k : Int)) = true := by rw [decide_eq_true_eq]; omega
        have z3' : decide (1 < k) = true := by rw [decide_eq_true_eq]; omega
        have z4 : (((ksum l : Nat) : Int) == 2048) = true := by rw [beq_iff_eq]; omega
        have z4' : (ksum l == 2048) = true := by rw [beq_iff_eq]; exact hs
        clear hs hone
        go_wp2_with fail
        refine (CT.out V5).mono ?_
        rintro e v6 ⟨rfl, hv6⟩
        have HBe := Lib.hid (HB5.out.trans (hv6.mono HB5.out.size))
        clear hv6 HB5
        go_wp2_with fail
        go_ret
        exact ⟨rfl, HBe.out⟩
end Go.Proofs.Ythcppebfhjleiaa
