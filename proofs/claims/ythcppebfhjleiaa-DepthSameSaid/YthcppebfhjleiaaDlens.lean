/- DepthLengths, under what the program's functions are held to. -/
import Derived.Test.YthcppebfhjleiaaDepc
import Derived.Deep.QuietTactic
namespace Go.Proofs.Ythcppebfhjleiaa
open Go.RowKit

/-- How many of the first k counts are greater than nought. -/
def usedK (c : List Int) (k : Nat) : Nat := (c.take k).countP fun x => decide (0 < x)
theorem usedK_next {c : List Int} {k : Nat} (h : k < c.length) : usedK c (k + 1) = usedK c k + if 0 < c.getD k 0 then 1 else 0 := by
  unfold usedK
  rw [List.take_add_one, List.getElem?_eq_getElem h, List.countP_append, List.getD_eq_getElem?_getD, List.getElem?_eq_getElem h]
  simp [List.countP_cons]
theorem usedK_all {c : List Int} (h : c.length = 256) : usedK c 256 = used c := by unfold usedK used; rw [List.take_of_length_le (by omega)]
theorem usedK_le (c : List Int) (k : Nat) : usedK c k ≤ k := by
  unfold usedK
  exact Nat.le_trans List.countP_le_length (by rw [List.length_take]; omega)
theorem ksum_zero : ∀ {l : List Int}, (∀ x ∈ l, x ≤ 0) → ksum l = 0 := by
  intro l h
  unfold ksum
  induction l with
  | nil => rfl
  | cons x l ih =>
    have hx := h x (List.mem_cons_self ..)
    rw [List.map_cons, List.sum_cons, ih fun y hy => h y (List.mem_cons_of_mem _ hy)]
    unfold kterm
    rw [if_neg (by omega)]
theorem lens_none {F : List Int → List Int × Bool} (hF : LensOk F) {c : List Int} (hc : c.length = 256) (hb : c.any cbad = false) (h : used c = 0) : ksum (F c).1 = 0 := by
  refine ksum_zero fun x hx => ?_
  obtain ⟨i, hi, rfl⟩ := List.mem_iff_getElem.1 hx
  rw [hF.len c hc] at hi
  have hp := hF.pos c hc hb i hi
  unfold used at h
  rw [List.countP_eq_zero] at h
  have hci := h (c.getD i 0) (by rw [List.getD_eq_getElem?_getD, List.getElem?_eq_getElem (by omega)]; exact List.getElem_mem _)
  rw [decide_eq_true_eq] at hci
  rw [List.getD_eq_getElem?_getD, List.getElem?_eq_getElem (by rw [hF.len c hc]; exact hi)] at hp
  simp only [Option.getD_some] at hp
  have := mt hp.1 hci
  omega
theorem counts_good (l : List Nat) : (countsL l).any cbad = false := by
  rw [List.any_eq_false]
  intro x hx
  unfold countsL countsK at hx
  obtain ⟨i, _, rfl⟩ := List.mem_map.1 hx
  unfold cbad
  split
  · have : l.getD i 0 % 1048576 < 1048576 := Nat.mod_lt _ (by decide)
    simp; omega
  · simp

set_option maxRecDepth 4000 in
set_option maxHeartbeats 8000000 in
theorem dlens_any (hK : KraftC) (hC : CostC) {F : List Int → List Int × Bool} (hL : LengthsC F) (hF : LensOk F) {w : World} {A : Option Addr} {cap : Nat} {n : List Nat} (hn : ∀ x ∈ n, x < 4294967296) (s3 : Sl w w.heap.size A (u32s n)) :
    Calls Try.prog 3 #[.slice A n.length cap] w fun e w' => e = .returned (.bool true) ∧ Below w.heap.size w w' := by
  have AW := Lib.hid (fun w => awake_any hK hC hL hF w)
  by_cases h256 : 256 < n.length
  · have q1 : decide (256 < (n.length : Int)) = true := by rw [decide_eq_true_eq]; omega
    have q1' : decide (256 < n.length) = true := by rw [decide_eq_true_eq]; omega
    clear hK hC hL hF s3 hn
    generalize n.length = ln at *
    go_enter Try.func3, Try.ntmps3
    go_wp2_with fail
    refine (AW.out _).mono ?_
    rintro e w1 ⟨rfl, hb1⟩
    go_wp2_with fail
    go_ret
    exact ⟨rfl, hb1⟩
  obtain ⟨ln, hln⟩ : ∃ x, x = n.length := ⟨_, rfl⟩
  have q1 : decide (256 < (ln : Int)) = false := by rw [decide_eq_false_iff_not]; omega
  have q1' : decide (256 < ln) = false := by rw [decide_eq_false_iff_not]; omega
  obtain ⟨t, N, ht, hN, hagg, hix, hund, hsz, hz0⟩ := t256
  have hi16 : (Try.prog.info? t).map (·.size) = some 256 := by rw [ht]; kernel_rfl
  obtain ⟨Z, hZ⟩ : ∃ Z, Z = ints (List.replicate 256 0) := ⟨_, rfl⟩
  rw [← hZ] at hz0
  have hZs : Z.size = 256 := by rw [hZ, ints_size, List.length_replicate]
  have store : ∀ (l : List Int) (w1 : World), l.length = 256 → (storeCells ⟨w1.heap.size, 0, none⟩ (ints l).toList 0).run Try.prog (w1.alloc (.cells Z t)) = .ok () (w1.alloc (.cells (ints l) t)) := fun l w1 hl =>
    run_storeCells_new w1 t Z (ints l) (by rw [hi16, ints_size, hl]) (by rw [hZs, ints_size, hl]) (ints_one l)
  obtain ⟨c, hc⟩ : ∃ c, c = countsL n := ⟨_, rfl⟩
  have hcl : c.length = 256 := by rw [hc]; exact countsK_len n 256
  have hcb : c.any cbad = false := by rw [hc]; exact counts_good n
  obtain ⟨l, hl⟩ : ∃ l, l = (F c).1 := ⟨_, rfl⟩
  have hll : l.length = 256 := by rw [hl]; exact hF.len c hcl
  have hk : kraftV l = (ksum l, true) := by rw [hl]; exact lens_kraft hF hcl hcb
  have hks : ksum l ≤ 524288 := by have := ksum_le l; omega
  have CT := Lib.hid (fun W (hb : Below w.heap.size w W) => counts_any A cap n hn ln hln W ((s3.below hb).more hb.size))
  rw [← hc] at CT
  have LT := Lib.hid (fun W => hL W c hcl)
  rw [hF.ok c hcl hcb, ← hl] at LT
  have KT := Lib.hid (fun W => rkraft_any l hll W)
  rw [hk] at KT
  have Hpos := Lib.hid (fun i (hi : i < 256) => hF.pos c hcl hcb i hi)
  have Hmono := Lib.hid (fun i j (hi : i < 256) (hj : j < 256) => hF.mono c hcl hcb i j hi hj)
  rw [← hl] at Hpos Hmono
  have Hnone := Lib.hid (fun h => lens_none hF hcl hcb h)
  have Hone := Lib.hid (fun h => hF.one c hcl hcb h)
  have Hfull := Lib.hid (fun h => hF.full c hcl hcb h)
  rw [← hl] at Hnone Hone Hfull
  have Hst := Lib.hid store
  have Hix := Lib.hid hix
  have HN := Lib.hid hN
  have E1 : Op.alloc 24 = Op.alloc t := by rw [ht]
  have E2 : ∀ a b, Op.store 24 a b = Op.store t a b := by rw [ht]; exact fun _ _ => rfl
  have E3 : ∀ a b, Op.indexAddr 24 a b = Op.indexAddr t a b := by rw [ht]; exact fun _ _ => rfl
  have E4 : ∀ a, Op.load 24 a = Op.load t a := by rw [ht]; exact fun _ => rfl
  have hCs : (ints c).size = N := by rw [ints_size, hcl, hN]
  have hLs : (ints l).size = N := by rw [ints_size, hll, hN]
  rw [← hln]
  clear ht hix hN hK hC hL hF store hi16 hZ s3 hn hln hc hl hk h256
  go_enter Try.func3, Try.ntmps3
  simp only [E1, E2, E3, E4]
  clear E1 E2 E3 E4
  go_wp2_with fail
  refine (AW.out _).mono ?_
  rintro e w1 ⟨rfl, hb1⟩
  have C1 := Lib.hid (CT.out w1 hb1)
  have HB1 := Lib.hid hb1
  clear hb1 AW CT
  go_wp2_with fail
  refine C1.out.mono ?_
  rintro e w2 ⟨rfl, hb2⟩
  have HB2 := Lib.hid (HB1.out.trans (hb2.mono HB1.out.size))
  have st3 := Hst.out c w2 hcl
  obtain ⟨W3, hW3⟩ : ∃ W3, W3 = w2.alloc (.cells (ints c) t) := ⟨_, rfl⟩
  have b3 : Blk W3 w2.heap.size t (ints c) := by rw [hW3]; exact Blk.new _ _ _
  have HB3 := Lib.hid (show Below w.heap.size w W3 by rw [hW3]; exact HB2.out.alloc HB2.out.size _)
  have e3 : w2.alloc (.cells (ints c) t) = W3 := hW3.symm
  obtain ⟨XC, hXC⟩ : ∃ XC, XC = ints c := ⟨_, rfl⟩
  rw [← hXC] at st3 b3 hCs e3 LT ⊢
  have ld3 := load_blk (N := N) hCs b3
  have HXC := Lib.hid hXC
  have B3 := Lib.hid b3
  clear hW3 b3 hb2 C1 HB1 HB2 hXC
  generalize hgc : w2.heap.size = gc at *
  go_wp2_with fail
  refine (LT.out W3).mono ?_
  rintro e w4 ⟨rfl, hb4⟩
  have st5 := Hst.out l w4 hll
  obtain ⟨XL, hXL⟩ : ∃ XL, XL = ints l := ⟨_, rfl⟩
  obtain ⟨W5, hW5⟩ : ∃ W5, W5 = w4.alloc (.cells (ints l) t) := ⟨_, rfl⟩
  have b5 : Blk W5 w4.heap.size t (ints l) := by rw [hW5]; exact Blk.new _ _ _
  have b4c := B3.out.keep (hb4.block _ B3.out.lt)
  have b5c := b4c.keep (w' := W5) (by rw [hW5]; exact Below.heap_alloc _ _ _ b4c.lt)
  have HB4 := HB3.out.trans (hb4.mono HB3.out.size)
  have HB5 := Lib.hid (show Below w.heap.size w W5 by rw [hW5]; exact HB4.alloc HB4.size _)
  have e5 : w4.alloc (.cells (ints l) t) = W5 := hW5.symm
  rw [← hXL] at st5 b5 hLs e5 KT ⊢
  have ld5 := load_blk (N := N) hLs b5
  have HXL := Lib.hid hXL
  have B5 := Lib.hid b5
  have B5c := Lib.hid b5c
  clear hW5 b5 b5c b4c hb4 HB3 HB4 hXL LT ld3 st3 e3 B3
  generalize hgl : w4.heap.size = gl at *
  go_wp2_with fail
  refine (KT.out W5).mono ?_
  rintro e w6 ⟨rfl, hb6⟩
  have Bc := Lib.hid (B5c.out.keep (hb6.block _ B5c.out.lt))
  have Bl := Lib.hid (B5.out.keep (hb6.block _ B5.out.lt))
  have HB6 := Lib.hid (HB5.out.trans (hb6.mono HB5.out.size))
  clear hb6 HB5 B5 B5c KT ld5 st5 e5
  go_wp2_with fail
  go_loopw [8, 9] (fun v i wr => ∃ k m : Nat, k ≤ 256 ∧ i = .int .i64 k ∧ v = .int .i64 ((usedK c k : Nat) : Int) ∧ wr = w6.drewN m) (fun _ i _ => 256 - (intOf i).toNat)
  case atStart => exact ⟨0, 0, by decide, rfl, rfl, rfl⟩
  case round =>
    obtain ⟨i, m, hi, rfl, rfl, rfl⟩ := hrel
    by_cases hlt : i < 256
    · have q0 : decide ((i : Int) < 256) = true := by rw [decide_eq_true_eq]; omega
      have q0' : decide (i < 256) = true := by rw [decide_eq_true_eq]; omega
      have ixc := Hix.out .i64 i hlt gc
      have ixl := Hix.out .i64 i hlt gl
      have cc : w6.cell? ⟨gc, i, none⟩ = some (.int .i64 (c.getD i 0)) := by rw [Bc.out.cell, HXC.out, ints_at (by omega)]
      have cl : w6.cell? ⟨gl, i, none⟩ = some (.int .i64 (l.getD i 0)) := by rw [Bl.out.cell, HXL.out, ints_at (by omega)]
      have hp := Hpos.out i hlt
      have Hu := Lib.hid (usedK_next (c := c) (k := i) (by omega))
      have Hm := Lib.hid (fun j (hj : j < 256) => Hmono.out i j hlt hj)
      have Hm2 := Lib.hid (fun j (hj : j < 256) => Hmono.out j i hj hlt)
      have hul := usedK_le c i
      generalize hu : usedK c i = u at *
      generalize c.getD i 0 = ci at *
      generalize l.getD i 0 = li at *
      clear hu
      by_cases hci : 0 < ci
      · have d1 : decide (0 < ci) = true := by rw [decide_eq_true_eq]; exact hci
        have d2 : decide (0 < li) = true := by rw [decide_eq_true_eq]; exact hp.2 hci
        have Hu := Lib.hid (show usedK c (i + 1) = u + 1 by rw [Hu.out, if_pos hci])
        clear hp
        go_wp2_with fail
        go_quiet (fail)
        go_wp2_with fail
        go_loopw [10] (fun v wr => ∃ j m : Nat, j ≤ i ∧ v = .int .i64 j ∧ wr = w6.drewN m) (fun v _ => i - (intOf v).toNat)
        case atStart => exact ⟨0, m + nq, Nat.zero_le _, rfl, by simp⟩
        case round =>
          obtain ⟨j, m2, hj, rfl, rfl⟩ := hrel
          by_cases hlj : j < i
          · have q5 : decide ((j : Int) < (i : Int)) = true := by rw [decide_eq_true_eq]; omega
            have q5' : decide (j < i) = true := by rw [decide_eq_true_eq]; omega
            have hj6 : j < 256 := by omega
            have ixcj := Hix.out .i64 j hj6 gc
            have ixlj := Hix.out .i64 j hj6 gl
            have ccj : w6.cell? ⟨gc, j, none⟩ = some (.int .i64 (c.getD j 0)) := by rw [Bc.out.cell, HXC.out, ints_at (by omega)]
            have clj : w6.cell? ⟨gl, j, none⟩ = some (.int .i64 (l.getD j 0)) := by rw [Bl.out.cell, HXL.out, ints_at (by omega)]
            have hm1 := Hm.out j hj6
            have hm2 := Hm2.out j hj6
            generalize c.getD j 0 = cj at *
            generalize l.getD j 0 = lj at *
            by_cases hA : cj < ci
            · have dA : decide (cj < ci) = true := by rw [decide_eq_true_eq]; exact hA
              have dB : decide (ci < cj) = false := by rw [decide_eq_false_iff_not]; omega
              by_cases h0 : 0 < cj
              · have dC : decide (0 < cj) = true := by rw [decide_eq_true_eq]; exact h0
                have dD : decide (lj < li) = false := by rw [decide_eq_false_iff_not]; have := hm1 h0 hA; omega
                clear hA h0 hm1 hm2
                go_wp2_with fail
                go_quiet (fail)
                go_wp2_with fail
                go_roundw
                case rel => exact ⟨j + 1, m2 + nq, by omega, by go_num, by simp⟩
                case measure => simp [intOf]; omega
              · have dC : decide (0 < cj) = false := by rw [decide_eq_false_iff_not]; exact h0
                clear hA h0 hm1 hm2
                go_wp2_with fail
                go_quiet (fail)
                go_wp2_with fail
                go_roundw
                case rel => exact ⟨j + 1, m2 + nq, by omega, by go_num, by simp⟩
                case measure => simp [intOf]; omega
            · have dA : decide (cj < ci) = false := by rw [decide_eq_false_iff_not]; exact hA
              by_cases hB : ci < cj
              · have dB : decide (ci < cj) = true := by rw [decide_eq_true_eq]; exact hB
                have dE : decide (li < lj) = false := by rw [decide_eq_false_iff_not]; have := hm2 hci hB; omega
                clear hA hB hm1 hm2
                go_wp2_with fail
                go_quiet (fail)
                go_wp2_with fail
                go_roundw
                case rel => exact ⟨j + 1, m2 + nq, by omega, by go_num, by simp⟩
                case measure => simp [intOf]; omega
              · have dB : decide (ci < cj) = false := by rw [decide_eq_false_iff_not]; exact hB
                clear hA hB hm1 hm2
                go_wp2_with fail
                go_quiet (fail)
                go_wp2_with fail
                go_roundw
                case rel => exact ⟨j + 1, m2 + nq, by omega, by go_num, by simp⟩
                case measure => simp [intOf]; omega
          · have hji : j = i := by omega
            subst hji
            have q5 : decide ((j : Int) < (j : Int)) = false := by simp
            have q5' : decide (j < j) = false := by simp
            go_wp2_with fail
            go_roundw
            case rel => exact ⟨j + 1, m2, by omega, by go_num, by rw [Hu.out]; go_num, rfl⟩
            case measure => simp [intOf]; omega
      · have d1 : decide (0 < ci) = false := by rw [decide_eq_false_iff_not]; exact hci
        have d2 : decide (0 < li) = false := by rw [decide_eq_false_iff_not]; exact fun h => hci (hp.1 h)
        have Hu := Lib.hid (show usedK c (i + 1) = u by rw [Hu.out, if_neg hci]; rfl)
        clear hp
        go_wp2_with fail
        go_quiet (fail)
        go_wp2_with fail
        go_loopw [10] (fun v wr => ∃ j m : Nat, j ≤ i ∧ v = .int .i64 j ∧ wr = w6.drewN m) (fun v _ => i - (intOf v).toNat)
        case atStart => exact ⟨0, m + nq, Nat.zero_le _, rfl, by simp⟩
        case round =>
          obtain ⟨j, m2, hj, rfl, rfl⟩ := hrel
          by_cases hlj : j < i
          · have q5 : decide ((j : Int) < (i : Int)) = true := by rw [decide_eq_true_eq]; omega
            have q5' : decide (j < i) = true := by rw [decide_eq_true_eq]; omega
            have hj6 : j < 256 := by omega
            have ixcj := Hix.out .i64 j hj6 gc
            have ixlj := Hix.out .i64 j hj6 gl
            have ccj : w6.cell? ⟨gc, j, none⟩ = some (.int .i64 (c.getD j 0)) := by rw [Bc.out.cell, HXC.out, ints_at (by omega)]
            have clj : w6.cell? ⟨gl, j, none⟩ = some (.int .i64 (l.getD j 0)) := by rw [Bl.out.cell, HXL.out, ints_at (by omega)]
            have hm1 := Hm.out j hj6
            have hm2 := Hm2.out j hj6
            generalize c.getD j 0 = cj at *
            generalize l.getD j 0 = lj at *
            by_cases hA : cj < ci
            · have dA : decide (cj < ci) = true := by rw [decide_eq_true_eq]; exact hA
              have dB : decide (ci < cj) = false := by rw [decide_eq_false_iff_not]; omega
              by_cases h0 : 0 < cj
              · have dC : decide (0 < cj) = true := by rw [decide_eq_true_eq]; exact h0
                have dD : decide (lj < li) = false := by rw [decide_eq_false_iff_not]; have := hm1 h0 hA; omega
                clear hA h0 hm1 hm2
                go_wp2_with fail
                go_quiet (fail)
                go_wp2_with fail
                go_roundw
                case rel => exact ⟨j + 1, m2 + nq, by omega, by go_num, by simp⟩
                case measure => simp [intOf]; omega
              · have dC : decide (0 < cj) = false := by rw [decide_eq_false_iff_not]; exact h0
                clear hA h0 hm1 hm2
                go_wp2_with fail
                go_quiet (fail)
                go_wp2_with fail
                go_roundw
                case rel => exact ⟨j + 1, m2 + nq, by omega, by go_num, by simp⟩
                case measure => simp [intOf]; omega
            · have dA : decide (cj < ci) = false := by rw [decide_eq_false_iff_not]; exact hA
              by_cases hB : ci < cj
              · have dB : decide (ci < cj) = true := by rw [decide_eq_true_eq]; exact hB
                have dE : decide (0 < ci) = false := d1
                clear hA hB hm1 hm2
                go_wp2_with fail
                go_quiet (fail)
                go_wp2_with fail
                go_roundw
                case rel => exact ⟨j + 1, m2 + nq, by omega, by go_num, by simp⟩
                case measure => simp [intOf]; omega
              · have dB : decide (ci < cj) = false := by rw [decide_eq_false_iff_not]; exact hB
                clear hA hB hm1 hm2
                go_wp2_with fail
                go_quiet (fail)
                go_wp2_with fail
                go_roundw
                case rel => exact ⟨j + 1, m2 + nq, by omega, by go_num, by simp⟩
                case measure => simp [intOf]; omega
          · have hji : j = i := by omega
            subst hji
            have q5 : decide ((j : Int) < (j : Int)) = false := by simp
            have q5' : decide (j < j) = false := by simp
            go_wp2_with fail
            go_roundw
            case rel => exact ⟨j + 1, m2, by omega, by go_num, by rw [Hu.out], rfl⟩
            case measure => simp [intOf]; omega
    · have hi6 : i = 256 := by omega
      subst hi6
      have q0 : decide ((256 : Int) < 256) = false := by simp
      rw [usedK_all hcl]
      by_cases h0 : used c = 0
      · have hk0 := Hnone.out h0
        rw [h0, hk0]
        go_wp2_with fail
        go_ret
        exact ⟨rfl, HB6.out.trans (drewN_below m |>.mono HB6.out.size)⟩
      · by_cases h1 : used c = 1
        · have hk0 := Hone.out h1
          rw [h1, hk0]
          go_wp2_with fail
          go_ret
          exact ⟨rfl, HB6.out.trans (drewN_below m |>.mono HB6.out.size)⟩
        · have hk0 := Hfull.out (by omega)
          rw [hk0]
          have p0 : (((used c : Nat) : Int) == 0) = false := by rw [beq_eq_false_iff_ne]; omega
          have p1 : (((used c : Nat) : Int) == 1) = false := by rw [beq_eq_false_iff_ne]; omega
          have p0' : (used c == 0) = false := by rw [beq_eq_false_iff_ne]; omega
          have p1' : (used c == 1) = false := by rw [beq_eq_false_iff_ne]; omega
          go_wp2_with fail
          go_ret
          exact ⟨rfl, HB6.out.trans (drewN_below m |>.mono HB6.out.size)⟩
end Go.Proofs.Ythcppebfhjleiaa
