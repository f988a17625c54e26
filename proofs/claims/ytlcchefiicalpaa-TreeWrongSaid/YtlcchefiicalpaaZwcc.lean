/- The program's mayStand; the comparison of two edits. The program's sameEntry, slices.EqualFunc. -/
import Derived.Test.YtlcchefiicalpaaZwbd
import Derived.Test.YtlcchefiicalpaaZwbj
namespace Go.Proofs.Ytlcchefiicalpaa
open Go.RowKit
def oneN (e : Tr.E) : Nd.N := ⟨0, [e.k], [e.p], [e.g], []⟩
theorem oneN_ok (e : Tr.E) : Nd.Ok (oneN e) ↔ Tr.EOk e := by
  constructor
  · intro h
    have h1 := h.key 0 Nat.one_pos
    have h2 := (h.leaf rfl).2.2.2 0 Nat.one_pos
    exact ⟨h1, h2⟩
  · rintro ⟨h1, h2⟩
    exact ⟨(by show (0 : Int) ≤ 0; decide), (by show (0 : Int) < 6; decide), (by show (1 : Nat) ≤ 8; decide), fun i hi => by
      have hi : i < 1 := hi
      obtain rfl : i = 0 := by omega
      exact h1, fun i hi => by have hi : i + 1 < 1 := hi; omega, fun _ => ⟨rfl, rfl, rfl, fun i hi => by
      have hi : i < 1 := hi
      obtain rfl : i = 0 := by omega
      exact h2⟩, fun h => absurd rfl h⟩
theorem oneN_at {w : World} {o : Obj} {e : Tr.E} {W : World} (hW : (((w.alloc o).alloc (.cells #[.int .i64 e.k] 3)).alloc (.cells #[.int .i64 e.p.1, .int .i64 e.p.2.1, .int .i64 e.p.2.2] 54)).alloc (.cells #[.int .i64 e.g] 3) = W) :
    NdAt W W.heap.size (.agg #[.int .i64 0, .slice (some ⟨w.heap.size + 1, 0, none⟩) 1 1, .slice (some ⟨w.heap.size + 1 + 1, 0, none⟩) 1 1, .slice (some ⟨w.heap.size + 1 + 1 + 1, 0, none⟩) 1 1, .slice none 0 0]) (oneN e) := by
  obtain ⟨W0, h0⟩ : ∃ W, w.alloc o = W := ⟨_, rfl⟩
  have s0 : W0.heap.size = w.heap.size + 1 := by rw [← h0]; simp
  rw [h0] at hW
  obtain ⟨W1, h1⟩ : ∃ W, W0.alloc (.cells #[.int .i64 e.k] 3) = W := ⟨_, rfl⟩
  have s1 : W1.heap.size = w.heap.size + 1 + 1 := by rw [← h1]; simp [s0]
  rw [h1] at hW
  obtain ⟨W2, h2⟩ : ∃ W, W1.alloc (.cells #[.int .i64 e.p.1, .int .i64 e.p.2.1, .int .i64 e.p.2.2] 54) = W := ⟨_, rfl⟩
  have s2 : W2.heap.size = w.heap.size + 1 + 1 + 1 := by rw [← h2]; simp [s1]
  rw [h2] at hW
  have s3 : W.heap.size = w.heap.size + 1 + 1 + 1 + 1 := by rw [← hW]; simp [s2]
  have b1 : Blk W1 (w.heap.size + 1) 3 #[.int .i64 e.k] := by rw [← h1, ← s0]; exact Blk.new _ _ _
  have b2 : Blk W2 (w.heap.size + 1 + 1) 54 #[.int .i64 e.p.1, .int .i64 e.p.2.1, .int .i64 e.p.2.2] := by rw [← h2, ← s1]; exact Blk.new _ _ _
  have b3 : Blk W (w.heap.size + 1 + 1 + 1) 3 #[.int .i64 e.g] := by rw [← hW, ← s2]; exact Blk.new _ _ _
  have c2 : Blk W (w.heap.size + 1 + 1) 54 #[.int .i64 e.p.1, .int .i64 e.p.2.1, .int .i64 e.p.2.2] := by rw [← hW]; exact b2.alloc _
  have c1 : Blk W (w.heap.size + 1) 3 #[.int .i64 e.k] := by rw [← hW]; exact Blk.alloc (by rw [← h2]; exact b1.alloc _) _
  refine ⟨_, _, _, _, _, _, _, _, rfl, ⟨Nat.le_refl _, (fun h => (by cases h)), .inr ⟨_, 0, rfl, c1.lt, fun i hi => ?_⟩⟩, ⟨Nat.le_refl _, (fun h => (by cases h)), .inr ⟨_, 0, rfl, c2.lt, fun i hi => ?_⟩⟩, ⟨Nat.le_refl _, (fun h => (by cases h)), .inr ⟨_, 0, rfl, b3.lt, fun i hi => ?_⟩⟩, SlC.none_ _ _⟩
  · have hi : i < 1 := hi
    obtain rfl : i = 0 := by omega
    exact c1.cell 0
  · have hi : i < 3 := hi
    have : i = 0 ∨ i = 1 ∨ i = 2 := by omega
    rcases this with rfl | rfl | rfl
    · exact c2.cell 0
    · exact c2.cell 1
    · exact c2.cell 2
  · have hi : i < 1 := hi
    obtain rfl : i = 0 := by omega
    exact b3.cell 0
set_option maxRecDepth 8000 in
set_option maxHeartbeats 4000000 in
theorem maystand_any (e : Tr.E) (w : World) (R : Bool) (hR : R = true ↔ Tr.EOk e) : Calls Try.prog 74 #[ev e] w fun r w' => r = .returned (.bool R) ∧ Below w.heap.size w w' := by
  obtain ⟨W, hW⟩ : ∃ W, (((w.alloc (.cells #[.int .i64 e.k, .int .i64 e.p.1, .int .i64 e.p.2.1, .int .i64 e.p.2.2, .int .i64 e.g] 84)).alloc (.cells #[.int .i64 e.k] 3)).alloc (.cells #[.int .i64 e.p.1, .int .i64 e.p.2.1, .int .i64 e.p.2.2] 54)).alloc (.cells #[.int .i64 e.g] 3) = W := ⟨_, rfl⟩
  have HM := may_any (oneN_at hW) R (hR.trans (oneN_ok e).symm)
  have HB := Lib.hid (show Below w.heap.size w W by rw [← hW]; exact ((((Below.refl _ _).alloc (Nat.le_refl _) _).alloc (by simp) _).alloc (by simp; omega) _).alloc (by simp; omega) _)
  dsimp only [ev, evv]
  clear hR
  go_enter Try.func74, Try.ntmps74
  go_wp2_with (go_at_call 22; (with_reducible refine HM.mono ?_); rintro r w2 ⟨rfl, h2⟩; (have H2 := Lib.hid (HB.out.trans (h2.mono HB.out.size))); clear h2)
  go_ret
  exact ⟨rfl, H2.out⟩
end Go.Proofs.Ytlcchefiicalpaa
namespace Go.Proofs.Ytlcchefiicalpaa
open Go.RowKit
set_option maxRecDepth 8000 in
set_option maxHeartbeats 4000000 in
theorem same_entry (x y : Tr.PC) (w : World) : Calls Try.prog 97 #[pcv x, pcv y] w fun e w' => e = .returned (.bool (decide (x.e.k = y.e.k ∧ x.e.p.1 = y.e.p.1 ∧ x.e.p.2.1 = y.e.p.2.1 ∧ x.e.p.2.2 = y.e.p.2.2 ∧ x.e.g = y.e.g))) ∧ Below w.heap.size w w' := by
  obtain ⟨k, ⟨ek, ⟨e1, e2, e3⟩, eg⟩, ⟨⟨k1, k2, k3⟩, bh, bf, bt⟩, fr, A, n, c⟩ := x
  obtain ⟨k', ⟨ek', ⟨e1', e2', e3'⟩, eg'⟩, ⟨⟨k1', k2', k3'⟩, bh', bf', bt'⟩, fr', A', n', c'⟩ := y
  dsimp only [pcv]
  go_enter Try.func97, Try.ntmps97
  go_wp2_with fail
  all_goals (go_ret; exact ⟨by simp_all, below_alloc2 _ _ _⟩)
theorem e_eq {x y : Tr.PC} : (x.e.k = y.e.k ∧ x.e.p.1 = y.e.p.1 ∧ x.e.p.2.1 = y.e.p.2.1 ∧ x.e.p.2.2 = y.e.p.2.2 ∧ x.e.g = y.e.g) ↔ x.e = y.e := by
  obtain ⟨k, ⟨ek, ⟨e1, e2, e3⟩, eg⟩, b, fr, A, n, c⟩ := x
  obtain ⟨k', ⟨ek', ⟨e1', e2', e3'⟩, eg'⟩, b', fr', A', n', c'⟩ := y
  constructor
  · rintro ⟨h1, h2, h3, h4, h5⟩
    dsimp only at h1 h2 h3 h4 h5
    subst h1 h2 h3 h4 h5
    rfl
  · intro h
    dsimp only at h
    injection h with h1 h2 h3
    injection h2 with h2 h4
    injection h4 with h4 h5
    exact ⟨h1, h2, h4, h5, h3⟩
theorem eq_no {cs1 cs2 : List Tr.PC} {R : Bool} {i : Nat} {x y : Tr.PC} (hR : R = true ↔ cs1.map (·.e) = cs2.map (·.e)) (hxy : cs1[i]? = some x ∧ cs2[i]? = some y) (hq : decide (x.e.k = y.e.k ∧ x.e.p.1 = y.e.p.1 ∧ x.e.p.2.1 = y.e.p.2.1 ∧ x.e.p.2.2 = y.e.p.2.2 ∧ x.e.g = y.e.g) = false) : R = false := by
  cases R with
  | false => rfl
  | true =>
    have h := congrArg (fun l => l[i]?) (hR.1 rfl)
    simp only [List.getElem?_map, hxy.1, hxy.2, Option.map_some] at h
    injection h with h
    rw [decide_eq_false_iff_not] at hq
    exact absurd (e_eq.2 h) hq
theorem eq_next {cs1 cs2 : List Tr.PC} {i : Nat} {x y : Tr.PC} (hs : (cs1.take i).map (·.e) = (cs2.take i).map (·.e)) (hxy : cs1[i]? = some x ∧ cs2[i]? = some y) (hq : decide (x.e.k = y.e.k ∧ x.e.p.1 = y.e.p.1 ∧ x.e.p.2.1 = y.e.p.2.1 ∧ x.e.p.2.2 = y.e.p.2.2 ∧ x.e.g = y.e.g) = true) : (cs1.take (i + 1)).map (·.e) = (cs2.take (i + 1)).map (·.e) := by
  rw [List.take_add_one, List.take_add_one, hxy.1, hxy.2, List.map_append, List.map_append, hs]
  rw [decide_eq_true_eq] at hq
  show _ ++ [x.e] = _ ++ [y.e]
  rw [e_eq.1 hq]
theorem range_alloc {w : World} {b o : Nat} {cs : List Value} (h : w.rangeAt b o cs) (hb : b < w.heap.size) (ob : Obj) : (w.alloc ob).rangeAt b o cs := fun j v hv => by rw [World.cell?_alloc_lt _ _ _ hb]; exact h j v hv
set_option maxRecDepth 8000 in
set_option maxHeartbeats 8000000 in
theorem equalfunc_any {w : World} {A1 A2 : Option Addr} {c1 c2 n1 n2 : Nat} {cs1 cs2 : List Tr.PC} (h1 : SlC w w.heap.size A1 c1 n1 (pcs cs1)) (h2 : SlC w w.heap.size A2 c2 n2 (pcs cs2)) (l1 : cs1.length = n1) (l2 : cs2.length = n2) (few : n1 ≤ 1000000) (R : Bool) (hR : R = true ↔ cs1.map (·.e) = cs2.map (·.e)) :
    Calls Try.prog 96 #[.slice A1 n1 c1, .slice A2 n2 c2, .func (.func 97) #[] #[]] w fun e w' => e = .returned (.bool R) ∧ Below w.heap.size w w' := by
  obtain ⟨d0, hd0, hd1⟩ := part_row
  have H1 := Lib.hid h1
  have H2 := Lib.hid h2
  have L1 := Lib.hid l1
  have L2 := Lib.hid l2
  have HR := Lib.hid hR
  have eg : ∀ a (W : World), (callFunc 97 a).run Try.prog W = .ok (.enter 97 a) W := fun a W => by kernel_rfl
  by_cases hne : n1 = n2
  · subst hne
    clear h1 h2 l1 l2 hR
    go_enter Try.func96, Try.ntmps96
    go_wp2_with fail
    go_loopw [17] (fun v17 wr => ∃ i : Nat, v17 = .int .i64 (i : Int) ∧ i ≤ n1 ∧ (cs1.take i).map (·.e) = (cs2.take i).map (·.e) ∧ Below w.heap.size w wr) (fun v17 _ => n1 - (intOf v17).toNat)
    case atStart => exact ⟨0, rfl, Nat.zero_le _, rfl, Below.refl _ _⟩
    case round =>
      obtain ⟨i, rfl, hi, hs, hb⟩ := hrel
      have HS := Lib.hid hs
      have HB := Lib.hid hb
      by_cases hik : i < n1
      · have y0 : decide ((i : Int) < (n1 : Int)) = true := by rw [decide_eq_true_eq]; omega
        have y1 : (i : Int) < (n1 : Int) := by omega
        have Wi : wrap64 ((i : Int) + 1) = (i : Int) + 1 := by simp only [wrap64]; omega
        obtain ⟨x, y, hx, hy⟩ := get_of_len (L2.out.trans L1.out.symm) (i := i) (by rw [L1.out]; exact hik)
        obtain ⟨b1, o1, rfl, hb1, rg1⟩ := (H1.out.below hb).sl.range hx
        obtain ⟨b2, o2, rfl, hb2, rg2⟩ := (H2.out.below hb).sl.range hy
        have hw1 : b1 < wr.heap.size := Nat.lt_of_lt_of_le hb1 hb.size
        have hw2 : b2 < wr.heap.size := Nat.lt_of_lt_of_le hb2 hb.size
        have Rg2 := Lib.hid (fun o : Obj => range_alloc rg2 hw2 o)
        have Hik := Lib.hid hik
        have hsame := fun u => same_entry x y u
        obtain ⟨q, hq⟩ : ∃ q, decide (x.e.k = y.e.k ∧ x.e.p.1 = y.e.p.1 ∧ x.e.p.2.1 = y.e.p.2.1 ∧ x.e.p.2.2 = y.e.p.2.2 ∧ x.e.g = y.e.g) = q := ⟨_, rfl⟩
        rw [hq] at hsame
        have HSm := Lib.hid hsame
        dsimp only [pcv] at HSm
        have Hxy := Lib.hid (show cs1[i]? = some x ∧ cs2[i]? = some y from ⟨hx, hy⟩)
        have Hq := Lib.hid hq
        clear hs hb hi hx hy hb1 hb2 hsame hik rg2 hw1 hw2 hq
        cases q
        · -- they differ
          have hR0 := Lib.hid (show R = false from eq_no HR.out Hxy.out Hq.out)
          go_wp2_with (first
            | ((with_reducible show wpList _ _ _ (⟨some 21, Op.load 160 _, _, _, _, _⟩ :: _) _ _); refine wpList_load_mid rfl 160 _ rfl b1 (o1 + i * 14) rfl [.int .i64 x.k, .int .i64 x.e.k, .int .i64 x.e.p.1, .int .i64 x.e.p.2.1, .int .i64 x.e.p.2.2, .int .i64 x.e.g, .int .i64 x.b.k.1, .int .i64 x.b.k.2.1, .int .i64 x.b.k.2.2, .int .i64 x.b.h, .int .i64 x.b.f, .int .i64 x.b.t, .bool x.fr, .slice x.A x.n x.c] d0 rg1 hd0 hd1 part_size ?_)
            | ((with_reducible show wpList _ _ _ (⟨some 25, Op.load 160 _, _, _, _, _⟩ :: _) _ _); refine wpList_load_mid rfl 160 _ rfl b2 (o2 + i * 14) rfl [.int .i64 y.k, .int .i64 y.e.k, .int .i64 y.e.p.1, .int .i64 y.e.p.2.1, .int .i64 y.e.p.2.2, .int .i64 y.e.g, .int .i64 y.b.k.1, .int .i64 y.b.k.2.1, .int .i64 y.b.k.2.2, .int .i64 y.b.h, .int .i64 y.b.f, .int .i64 y.b.t, .bool y.fr, .slice y.A y.n y.c] d0 (Rg2.out _) hd0 hd1 part_size ?_)
            | (go_at_call 97; (with_reducible refine (HSm.out _).mono ?_); rintro e w6 ⟨rfl, hb6⟩; (have B6 := Lib.hid (HB.out.trans (((below_alloc2 wr _ _).trans (hb6.mono (below_alloc2 wr _ _).size)).mono HB.out.size))); clear hb6))
          go_ret
          exact ⟨by rw [hR0.out]; rfl, B6.out⟩
        · -- they are the same
          have Hn := Lib.hid (eq_next HS.out Hxy.out Hq.out)
          go_wp2_with (first
            | ((with_reducible show wpList _ _ _ (⟨some 21, Op.load 160 _, _, _, _, _⟩ :: _) _ _); refine wpList_load_mid rfl 160 _ rfl b1 (o1 + i * 14) rfl [.int .i64 x.k, .int .i64 x.e.k, .int .i64 x.e.p.1, .int .i64 x.e.p.2.1, .int .i64 x.e.p.2.2, .int .i64 x.e.g, .int .i64 x.b.k.1, .int .i64 x.b.k.2.1, .int .i64 x.b.k.2.2, .int .i64 x.b.h, .int .i64 x.b.f, .int .i64 x.b.t, .bool x.fr, .slice x.A x.n x.c] d0 rg1 hd0 hd1 part_size ?_)
            | ((with_reducible show wpList _ _ _ (⟨some 25, Op.load 160 _, _, _, _, _⟩ :: _) _ _); refine wpList_load_mid rfl 160 _ rfl b2 (o2 + i * 14) rfl [.int .i64 y.k, .int .i64 y.e.k, .int .i64 y.e.p.1, .int .i64 y.e.p.2.1, .int .i64 y.e.p.2.2, .int .i64 y.e.g, .int .i64 y.b.k.1, .int .i64 y.b.k.2.1, .int .i64 y.b.k.2.2, .int .i64 y.b.h, .int .i64 y.b.f, .int .i64 y.b.t, .bool y.fr, .slice y.A y.n y.c] d0 (Rg2.out _) hd0 hd1 part_size ?_)
            | (go_at_call 97; (with_reducible refine (HSm.out _).mono ?_); rintro e w6 ⟨rfl, hb6⟩; (have B6 := Lib.hid (HB.out.trans (((below_alloc2 wr _ _).trans (hb6.mono (below_alloc2 wr _ _).size)).mono HB.out.size))); clear hb6))
          go_roundw
          case rel => exact ⟨i + 1, by go_num, Hik.out, Hn.out, B6.out⟩
          case measure => exact meas_up Hik.out
      · obtain rfl : i = n1 := by omega
        have y0 : decide ((i : Int) < (i : Int)) = false := by rw [decide_eq_false_iff_not]; omega
        have hR1 := Lib.hid (show R = true from HR.out.2 (by rw [List.take_of_length_le (by rw [L1.out]; exact Nat.le_refl _), List.take_of_length_le (by rw [L2.out]; exact Nat.le_refl _)] at hs; exact hs))
        clear hs hb hi hik
        go_wp2_with fail
        go_ret
        exact ⟨by rw [hR1.out]; rfl, HB.out⟩
  · have z0 : ((n1 : Int) != (n2 : Int)) = true := by rw [bne_iff_ne]; omega
    have hR0 := Lib.hid (show R = false by
      cases R with
      | false => rfl
      | true => exact absurd (by have := congrArg List.length (hR.1 rfl); rw [List.length_map, List.length_map, l1, l2] at this; exact this) hne)
    clear hne hR h1 h2 l1 l2
    go_enter Try.func96, Try.ntmps96
    go_wp2_with fail
    go_ret
    exact ⟨by rw [hR0.out]; rfl, Below.refl _ _⟩
end Go.Proofs.Ytlcchefiicalpaa
