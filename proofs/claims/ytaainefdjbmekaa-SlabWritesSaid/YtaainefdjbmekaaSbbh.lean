/- The program's map of free blocks: Take, Mark. -/
import Derived.Test.YtaainefdjbmekaaSbbg
namespace Go.Proofs.Ytaainefdjbmekaa
open Go.RowKit
section
variable {w : World} {g : Nat} {X : Nat → Prop} {F : List Bool}
theorem opR_same {v : Value} {w' : World} (h : RepV w g X F v) (hb : Below w.heap.size w w') : OpR RepP g X F w w' :=
  ⟨X, ⟨v, h.keep fun b hx => hb.block b (h.lt hx)⟩, fun _ h => .inl h, Chg.of_below X hb⟩
theorem opR_below {F' : List Bool} {w1 w2 : World} (hb : Below w.heap.size w w1) (h : OpR RepP g X F' w1 w2) : OpR RepP g X F' w w2 := by
  obtain ⟨X', h1, h2, h3⟩ := h
  refine ⟨X', h1, fun b hx => (h2 b hx).imp id fun h => Nat.le_trans hb.size h, ⟨h3.os.trans hb.os, h3.tape.trans hb.tape, h3.output.trans hb.output, Nat.le_trans hb.size h3.size, fun i hi hx => ?_⟩⟩
  exact (h3.block i (Nat.lt_of_lt_of_le hi hb.size) hx).trans (hb.block i hi)
theorem list_split {L : List (Nat × Nat)} {k : Nat} (h : k < L.length) : L = L.take k ++ [L.getD k (0, 0)] ++ L.drop (k + 1) := by
  have e : L.getD k (0, 0) = L[k] := by rw [List.getD_eq_getElem?_getD, List.getElem?_eq_getElem h]; rfl
  rw [e, ← List.take_succ_eq_append_getElem h, List.take_append_drop]
set_option maxRecDepth 8000 in
set_option maxHeartbeats 8000000 in
theorem take_any' (h : RepP w g X F) (n : Int) (hn : I64 n) : Calls Try.prog 46 #[.pointer (some ⟨g, 0, none⟩), .int .i64 n] w fun e w' => e = .returned (.tuple #[.int .i64 ((Rn.take F n).1 : Int), .bool (Rn.take F n).2.1]) ∧ OpR RepP g X (Rn.take F n).2.2 w w' := by
  obtain ⟨v, hV⟩ := h
  by_cases hn1 : n < 1
  · have hR : Rn.take F n = (0, false, F) := by unfold Rn.take; rw [if_pos hn1]
    rw [hR]
    have z1 : decide (n < 1) = true := by rw [decide_eq_true_eq]; exact hn1
    have Fin := Lib.hid (opR_same hV (Below.refl _ _))
    clear hV hR hn hn1
    go_enter Try.func46, Try.ntmps46
    go_wp2_with fail
    go_returns
    exact ⟨rfl, Fin.out⟩
  obtain ⟨m, rfl⟩ : ∃ m : Nat, n = (m : Int) := ⟨n.toNat, by omega⟩
  have z1 : decide ((m : Int) < 1) = false := by rw [decide_eq_false_iff_not]; omega
  have z1' : decide (m < 1) = false := by rw [decide_eq_false_iff_not]; omega
  have few := hV.few
  have HV := Lib.hid hV
  have hb := list_b few
  have Hbd := Lib.hid hb
  have hlen := list_len F
  obtain ⟨A, c, rfl⟩ := ownR_slice hV.row
  have c1 : w.cell? ⟨g, 1, none⟩ = some (.slice A (Rn.list F).length c) := hV.blk.cell 1
  obtain ⟨L, hL⟩ : ∃ L, L = Rn.list F := ⟨_, rfl⟩
  have HL := Lib.hid hL
  obtain ⟨q, hq⟩ : ∃ q, q = L.length := ⟨_, rfl⟩
  have Hq := Lib.hid hq
  rw [← hL] at c1 hlen
  rw [← hq] at c1 hlen
  have hq8 : q ≤ 8192 := by omega
  have hm63 : (m : Int) < 9223372036854775808 := hn.2
  have hm1 : 1 ≤ m := by omega
  clear hV few hb hL hq hlen hn hn1
  go_enter Try.func46, Try.ntmps46
  go_wp2_with fail
  go_loopw [19] (fun s19 wr => ∃ k : Nat, s19 = .int .i64 (k : Int) ∧ k ≤ q ∧ Below w.heap.size w wr ∧ ∀ j, j < k → (L.getD j (0, 0)).2 < m) (fun s19 _ => q - (intOf s19).toNat)
  case atStart => exact ⟨0, rfl, Nat.zero_le _, Below.refl _ _, fun j hj => absurd hj (Nat.not_lt_zero _)⟩
  case round =>
    obtain ⟨k, rfl, hk, hbw, hall⟩ := hrel
    have HB := Lib.hid hbw
    have Hall := Lib.hid hall
    clear hall
    by_cases hkq : k < q
    · have z0 : decide ((k : Int) < (q : Int)) = true := by rw [decide_eq_true_eq]; omega
      have z0' : decide (k < q) = true := by rw [decide_eq_true_eq]; exact hkq
      have hVr : RepV wr g X F (.slice A (Rn.list F).length c) := HV.out.keep fun b hb => hbw.block b (HV.out.lt hb)
      obtain ⟨gl, c', e, -, hgl2, hcell, -⟩ := ownR_at hVr.row (by rw [← HL.out, ← Hq.out]; omega)
      injection e with e _ _
      subst e
      obtain ⟨cl1, cl2⟩ := hcell k (by rw [← HL.out, ← Hq.out]; exact hkq)
      rw [← HL.out] at cl1 cl2
      have hbd := Hbd.out (L.getD k (0, 0)) (by rw [← HL.out, List.getD_eq_getElem?_getD, List.getElem?_eq_getElem (by rw [← Hq.out]; exact hkq)]; exact List.getElem_mem _)
      have hspl := list_split (L := L) (k := k) (by rw [← Hq.out]; exact hkq)
      obtain ⟨x, hx⟩ : ∃ x, x = (L.getD k (0, 0)).1 := ⟨_, rfl⟩
      obtain ⟨y, hy⟩ : ∃ y, y = (L.getD k (0, 0)).2 := ⟨_, rfl⟩
      have hxy : L.getD k (0, 0) = (x, y) := by rw [hx, hy]
      rw [← hx] at cl1
      rw [← hy] at cl2
      rw [hxy] at hbd hspl
      have hbd : 1 ≤ y ∧ x + y ≤ 8192 := hbd
      have hy8 : y ≤ 8192 := by omega
      have hx8 : x ≤ 8192 := by omega
      have Hspl := Lib.hid hspl
      have Hy := Lib.hid hy
      have Hbw := Lib.hid hbw
      obtain ⟨b, hbb⟩ : ∃ b, wr.heap.size = b := ⟨_, rfl⟩
      obtain ⟨W, hW⟩ : ∃ W, wr.alloc (.cells #[.int .i64 (x : Int), .int .i64 (y : Int)] 33) = W := ⟨_, rfl⟩
      have bx : Blk W b 33 #[.int .i64 (x : Int), .int .i64 (y : Int)] := by rw [← hW, ← hbb]; exact Blk.new _ _ _
      have Bx := Lib.hid bx
      have Hbb := Lib.hid hbb
      have x1 : W.cell? ⟨b, 0, none⟩ = some (.int .i64 (x : Int)) := bx.cell 0
      have y1 : W.cell? ⟨b, 1, none⟩ = some (.int .i64 (y : Int)) := bx.cell 1
      have HB2 := Lib.hid (show Below w.heap.size w W by rw [← hW]; exact HB.out.alloc HB.out.size _)
      clear bx hcell hbw hVr hbd hspl hx hy hxy
      by_cases hmy : m ≤ y
      · have z2 : decide ((m : Int) ≤ (y : Int)) = true := by rw [decide_eq_true_eq]; omega
        have z2' : decide (m ≤ y) = true := by rw [decide_eq_true_eq]; exact hmy
        have hLs : Rn.list F = L.take k ++ [(x, y)] ++ L.drop (k + 1) := by rw [← HL.out]; exact Hspl.out
        have hT := Rn.take_at (F := F) (n := (m : Int)) (by omega) hLs (fun r hr => by
          obtain ⟨j, hj, rfl⟩ := List.mem_iff_getElem.1 hr
          have hj' : j < k := by simp at hj; omega
          have := Hall.out j hj'
          rw [List.getElem_take]
          rw [List.getD_eq_getElem?_getD, List.getElem?_eq_getElem (by rw [← Hq.out]; omega)] at this
          have this : (L[j]'(by rw [← Hq.out]; omega)).2 < m := this
          omega) (by omega)
        rw [Int.toNat_natCast] at hT
        have hF' := Lib.hid hT.1
        have hVW : RepV W g X F (.slice (some ⟨gl, 0, none⟩) (Rn.list F).length c) := HV.out.keep fun b hb => HB2.out.block b (HV.out.lt hb)
        have NC := Lib.hid (cut_any (a := x) (n := m) hVW hLs (Nat.le_refl _) hm1 (by omega) hT.2 (Rn.setN_len _ _ _ _))
        rw [show (L.take k).length = k by rw [List.length_take, ← Hq.out]; omega] at NC
        clear hLs hT hVW
        go_wp2_with fail
        refine NC.out.mono ?_
        rintro e w3 ⟨rfl, hop⟩
        clear NC
        have HO := Lib.hid (opR_below HB2.out hop)
        obtain ⟨X', r1, r2, r3⟩ := hop
        have x3 : w3.cell? ⟨b, 0, none⟩ = some (.int .i64 (x : Int)) := by
          have hnx : ¬ X b := fun hx => by have := HV.out.lt hx; have := HB.out.size; have := Hbb.out; omega
          have := Bx.out.keep (r3.block b Bx.out.lt hnx)
          exact this.cell 0
        clear r1 r2 r3
        go_wp2_with fail
        go_returns
        rw [hF'.out]
        exact ⟨rfl, HO.out⟩
      · have z2 : decide ((m : Int) ≤ (y : Int)) = false := by rw [decide_eq_false_iff_not]; omega
        have z2' : decide (m ≤ y) = false := by rw [decide_eq_false_iff_not]; exact hmy
        go_wp2_with fail
        go_roundw
        case rel => exact ⟨k + 1, by go_num, by omega, HB2.out, fun j hj => by
          by_cases hjk : j = k
          · rw [hjk, ← Hy.out]; omega
          · exact Hall.out j (by omega)⟩
        case measure => simp [intOf]; omega
    · have hkq' : k = q := by omega
      subst hkq'
      have z0 : decide ((k : Int) < (k : Int)) = false := by simp
      have z0' : decide (k < k) = false := by simp
      have hT : Rn.take F (m : Int) = (0, false, F) := Rn.take_no fun r hr => by
        rw [← HL.out] at hr
        obtain ⟨j, hj, rfl⟩ := List.mem_iff_getElem.1 hr
        have := Hall.out j (by rw [Hq.out]; exact hj)
        rw [List.getD_eq_getElem?_getD, List.getElem?_eq_getElem hj] at this
        have this : L[j].2 < m := this
        omega
      have hF' := Lib.hid hT
      have Fin := Lib.hid (opR_same HV.out HB.out)
      clear hkq hbw hT
      go_wp2_with fail
      go_returns
      rw [hF'.out]
      exact ⟨rfl, Fin.out⟩
set_option maxRecDepth 8000 in
set_option maxHeartbeats 8000000 in
theorem mark_any' (h : RepP w g X F) (a n : Int) (ha : I64 a) (hn : I64 n) : Calls Try.prog 25 #[.pointer (some ⟨g, 0, none⟩), .int .i64 a, .int .i64 n] w fun e w' => e = .returned (.bool (Rn.mark F a n).1) ∧ OpR RepP g X (Rn.mark F a n).2 w w' := by
  obtain ⟨v, hV⟩ := h
  by_cases hn1 : n < 1
  · have hR : Rn.mark F a n = (false, F) := by
      have e : Rn.all F a n true = false := by
        rw [Bool.eq_false_iff]
        intro ha
        have := (Rn.all_iff F a n true).1 ha
        omega
      unfold Rn.mark Rn.change
      rw [show (!false) = true from rfl, e]; rfl
    rw [hR]
    have z1 : decide (n < 1) = true := by rw [decide_eq_true_eq]; exact hn1
    have Fin := Lib.hid (opR_same hV (Below.refl _ _))
    clear hV hR hn hn1 ha
    go_enter Try.func25, Try.ntmps25
    go_wp2_with fail
    go_ret
    exact ⟨rfl, Fin.out⟩
  obtain ⟨m, rfl⟩ : ∃ m : Nat, n = (m : Int) := ⟨n.toNat, by omega⟩
  have z1 : decide ((m : Int) < 1) = false := by rw [decide_eq_false_iff_not]; omega
  have z1' : decide (m < 1) = false := by rw [decide_eq_false_iff_not]; omega
  have hm63 : (m : Int) < 9223372036854775808 := hn.2
  have hm1 : 1 ≤ m := by omega
  have NB := Lib.hid (behind_any hV a)
  have HV := Lib.hid hV
  have hbl := Rn.bh_le (Rn.list F) a
  have hlen := list_len F
  have few := hV.few
  obtain ⟨q, hq⟩ : ∃ q, q = Rn.bh (Rn.list F) a := ⟨_, rfl⟩
  rw [← hq] at NB hbl
  have Hq := Lib.hid hq
  have hq8 : q ≤ 8192 := by omega
  clear hn hn1 hq
  by_cases hq0 : q = 0
  · have hR := Lib.hid (Rn.mark_zero (F := F) (a := a) (n := (m : Int)) (by rw [← Hq.out]; exact hq0))
    subst hq0
    clear hV hbl hlen few Hq
    go_enter Try.func25, Try.ntmps25
    go_wp2_with fail
    refine NB.out.mono ?_
    rintro e w1 ⟨rfl, hb⟩
    have Fin := Lib.hid (opR_same HV.out hb)
    clear hb NB
    go_wp2_with fail
    go_ret
    rw [hR.out]
    exact ⟨rfl, Fin.out⟩
  obtain ⟨i, hi⟩ : ∃ i, i = q - 1 := ⟨_, rfl⟩
  have s0 : (q : Int) - 1 = (i : Int) := by omega
  have hiL : i < (Rn.list F).length := by omega
  have hspl := list_split hiL
  obtain ⟨s, hs⟩ : ∃ s, s = ((Rn.list F).getD i (0, 0)).1 := ⟨_, rfl⟩
  obtain ⟨k, hk⟩ : ∃ k, k = ((Rn.list F).getD i (0, 0)).2 := ⟨_, rfl⟩
  have hsk : (Rn.list F).getD i (0, 0) = (s, k) := by rw [hs, hk]
  rw [hsk] at hspl
  have hbd : 1 ≤ k ∧ s + k ≤ 8192 := list_b few (s, k) (by rw [hspl]; simp)
  have hAl : ((Rn.list F).take i).length = i := by rw [List.length_take]; omega
  obtain ⟨hsa, hno, hyes⟩ := Rn.mark_at (F := F) (a := a) (n := (m : Int)) (A := (Rn.list F).take i) (D := (Rn.list F).drop (i + 1)) (s := s) (k := k) (by omega) hspl (by rw [← Hq.out, hAl]; omega)
  obtain ⟨p, rfl⟩ : ∃ p : Nat, a = (p : Int) := ⟨a.toNat, by omega⟩
  rw [Int.toNat_natCast, Int.toNat_natCast] at hyes
  have hp63 : (p : Int) < 9223372036854775808 := ha.2
  have hs8 : s ≤ 8192 := by omega
  have hk8 : k ≤ 8192 := by omega
  obtain ⟨e, he⟩ : ∃ e, e = s + k := ⟨_, rfl⟩
  rw [← he] at hno hyes
  have he9 : e ≤ 8192 := by omega
  have NE := Lib.hid (fun W : World => end_any W s k (by omega) (by omega))
  rw [← he] at NE
  obtain ⟨A, c, rfl⟩ := ownR_slice hV.row
  have zi : (0 : Int) ≤ (i : Int) ∧ ¬ ((i : Int) < 0) := by omega
  have zi' : decide ((i : Int) < 0) = false := by rw [decide_eq_false_iff_not]; omega
  obtain ⟨N, hN⟩ : ∃ N, N = (Rn.list F).length := ⟨_, rfl⟩
  have hiN : (i : Int) < (N : Int) := by omega
  have hi8 : i ≤ 8192 := by omega
  have C0 := Lib.hid (fun (W : World) (hb : Below w.heap.size w W) => show RepV W g X F (.slice A (Rn.list F).length c) from HV.out.keep fun b hx => hb.block b (HV.out.lt hx))
  have HN := Lib.hid hN
  have Hsk := Lib.hid hsk
  have Hspl := Lib.hid hspl
  have HAl := Lib.hid hAl
  have He := Lib.hid he
  obtain ⟨gb, hA⟩ : ∃ gb, A = some ⟨gb, 0, none⟩ := by
    obtain ⟨gl, c', h', -⟩ := ownR_at hV.row (by omega)
    injection h' with h'
    exact ⟨gl, h'⟩
  subst hA
  have Cl := Lib.hid (fun (W : World) (hb : Below w.heap.size w W) => show W.cell? ⟨g, 1, none⟩ = some (.slice (some ⟨gb, 0, none⟩) N c) ∧ W.cell? ⟨gb, i * 2, none⟩ = some (.int .i64 (s : Int)) ∧ W.cell? ⟨gb, i * 2 + 1, none⟩ = some (.int .i64 (k : Int)) from by
    have h0 := C0.out W hb
    obtain ⟨gl, c', h', -, -, hcell, -⟩ := ownR_at h0.row (by omega)
    injection h' with h1 h2 h3
    injection h1 with h1
    injection h1 with h1
    subst h1
    have := hcell i hiL
    rw [hsk] at this
    exact ⟨by rw [hN]; exact h0.blk.cell 1, this.1, this.2⟩)
  by_cases hle : (m : Int) ≤ (e : Int) - (p : Int)
  · obtain ⟨hR0, hR1⟩ := hyes hle
    have hR := Lib.hid hR0
    have z2 : decide ((e : Int) - (p : Int) < (m : Int)) = false := by rw [decide_eq_false_iff_not]; omega
    have hpm : s ≤ p ∧ p + m ≤ e := by omega
    have NC := Lib.hid (fun (W : World) (hb : Below w.heap.size w W) => cut_any (a := p) (n := m) (C0.out W hb) hspl (by omega) hm1 (by omega) hR1 (Rn.setN_len _ _ _ _))
    rw [hAl] at NC
    clear hV hbl hlen few Hq hq0 hi hiL hspl hs hk hsk hbd hAl hsa hno hyes hR0 hR1 he hN ha hle
    go_enter Try.func25, Try.ntmps25
    go_wp2_with fail
    refine NB.out.mono ?_
    rintro e1 w1 ⟨rfl, hb⟩
    have HB := Lib.hid hb
    obtain ⟨cg, x0, x1⟩ := Cl.out w1 hb
    clear hb NB
    go_wp2_with (go_at_call 44; refine (NE.out w1).mono ?_; rintro e2 w2 ⟨rfl, hb2⟩)
    have HB2 := Lib.hid (HB.out.trans (hb2.mono HB.out.size))
    clear hb2
    have NC2 := Lib.hid (NC.out w2 HB2.out)
    clear NC
    go_wp2_with fail
    refine NC2.out.mono ?_
    rintro e3 w3 ⟨rfl, hop⟩
    have Fin := Lib.hid (opR_below HB2.out hop)
    clear hop NC2
    go_wp2_with fail
    go_ret
    rw [hR.out]
    exact ⟨rfl, Fin.out⟩
  · have hR := Lib.hid (hno (by omega))
    have z2 : decide ((e : Int) - (p : Int) < (m : Int)) = true := by rw [decide_eq_true_eq]; omega
    have hpm : s ≤ p := by omega
    clear hV hbl hlen few Hq hq0 hi hiL hspl hs hk hsk hbd hAl hsa hno hyes he hN ha hle
    go_enter Try.func25, Try.ntmps25
    go_wp2_with fail
    refine NB.out.mono ?_
    rintro e1 w1 ⟨rfl, hb⟩
    have HB := Lib.hid hb
    obtain ⟨cg, x0, x1⟩ := Cl.out w1 hb
    clear hb NB
    go_wp2_with (go_at_call 44; refine (NE.out w1).mono ?_; rintro e2 w2 ⟨rfl, hb2⟩)
    have Fin := Lib.hid (opR_same HV.out (HB.out.trans (hb2.mono HB.out.size)))
    clear hb2
    go_wp2_with fail
    go_ret
    rw [hR.out]
    exact ⟨rfl, Fin.out⟩
end
end Go.Proofs.Ytaainefdjbmekaa
