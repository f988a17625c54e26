/- The program's equalFrom and appendTable. -/
import Derived.Test.YtnkgcibdibgmjaaWok
import Derived.Test.YtnkgcibdibgmjaaBy
import Derived.Test.YtnkgcibdibgmjaaWtbl
import Derived.BigRegion
import Derived.BigQuiet
namespace Go.Proofs.Ytnkgcibdibgmjaa
open Go.RowKit

/-- A run at the beginning of a list. -/
structure EqF (L : List Int) (n : Nat) : Prop where
  one : 1 ≤ n
  len : n ≤ L.length
  most : n ≤ 16
  same : ∀ j, j < n → L.getD j 0 = L.getD 0 0
  last : n = L.length ∨ n = 16 ∨ L.getD n 0 ≠ L.getD 0 0
theorem sl_int {w : World} {B : Nat} {A : Option Addr} {l : List Int} (h : Sl w B A (l.map (Value.int .i64))) {k : Nat} (hk : k < l.length) : ∃ b o, A = some ⟨b, o, none⟩ ∧ w.cell? ⟨b, o + k, none⟩ = some (.int .i64 (l.getD k 0)) := by
  obtain ⟨b, o, e, _, hc⟩ := h.at_ (i := k) (by rw [List.length_map]; exact hk)
  refine ⟨b, o, e, ?_⟩
  rw [hc k (by rw [List.length_map]; exact hk), List.getElem_map, List.getD_eq_getElem?_getD, List.getElem?_eq_getElem hk]
  rfl

set_option maxHeartbeats 2000000 in
theorem eqf_any {w : World} {A : Option Addr} {L : List Int} (cap m : Nat) (hm : m = L.length) (h1 : 1 ≤ L.length) (h2 : L.length ≤ 256) (hsl : Sl w w.heap.size A (L.map (Value.int .i64))) :
    Calls Try.prog 46 #[.slice A m cap] w fun e w' => ∃ n d : Nat, e = .returned (.int .i64 (n : Int)) ∧ EqF L n ∧ w' = w.drewN d := by
  obtain ⟨b, o, rfl, c0⟩ := sl_int hsl (k := 0) h1
  obtain ⟨q, hq⟩ : ∃ q, q = if 16 < m then 16 else m := ⟨_, rfl⟩
  have hq1 : q ≤ 16 ∧ q ≤ m ∧ (q = 16 ∨ q = m) := by rw [hq]; split <;> omega
  have hmin : ∀ (ts : Array TypeId) (t : TypeId) (W : World), (Builtin.min_ ts t #[.int .i64 (m : Int), .int .i64 16]).run Try.prog W = .ok (.int .i64 (q : Int)) W := fun ts t W => by
    rw [run_min_int2, show (if (16 : Int) < (m : Int) then (16 : Int) else (m : Int)) = (q : Int) by rw [hq]; split <;> split <;> omega]
  have Cx := Lib.hid (fun k (hk : k < L.length) => show ∃ z, L.getD k 0 = z ∧ w.cell? ⟨b, o + k, none⟩ = some (.int .i64 z) from by
    obtain ⟨b', o', e, hc⟩ := sl_int hsl hk
    injection e with e; injection e with e1 e2 _
    subst e1; subst e2
    exact ⟨_, rfl, hc⟩)
  obtain ⟨x, hx⟩ : ∃ x, L.getD 0 0 = x := ⟨_, rfl⟩
  rw [hx, Nat.add_zero] at c0
  have Hx := Lib.hid hx
  have Hm := Lib.hid hm
  have H1 := Lib.hid h1
  clear hq hsl hx hm
  go_enter Try.func46, Try.ntmps46
  go_wp2_with fail
  go_loopw [3] (fun v wr => ∃ (k d : Nat), v = .int .i64 (k : Int) ∧ 1 ≤ k ∧ k ≤ q ∧ (∀ j, j < k → L.getD j 0 = x) ∧ wr = w.drewN d) (fun v _ => 16 - (intOf v).toNat)
  case atStart => exact ⟨1, 0, rfl, Nat.le_refl _, by have := H1.out; have := Hm.out; omega, fun j hj => by rw [show j = 0 by omega]; exact Hx.out, rfl⟩
  case round =>
    obtain ⟨k, d, rfl, hk1, hkq, hsm, rfl⟩ := hrel
    have Hs := Lib.hid hsm
    clear hsm
    by_cases hlt : k < q
    · have q0 : decide ((k : Int) < (q : Int)) = true := by rw [decide_eq_true_eq]; omega
      have q0' : decide (k < q) = true := by rw [decide_eq_true_eq]; omega
      have hkm : k < m := by omega
      obtain ⟨y, hy, cy⟩ := Cx.out k (by have := Hm.out; omega)
      have Hy := Lib.hid hy
      clear hy
      by_cases hxy : y = x
      · have q1 : ((y : Int) == x) = true := by rw [beq_iff_eq]; exact hxy
        have Hxy := Lib.hid hxy
        clear hxy
        go_wp2_with fail
        go_quiet (fail)
        go_wp2_with fail
        go_roundw
        case rel =>
          refine ⟨k + 1, d + nq, by go_num, by omega, by omega, fun j hj => ?_, by simp⟩
          by_cases hjk : j = k
          · rw [hjk, Hy.out, Hxy.out]
          · exact Hs.out j (by omega)
        case measure => simp [intOf]; omega
      · have q1 : ((y : Int) == x) = false := by rw [beq_eq_false_iff_ne]; exact hxy
        have Hxy := Lib.hid hxy
        clear hxy
        go_wp2_with fail
        go_quiet (fail)
        go_wp2_with fail
        go_ret
        exact ⟨k, d + nq, rfl, ⟨hk1, by have := Hm.out; omega, by omega, fun j hj => by rw [Hs.out j hj, Hx.out], .inr (.inr (by rw [Hy.out, Hx.out]; exact Hxy.out))⟩, by simp⟩
    · have hkq' : k = q := by omega
      have q0 : decide ((k : Int) < (q : Int)) = false := by rw [decide_eq_false_iff_not]; omega
      have q0' : decide (k < q) = false := by rw [decide_eq_false_iff_not]; omega
      go_wp2_with fail
      go_quiet (fail)
      go_wp2_with fail
      go_ret
      exact ⟨k, d + nq, rfl, ⟨hk1, by have := Hm.out; omega, by omega, fun j hj => by rw [Hs.out j hj, Hx.out], by have := Hm.out; omega⟩, by simp⟩

theorem slice256 (g : Nat) {s : Nat} (hs : s < 256) (w : World) : (Instr.sliceAt 50 (.pointer (some ⟨g, 0, none⟩)) (some (.int .i64 (s : Int))) none none).run Try.prog w = .ok (.slice (some ⟨g, s, none⟩) (256 - s) (256 - s)) w := by
  have hu := Try.underlying50
  obtain ⟨i, hi, hsz⟩ : ∃ i : TypeInfo, Try.prog.info? 3 = some i ∧ i.size = 1 := by
    have h : (Try.prog.info? 3).map (fun i => i.size) = some 1 := by kernel_rfl
    obtain ⟨i, hi, hh⟩ := Option.map_eq_some_iff.1 h
    exact ⟨i, hi, hh⟩
  simp [Instr.sliceAt, Instr.sureAddr, run_underlying hu, Instr.sliceBounds, Instr.sliceBound, sizeOf, typeInfo, hi, hsz, asIntOf, Addr.add]
  rw [if_pos (by omega), if_neg (by omega)]
  by_cases h : s = 0
  · subst h; simp
  · rw [if_neg h]

/-- Between two entries: s lengths are written, as the bytes o. -/
structure Apt (w1 wr : World) (g s n : Nat) (t : TypeId) (C : Array Value) (l : List Int) (o : List Nat) (A : Option Addr) (c : Nat) : Prop where
  own : OwnB wr w1.heap.size A n c o
  bel : Below w1.heap.size w1 wr
  box : Blk wr g t C
  few : n ≤ s
  is : Wd.runsB (Wd.runsOf l) = o ++ Wd.runsB (Wd.runsOf (l.drop s))

set_option maxRecDepth 8000 in
set_option maxHeartbeats 8000000 in
theorem atab_any (w : World) (l : List Int) (hl : l.length = 256) (hr : ∀ x ∈ l, 0 ≤ x ∧ x ≤ 11) :
    Calls Try.prog 28 #[.slice none 0 0, .agg (ints l)] w fun e w' => ∃ A c, e = .returned (.slice A (Wd.runsB (Wd.runsOf l)).length c) ∧ OwnB w' w.heap.size A (Wd.runsB (Wd.runsOf l)).length c (Wd.runsB (Wd.runsOf l)) ∧ Below w.heap.size w w' := by
  obtain ⟨i0, hi0, hzb, hs0, hb0⟩ := byte_parts (P := Try.prog) (e := 5) (by kernel_rfl)
  obtain ⟨t, N, ht, hN, hagg, hix, hund, hsz, -⟩ := t256
  obtain ⟨C, hC⟩ : ∃ C, C = ints l := ⟨_, rfl⟩
  rw [← hC]
  have Hsl := Lib.hid (fun g s (hs : s < 256) W => slice256 g (s := s) hs W)
  have E1 : ∀ a, Op.box 50 a = Op.box t a := by rw [ht]; exact fun _ => rfl
  have E2 : ∀ a b c d, Op.slice 50 a b c d = Op.slice t a b c d := by rw [ht]; exact fun _ _ _ _ => rfl
  have E3 : ∀ a b, Op.indexAddr 50 a b = Op.indexAddr t a b := by rw [ht]; exact fun _ _ => rfl
  rw [← ht] at Hsl
  obtain ⟨w1, hw1⟩ : ∃ x, x = w.alloc (.cells C t) := ⟨_, rfl⟩
  obtain ⟨g, hg⟩ : ∃ g, w.heap.size = g := ⟨_, rfl⟩
  have b1 : Blk w1 g t C := by rw [hw1, ← hg]; exact Blk.new _ _ _
  have hs1 : w1.heap.size = g + 1 := by rw [hw1, ← hg]; simp
  have H0 := Lib.hid (show Apt w1 w1 g 0 0 t C l [] none 0 from ⟨World.ownsRow_nil _ _ _ _, Below.refl _ _, b1, Nat.le_refl _, by rw [List.drop_zero, List.nil_append]⟩)
  have HB := Lib.hid (show Below w.heap.size w w1 by rw [hw1]; exact (Below.refl _ _).alloc (Nat.le_refl _) _)
  have e1 : w.alloc (.cells C t) = w1 := hw1.symm
  have HC := Lib.hid hC
  have Hl := Lib.hid hl
  have Hr := Lib.hid hr
  have Hix := Lib.hid hix
  have Hg := Lib.hid hg
  have Hs1 := Lib.hid hs1
  clear ht hN hix hC hw1 b1 hl hr hs1
  go_enter Try.func28, Try.ntmps28
  simp only [E1, E2, E3]
  clear E1 E2 E3
  go_wp2_with fail
  go_loopw [0, 5] (fun v k wr => ∃ (s n : Nat) (o : List Nat) (A : Option Addr) (c : Nat), k = .int .i64 (s : Int) ∧ s ≤ 256 ∧ v = .slice A n c ∧ Apt w1 wr g s n t C l o A c) (fun _ k _ => 256 - (intOf k).toNat)
  case atStart => exact ⟨0, 0, [], none, 0, rfl, by decide, rfl, H0.out⟩
  case round =>
    obtain ⟨s, n, o, A, c, rfl, hs, rfl, hd⟩ := hrel
    have D := Lib.hid hd
    clear hd e1 H0 hg
    by_cases hlt : s < 256
    · have q0 : decide ((s : Int) < 256) = true := by rw [decide_eq_true_eq]; omega
      have q0' : decide (s < 256) = true := by rw [decide_eq_true_eq]; exact hlt
      have sl := fun W => Hsl.out g s hlt W
      have hdl : (l.drop s).length = 256 - s := by rw [List.length_drop, Hl.out]
      have hlts := D.out.box.lt
      have hsl : Sl wr wr.heap.size (some ⟨g, s, none⟩) ((l.drop s).map (Value.int .i64)) := .inr ⟨g, s, rfl, hlts, fun i hi => by
        rw [List.length_map, hdl] at hi
        rw [D.out.box.cell, HC.out, ints_at (by rw [Hl.out]; omega), List.getElem_map, List.getElem_drop, List.getD_eq_getElem?_getD, List.getElem?_eq_getElem (by rw [Hl.out]; omega)]; rfl⟩
      have N := Lib.hid (eqf_any (256 - s) (256 - s) hdl.symm (by omega) (by omega) hsl)
      have hx0 : (l.drop s).getD 0 0 = l.getD s 0 := by
        rw [List.getD_eq_getElem?_getD, List.getElem?_drop, Nat.add_zero, ← List.getD_eq_getElem?_getD]
      have hx : 0 ≤ l.getD s 0 ∧ l.getD s 0 ≤ 11 := by
        have hkl : s < l.length := by rw [Hl.out]; exact hlt
        have := Hr.out (l[s]'hkl) (List.getElem_mem hkl)
        rw [List.getD_eq_getElem?_getD, List.getElem?_eq_getElem hkl]; exact this
      obtain ⟨x, hxe⟩ : ∃ x : Nat, l.getD s 0 = (x : Int) := ⟨(l.getD s 0).toNat, by omega⟩
      rw [hxe] at hx hx0
      have hx11 : x ≤ 11 := by omega
      have cx : wr.cell? ⟨g, s, none⟩ = some (.int .i64 (x : Int)) := by rw [D.out.box.cell, HC.out, ints_at (by rw [Hl.out]; exact hlt), hxe]
      have Hx0 := Lib.hid hx0
      have Hdl := Lib.hid hdl
      clear hsl hdl hx hxe hx0
      go_wp2_with fail
      refine N.out.mono ?_
      rintro e w2 ⟨n2, d, rfl, hq, hw2⟩
      have HQ := Lib.hid hq
      have h1 := hq.one
      have h2 := hq.most
      have h3 := hq.len
      rw [Hdl.out] at h3
      have D2 := Lib.hid (show Apt w1 w2 g s n t C l o A c by
        subst hw2
        exact ⟨own_keep D.out.own fun _ _ _ => rfl, ⟨D.out.bel.os, D.out.bel.tape, D.out.bel.output, D.out.bel.size, D.out.bel.block⟩, D.out.box.keep rfl, D.out.few, D.out.is⟩)
      have cx2 : w2.cell? ⟨g, s, none⟩ = some (.int .i64 (x : Int)) := by subst hw2; exact cx
      have ix2 := Hix.out .i64 s hlt g
      have hor := ortbl hx11 h1 h2
      obtain ⟨y, hy⟩ : ∃ y, y = x * 16 + (n2 - 1) := ⟨_, rfl⟩
      rw [← hy] at hor
      have hy256 : y < 256 := by omega
      have hyw : IntKind.u8.wrap (y : Int) = (y : Int) := by rw [IntKind.wrap_u8]; omega
      have hrt := Wd.runs_take (l := l.drop s) h1 hq.len h2 hq.same hq.last (fun z hz => (Hr.out z (List.mem_of_mem_drop hz)).1)
      rw [Hx0.out, Int.toNat_natCast, List.drop_drop] at hrt
      have hrb : Wd.runsB (Wd.runsOf (l.drop s)) = y :: Wd.runsB (Wd.runsOf (l.drop (s + n2))) := by
        rw [hrt]; unfold Wd.runsB; rw [List.map_cons, hy]
      have Hrb := Lib.hid hrb
      have hal : Below w1.heap.size w2 (w2.alloc (.cells #[.int .u8 (y : Int)] 5)) := (Below.refl _ _).alloc D2.out.bel.size _
      have Mz := Lib.hid (ownB_alloc D2.out.own (.cells #[.int .u8 (y : Int)] 5))
      have Sz := Lib.hid (sl_cells (w := w2) (cs := #[.int .u8 (y : Int)]) (l := [y]) rfl)
      have Bz := Lib.hid (D2.out.bel.trans hal)
      have Kz := Lib.hid (D2.out.box.alloc (.cells #[.int .u8 (y : Int)] 5))
      have hwB2 : w1.heap.size ≤ (w2.alloc (.cells #[.int .u8 (y : Int)] 5)).heap.size := Bz.out.size
      have hfew := D2.out.few
      have Hy := Lib.hid hy
      clear hq hw2 cx N hy hrt hrb hal
      go_wp2_with (at_builtin; refine wpList_append_sl (base := w1.heap.size) _ rfl (.tmp 12) (.tmp 21) _ rfl Try.underlying22 hi0 hzb hs0 hb0 rfl rfl Mz.out rfl (byts_length [y]).symm (by simp) Sz.out (byts_one _) (by rw [byts_length]; exact Nat.le_refl _) (by rw [byts_length]; unfold maxLen; simp; omega) (by rw [byts_length]; simp; omega) hwB2 ?_; intro v8 w8 k1 k2 _; obtain ⟨A8, c8, rfl, m8, b8⟩ := ownB_app Mz.out hwB2 (r := [y]) rfl (show n + 1 = n + 1 from rfl) k1 k2; have M8 := Lib.hid m8; have B8 := Lib.hid b8; clear k1 k2 m8 b8)
      go_roundw
      case rel =>
        refine ⟨s + n2, n + 1, o ++ [y], A8, c8, by go_num, by omega, rfl, ⟨M8.out, Bz.out.trans B8.out, Kz.out.keep (B8.out.block g (by have := Hs1.out; omega)), by omega, ?_⟩⟩
        rw [D2.out.is, Hrb.out, List.append_assoc]; rfl
      case measure => simp [intOf]; omega
    · have hs6 : s = 256 := by omega
      subst hs6
      have q0 : decide ((256 : Int) < 256) = false := by simp
      have hend : Wd.runsB (Wd.runsOf l) = o := by
        rw [D.out.is, List.drop_eq_nil_of_le (by rw [Hl.out]; exact Nat.le_refl _)]; simp [Wd.runsOf, Wd.runsB]
      have hlen := ownB_len D.out.own
      have Hlen := Lib.hid hlen
      have Hend := Lib.hid hend
      clear hend hlen
      go_wp2_with fail
      go_ret
      refine ⟨A, c, by rw [Hend.out, Hlen.out]; rfl, by rw [Hend.out, Hlen.out]; exact World.ownsRow_base D.out.own HB.out.size, HB.out.trans (D.out.bel.mono HB.out.size)⟩
end Go.Proofs.Ytnkgcibdibgmjaa
