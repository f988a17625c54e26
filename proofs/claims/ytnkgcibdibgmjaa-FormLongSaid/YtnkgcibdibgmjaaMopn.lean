/- The program's Open. -/
import Derived.Test.YtnkgcibdibgmjaaMoc
namespace Go.Proofs.Ytnkgcibdibgmjaa
open Go.RowKit

theorem run_eql_byts_nil {P : Program} (w : World) (t e : TypeId) (a : Option Addr) (l c : Nat) (h : P.underlying t = some (.slice e)) : (binOp .eql t (.slice a l c) (.slice none 0 0)).run P w = .ok (.bool a.isNone) w := by
  simp only [binOp]
  simp [run_equal_slice_nil w t e a l c h]

set_option maxHeartbeats 2000000 in
/-- slices.Clone at bytes: the same in new memory. -/
theorem yclone_any {w : World} {A : Option Addr} {c : Nat} {l : List Nat} (h : By w A c l) (n : Nat) (hn : n = l.length) :
    Calls Try.prog 17 #[.slice A n c] w fun e w' => ∃ A' c', e = .returned (.slice A' n c') ∧ By w' A' c' l ∧ Below w.heap.size w w' := by
  subst hn
  obtain ⟨i0, hi0, hz0, hs0, hb0⟩ := byte_parts (P := Try.prog) (e := 5) (by kernel_rfl)
  have hlt := h.lt
  have hlen := h.len
  have hcap := h.cap
  cases A with
  | none =>
    have h0 := h.nil rfl
    subst h0
    have hl : l = [] := List.eq_nil_of_length_eq_zero (by omega)
    subst hl
    have hq := fun w => run_eql_byts_nil (P := Try.prog) w 22 5 none 0 0 Try.underlying22
    rw [show (none : Option Addr).isNone = true from rfl] at hq
    go_enter Try.func17, Try.ntmps17
    go_wp2_with fail
    go_ret
    exact ⟨none, 0, rfl, By.none _, Below.refl _ _⟩
  | some a =>
    have hq := fun w => run_eql_byts_nil (P := Try.prog) w 22 5 (some a) l.length c Try.underlying22
    rw [show (some a : Option Addr).isNone = false from rfl] at hq
    have hown := own_empty (e := 5) (size := 1) w
    have hal : Below w.heap.size w (w.alloc (.cells #[] 5)) := (Below.refl _ _).alloc (Nat.le_refl _) _
    have hsl' : Sl (w.alloc (.cells #[] 5)) w.heap.size (some a) (byts l) := h.sl.below hal
    have hnil := h.nil
    clear h
    go_enter Try.func17, Try.ntmps17
    go_wp2_with (at_builtin; refine wpList_append_sl (base := w.heap.size) _ rfl (.tmp 5) (.tmp 6) _ rfl Try.underlying22 hi0 hz0 hs0 hb0 rfl rfl hown rfl (byts_length l).symm hnil hsl' (byts_one l) (by rw [byts_length]; exact hcap) (by rw [byts_length]; unfold maxLen; omega) (by rw [byts_length]; omega) hal.size ?_; intro v2 w2 hown2 hgr hbl)
    go_ret
    rw [byts_length, Nat.zero_add, List.nil_append] at hown2
    obtain ⟨A2, c2, rfl⟩ := own_slice hown2
    exact ⟨A2, c2, rfl, By.of_own hown2 hlt hlen, hal.grown hgr hal.size (fun g hg => by injection hg with hg; subst hg; exact Nat.le_refl _)⟩

set_option maxRecDepth 4000 in
set_option maxHeartbeats 4000000 in
theorem raw_of {w : World} {A : Option Addr} {c : Nat} {l : List Nat} (h : By w A c l) (m N : Nat) (hN : N = l.length) :
    Calls Try.prog 30 #[.slice A N c, .int .i64 (m : Int)] w (UnpR (if (N : Int) < (m : Int) then ([], 2) else if (m : Int) < (N : Int) then ([], 3) else (l, 0)) w) := by
  obtain ⟨R, hR⟩ : ∃ R : List Nat × Nat, R = (if (N : Int) < (m : Int) then ([], 2) else if (m : Int) < (N : Int) then ([], 3) else (l, 0)) := ⟨_, rfl⟩
  rw [← hR]
  have HN := Lib.hid hN
  have HC := Lib.hid (yclone_any h N hN)
  have hNb : N ≤ 1000000 := by have := h.len; omega
  clear h hN
  by_cases d1 : (N : Int) < (m : Int)
  · rw [if_pos d1] at hR
    have Hr := Lib.hid hR
    have z1 : decide ((N : Int) < (m : Int)) = true := by rw [decide_eq_true_eq]; exact d1
    have z1' : decide (N < m) = true := by rw [decide_eq_true_eq]; omega
    clear hR d1
    go_enter Try.func30, Try.ntmps30
    go_wp2_with fail
    go_returns
    exact unpR_no Hr.out (Below.refl _ _)
  rw [if_neg d1] at hR
  have z1 : decide ((N : Int) < (m : Int)) = false := by rw [decide_eq_false_iff_not]; exact d1
  have z1' : decide (N < m) = false := by rw [decide_eq_false_iff_not]; omega
  by_cases d2 : (m : Int) < (N : Int)
  · rw [if_pos d2] at hR
    have Hr := Lib.hid hR
    have z2 : decide ((m : Int) < (N : Int)) = true := by rw [decide_eq_true_eq]; exact d2
    have z2' : decide (m < N) = true := by rw [decide_eq_true_eq]; omega
    clear hR d1 d2
    go_enter Try.func30, Try.ntmps30
    go_wp2_with fail
    go_returns
    exact unpR_no Hr.out (Below.refl _ _)
  rw [if_neg d2] at hR
  have z2 : decide ((m : Int) < (N : Int)) = false := by rw [decide_eq_false_iff_not]; exact d2
  have z2' : decide (m < N) = false := by rw [decide_eq_false_iff_not]; omega
  have Hr := Lib.hid hR
  clear hR d1 d2
  go_enter Try.func30, Try.ntmps30
  go_wp2_with fail
  refine HC.out.mono ?_
  rintro e w1 ⟨A1, c1, rfl, hy, hb⟩
  have HY := Lib.hid hy
  have HB := Lib.hid hb
  clear hy hb HC
  go_wp2_with fail
  go_returns
  rw [Hr.out]
  exact ⟨A1, c1, by rw [← HN.out]; rfl, HY.out, HB.out⟩

/-- What the format of two steps says. -/
def bothV (l : List Nat) (n : Int) : List Nat × Nat :=
  if l.length < 2 then ([], 2)
  else if 4096 < l.getD 0 0 + l.getD 1 0 * 256 then ([], 3)
  else if (Wd.unpack (l.drop 2) ((l.getD 0 0 + l.getD 1 0 * 256 : Nat) : Int)).2 = 0 then Lz.unpack (Wd.unpack (l.drop 2) ((l.getD 0 0 + l.getD 1 0 * 256 : Nat) : Int)).1 n
  else ([], (Wd.unpack (l.drop 2) ((l.getD 0 0 + l.getD 1 0 * 256 : Nat) : Int)).2)

set_option maxRecDepth 4000 in
set_option maxHeartbeats 4000000 in
theorem both_op (hU1 : UnpackC) (hU2 : WUnpackC) {w : World} {A : Option Addr} {c : Nat} {l : List Nat} (h : By w A c l) (hlen : l.length ≤ 100000) (m : Nat) (N : Nat) (hN : N = l.length) :
    Calls Try.prog 32 #[.slice A N c, .int .i64 (m : Int)] w (UnpR (bothV l (m : Int)) w) := by
  obtain ⟨i0, hi0, hz0, hs0, hb0⟩ := byte_parts (P := Try.prog) (e := 5) (by kernel_rfl)
  obtain ⟨R, hR⟩ : ∃ R, R = bothV l (m : Int) := ⟨_, rfl⟩
  rw [← hR]
  unfold bothV at hR
  have H := Lib.hid h
  have HN := Lib.hid hN
  have hNb : N ≤ 100000 := by omega
  clear h hN hlen
  rw [← HN.out] at hR
  by_cases d1 : N < 2
  · rw [if_pos d1] at hR
    have Hr := Lib.hid hR
    have z2 : decide ((N : Int) < 2) = true := by rw [decide_eq_true_eq]; omega
    have z2' : decide (N < 2) = true := by rw [decide_eq_true_eq]; omega
    clear hR d1
    go_enter Try.func32, Try.ntmps32
    go_wp2_with fail
    go_returns
    exact unpR_no Hr.out (Below.refl _ _)
  rw [if_neg d1] at hR
  have z2 : decide ((N : Int) < 2) = false := by rw [decide_eq_false_iff_not]; omega
  have z2' : decide (N < 2) = false := by rw [decide_eq_false_iff_not]; omega
  obtain ⟨b, o, rfl, cx0⟩ := sl_cell H.out.sl (k := 0) (by rw [← HN.out]; omega)
  obtain ⟨b', o', e', cx1⟩ := sl_cell H.out.sl (k := 1) (by rw [← HN.out]; omega)
  injection e' with e'
  injection e' with e1 e2 _
  subst e1; subst e2
  have hx0 := getB_lt H.out.lt 0
  have hx1 := getB_lt H.out.lt 1
  have B2 := Lib.hid (H.out.from2 (k := 2) (by rw [← HN.out]; omega))
  have cut2 := run_slice_from (P := Try.prog) Try.underlying22 hi0 hs0 (some ⟨b, o, none⟩) N c 2 (by omega)
  rw [show ((2 : Nat) : Int) = 2 from rfl] at cut2
  generalize cutA (some ⟨b, o, none⟩) c 2 = A2 at *
  generalize l.getD 0 0 = x0 at *
  generalize l.getD 1 0 = x1 at *
  rw [Nat.add_zero] at cx0
  obtain ⟨M, hM⟩ : ∃ M : Nat, M = x0 + x1 * 256 := ⟨_, rfl⟩
  rw [← hM] at hR
  have hor := or8 hx0 hx1
  have hMi : (x0 : Int) + (x1 : Int) * 256 = (M : Int) := by omega
  rw [hMi] at hor
  have zN0 : (0 : Int) < (N : Int) := by omega
  have zN1 : (1 : Int) < (N : Int) := by omega
  have w1 : IntKind.i64.wrap ((x1 : Int) * 256) = (x1 : Int) * 256 := by rw [IntKind.wrap_i64]; omega
  have hM6 : M < 65536 := by omega
  have z0N : 0 < N := by omega
  have z1N : 1 < N := by omega
  clear hM hMi
  by_cases d2 : 4096 < M
  · rw [if_pos d2] at hR
    have Hr := Lib.hid hR
    have z3 : decide (4096 < (M : Int)) = true := by rw [decide_eq_true_eq]; omega
    have z3' : decide (4096 < M) = true := by rw [decide_eq_true_eq]; omega
    clear hR d1 d2 hi0 hz0 hs0 hb0
    go_enter Try.func32, Try.ntmps32
    go_wp2_with fail
    go_quiet (fail)
    go_wp2_with fail
    go_returns
    exact unpR_no Hr.out (drewN_below _)
  rw [if_neg d2] at hR
  have z3 : decide (4096 < (M : Int)) = false := by rw [decide_eq_false_iff_not]; omega
  have z3' : decide (4096 < M) = false := by rw [decide_eq_false_iff_not]; omega
  obtain ⟨U, hU⟩ : ∃ U, U = Wd.unpack (l.drop 2) ((M : Nat) : Int) := ⟨_, rfl⟩
  rw [← hU] at hR
  have NW := Lib.hid (fun d => hU2 _ _ _ _ ((M : Nat) : Int) (N - 2) (B2.out.below (drewN_below d)) (by rw [List.length_drop, ← HN.out]; omega) (by rw [List.length_drop, HN.out]))
  rw [← hU] at NW
  have HUl := Lib.hid (show U.1.length ≤ 4096 by rw [hU]; exact Wd.unpack_few _ _)
  have HRr := Lib.hid hR
  clear hR hU d1 d2 hi0 hz0 hs0 hb0 H B2
  go_enter Try.func32, Try.ntmps32
  go_wp2_with fail
  go_quiet (fail)
  go_wp2_with fail
  refine (NW.out _).mono ?_
  rintro e w3 ⟨A3, c3, rfl, hy3, hb3⟩
  have Y3 := Lib.hid hy3
  have hbw : Below w.heap.size w w3 := (drewN_below nq).trans hb3
  have B3 := Lib.hid hbw
  clear hy3 hb3 hbw NW
  by_cases u0 : U.2 = 0
  · have hr := HRr.out
    rw [if_pos u0] at hr
    have z4 : (((U.2 : Nat) : Int) != 0) = false := by rw [u0]; rfl
    have z4' : (U.2 != 0) = false := by rw [u0]; rfl
    have N4 := Lib.hid (hU1 _ _ _ _ (m : Int) U.1.length Y3.out (by have := HUl.out; omega) rfl)
    rw [← hr] at N4
    clear hr u0
    go_wp2_with fail
    refine N4.out.mono ?_
    rintro e w5 ⟨A5, c5, rfl, hy, hb⟩
    have Fin := Lib.hid (show UnpR R w (.returned (.tuple #[.slice A5 R.1.length c5, .int .i64 (R.2 : Int)])) w5 from ⟨A5, c5, rfl, hy, B3.out.trans (hb.mono B3.out.size)⟩)
    clear hy hb
    go_wp2_with fail
    go_returns
    exact Fin.out
  · have hr := HRr.out
    rw [if_neg u0] at hr
    have Hr := Lib.hid hr
    have z4 : (((U.2 : Nat) : Int) != 0) = true := by rw [bne_iff_ne]; omega
    have z4' : (U.2 != 0) = true := by rw [bne_iff_ne]; exact u0
    clear hr u0
    go_wp2_with fail
    go_returns
    exact unpR_no Hr.out B3.out

set_option maxRecDepth 4000 in
set_option maxHeartbeats 4000000 in
theorem open_of (hU1 : UnpackC) (hU2 : WUnpackC) {w : World} {A : Option Addr} {c : Nat} {l : List Nat} (h : By w A c l) (hlen : l.length ≤ 100000) (k n : Int) (N : Nat) (hN : N = l.length) :
    Calls Try.prog 13 #[.int .i64 k, .slice A N c, .int .i64 n] w (UnpR (Mo.open_ k l n) w) := by
  obtain ⟨R, hR⟩ : ∃ R, R = Mo.open_ k l n := ⟨_, rfl⟩
  rw [← hR]
  unfold Mo.open_ at hR
  have H := Lib.hid h
  have HN := Lib.hid hN
  have hNb : N ≤ 100000 := by omega
  clear h hN hlen
  by_cases c3 : n < 0
  · rw [if_pos (by omega)] at hR
    have Hr := Lib.hid hR
    have q3 : decide (n < 0) = true := by rw [decide_eq_true_eq]; exact c3
    clear hR c3
    go_enter Try.func13, Try.ntmps13
    go_wp2_with fail
    go_returns
    exact unpR_no Hr.out (Below.refl _ _)
  have q3 : decide (n < 0) = false := by rw [decide_eq_false_iff_not]; exact c3
  by_cases c4 : 4096 < n
  · rw [if_pos (by omega)] at hR
    have Hr := Lib.hid hR
    have q4 : decide (4096 < n) = true := by rw [decide_eq_true_eq]; exact c4
    clear hR c3 c4
    go_enter Try.func13, Try.ntmps13
    go_wp2_with fail
    go_returns
    exact unpR_no Hr.out (Below.refl _ _)
  have q4 : decide (4096 < n) = false := by rw [decide_eq_false_iff_not]; exact c4
  obtain ⟨m, rfl⟩ : ∃ m : Nat, n = (m : Int) := ⟨n.toNat, by omega⟩
  have q4' : decide (4096 < m) = false := by rw [decide_eq_false_iff_not]; omega
  by_cases kk : k < 0 ∨ 2 < k
  · rw [if_pos (by omega)] at hR
    have Hr := Lib.hid hR
    have z0 : (k == 0) = false := by rw [beq_eq_false_iff_ne]; omega
    have z1 : (k == 1) = false := by rw [beq_eq_false_iff_ne]; omega
    have z2 : (k == 2) = false := by rw [beq_eq_false_iff_ne]; omega
    clear hR c3 c4 kk
    go_enter Try.func13, Try.ntmps13
    go_wp2_with fail
    go_returns
    exact unpR_no Hr.out (Below.refl _ _)
  rw [if_neg (by omega)] at hR
  by_cases k0 : k = 0
  · subst k0
    rw [if_pos rfl, ← HN.out] at hR
    have N1 := Lib.hid (raw_of H.out m N HN.out)
    rw [← hR] at N1
    clear hR c3 c4 kk
    go_enter Try.func13, Try.ntmps13
    go_wp2_with fail
    refine N1.out.mono ?_
    rintro e w1 ⟨A1, cc1, rfl, hy, hb⟩
    have Fin := Lib.hid (show UnpR R w (.returned (.tuple #[.slice A1 R.1.length cc1, .int .i64 (R.2 : Int)])) w1 from ⟨A1, cc1, rfl, hy, hb⟩)
    clear hy hb
    go_wp2_with fail
    go_returns
    exact Fin.out
  have z0 : (k == 0) = false := by rw [beq_eq_false_iff_ne]; exact k0
  rw [if_neg k0] at hR
  by_cases k1 : k = 1
  · subst k1
    rw [if_pos rfl] at hR
    have N1 := Lib.hid (hU1 w A c l (m : Int) N H.out (by rw [← HN.out]; exact hNb) HN.out)
    rw [← hR] at N1
    clear hR c3 c4 kk
    go_enter Try.func13, Try.ntmps13
    go_wp2_with fail
    refine N1.out.mono ?_
    rintro e w1 ⟨A1, cc1, rfl, hy, hb⟩
    have Fin := Lib.hid (show UnpR R w (.returned (.tuple #[.slice A1 R.1.length cc1, .int .i64 (R.2 : Int)])) w1 from ⟨A1, cc1, rfl, hy, hb⟩)
    clear hy hb
    go_wp2_with fail
    go_returns
    exact Fin.out
  have z1 : (k == 1) = false := by rw [beq_eq_false_iff_ne]; exact k1
  obtain rfl : k = 2 := by omega
  clear z0 z1
  rw [if_neg k1] at hR
  have N1 := Lib.hid (both_op hU1 hU2 H.out (by rw [← HN.out]; exact hNb) m N HN.out)
  rw [show bothV l (m : Int) = R from hR.symm] at N1
  clear hR c3 c4 kk k0 k1
  go_enter Try.func13, Try.ntmps13
  go_wp2_with fail
  refine N1.out.mono ?_
  rintro e w1 ⟨A1, cc1, rfl, hy, hb⟩
  have Fin := Lib.hid (show UnpR R w (.returned (.tuple #[.slice A1 R.1.length cc1, .int .i64 (R.2 : Int)])) w1 from ⟨A1, cc1, rfl, hy, hb⟩)
  clear hy hb
  go_wp2_with fail
  go_returns
  exact Fin.out
theorem open_has (hU1 : UnpackC) (hU2 : WUnpackC) : OpenC := fun _ _ _ _ k n N h hl hN => open_of hU1 hU2 h hl k n N hN
end Go.Proofs.Ytnkgcibdibgmjaa
