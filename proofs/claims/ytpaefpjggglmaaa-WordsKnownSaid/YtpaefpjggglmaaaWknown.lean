/- WordsKnown, under what the program's functions are held to. -/
import Derived.Test.YtpaefpjggglmaaaWskew
namespace Go.Proofs.Ytpaefpjggglmaaa
open Go.RowKit

theorem mine_at {w0 w : World} {A : Option Addr} {n c : Nat} {l : List Nat} (h : Mine w0 w A n c l) (hn : 0 < n) : ∃ g, A = some ⟨g, 0, none⟩ ∧ w0.heap.size ≤ g ∧ (∀ i, i < n → w.cell? ⟨g, i, none⟩ = some (.int .u8 ((l.getD i 0 : Nat) : Int))) ∧ (∀ i, w.frozen? ⟨g, i, none⟩ = false) ∧
    ∀ j x : Nat, Mine w0 (w.setCell ⟨g, j, none⟩ (.int .u8 (x : Int))) A n c (l.set j x) := by
  have hl := h.len
  have ho := h.own
  rcases ho.2 with ⟨h', h0⟩ | ⟨g, cap, cur, h', hg, _⟩
  · omega
  · injection h' with hA hn' hc'
    subst hA
    refine ⟨g, rfl, hg, fun i hi => ?_, fun i => h.own.frozenAt i, fun j x => ⟨?_, h.bel.setCell hg _⟩⟩
    · rw [h.own.cellAt i (by omega), byts_at (by omega)]
    · have := (h.own.stored j (.int .u8 (x : Int))).1
      rw [byts_set] at this
      exact this
def two17 : List Nat := [17, 15, 15, 15, 15, 15, 15, 15, 15, 15, 15, 15, 15, 15, 15, 15, 13]
theorem two17_lt : ∀ x ∈ two17, x < 256 := by decide
theorem unp_k0 : Wd.unpack [17, 15, 15, 15, 15, 15, 15, 15, 15, 15, 15, 15, 15, 15, 15, 15, 13, 160] 3 = ([1, 0, 1], 0) := by decide +kernel
theorem unp_k1 : Wd.unpack [17, 15, 15, 15, 15, 15, 15, 15, 15, 15, 15, 15, 15, 15, 15, 15, 13, 161] 3 = ([], 4) := by decide +kernel
theorem unp_k2 : Wd.unpack [17, 15, 15, 15, 15, 15, 15, 15, 15, 15, 15, 15, 15, 15, 15, 15, 13, 160, 0] 3 = ([], 3) := by decide +kernel
theorem unp_k3 : Wd.unpack [17, 15, 15, 15, 15, 15, 15, 15, 15, 15, 15, 15, 15, 15, 15, 15, 13] 3 = ([], 2) := by decide +kernel
theorem unp_k4 : Wd.unpack [17, 15, 15, 15, 15, 15, 15, 15, 15] 0 = ([], 2) := by decide +kernel
theorem unp_k5 : Wd.unpack [17, 15, 15, 15, 15, 15, 15, 15, 15, 15, 15, 15, 15, 15, 15, 15, 15] 0 = ([], 4) := by decide +kernel
theorem unp_k6 : Wd.unpack [18, 15, 15, 15, 15, 15, 15, 15, 15, 15, 15, 15, 15, 15, 15, 15, 12] 0 = ([], 4) := by decide +kernel
theorem unp_k7 : Wd.unpack [192] 0 = ([], 4) := by decide +kernel
theorem unp_k8 : Wd.unpack [16, 15, 15, 15, 15, 15, 15, 15, 15, 15, 15, 15, 15, 15, 15, 15, 14, 0] 5 = ([0, 0, 0, 0, 0], 0) := by decide +kernel
theorem unp_k9 : Wd.unpack [16, 15, 15, 15, 15, 15, 15, 15, 15, 15, 15, 15, 15, 15, 15, 15, 14, 128] 1 = ([], 4) := by decide +kernel
theorem bstr_101 : bstr [1, 0, 1] = ⟨#[1, 0, 1]⟩ := by kernel_rfl
theorem bstr_00000 : bstr [0, 0, 0, 0, 0] = ⟨#[0, 0, 0, 0, 0]⟩ := by kernel_rfl
/-- A call of Unpack whose answer is known. -/
theorem wkcall (hU : WUnpackC) {l D : List Nat} {n : Int} {E : Nat} (hR : Wd.unpack l n = (D, E)) (hs : l.length ≤ 100000) (N m : Nat) (hN : N = l.length) (hm : m = D.length) : ∀ (W : World) (A : Option Addr) (c : Nat), By W A c l →
    Calls Try.prog 9 #[.slice A N c, .int .i64 n] W fun e w' => ∃ A' c', e = .returned (.tuple #[.slice A' m c', .int .i64 (E : Int)]) ∧ By w' A' c' D ∧ Below W.heap.size W w' := by
  intro W A c h
  refine (hU W A c l n N h hs hN).mono ?_
  rintro e w' ⟨A', c', he, hb, hw⟩
  rw [hR] at he hb
  exact ⟨A', c', by rw [he, hm], hb, hw⟩

set_option maxRecDepth 10000 in
set_option maxHeartbeats 16000000 in
theorem wknown_any (hU : WUnpackC) {P : List Nat → List Nat} (hP : WPackC P) (hO : WPackOk P) (w : World) :
    Calls Try.prog 6 #[] w fun e w' => e = .returned (.bool true) ∧ Below w.heap.size w w' := by
  have AW := Lib.hid (fun w => wawake_any hU hP hO w)
  obtain ⟨i0, hi0, hz0, hs0, hb0⟩ := byte_parts (P := Try.prog) (e := 5) (by kernel_rfl)
  have C0 := Lib.hid (wkcall hU unp_k0 (by decide) 18 3 rfl rfl)
  have C1 := Lib.hid (wkcall hU unp_k1 (by decide) 18 0 rfl rfl)
  have C2 := Lib.hid (wkcall hU unp_k2 (by decide) 19 0 rfl rfl)
  have C3 := Lib.hid (wkcall hU unp_k3 (by decide) 17 0 rfl rfl)
  have C4 := Lib.hid (wkcall hU unp_k4 (by decide) 9 0 rfl rfl)
  have C5 := Lib.hid (wkcall hU unp_k5 (by decide) 17 0 rfl rfl)
  have C6 := Lib.hid (wkcall hU unp_k6 (by decide) 17 0 rfl rfl)
  have C7 := Lib.hid (wkcall hU unp_k7 (by decide) 1 0 rfl rfl)
  have C8 := Lib.hid (wkcall hU unp_k8 (by decide) 18 5 rfl rfl)
  have C9 := Lib.hid (wkcall hU unp_k9 (by decide) 18 0 rfl rfl)
  clear hU hP hO
  go_enter Try.func6, Try.ntmps6
  go_wp2_with fail
  refine (AW.out _).mono ?_
  rintro e w0 ⟨rfl, hb⟩
  obtain ⟨V0, hV0⟩ : ∃ x, x = w0.alloc (.cells #[.int .u8 17, .int .u8 15, .int .u8 15, .int .u8 15, .int .u8 15, .int .u8 15, .int .u8 15, .int .u8 15, .int .u8 15, .int .u8 15, .int .u8 15, .int .u8 15, .int .u8 15, .int .u8 15, .int .u8 15, .int .u8 15, .int .u8 13] 5) := ⟨_, rfl⟩
  have e0 : w0.alloc (.cells #[.int .u8 17, .int .u8 15, .int .u8 15, .int .u8 15, .int .u8 15, .int .u8 15, .int .u8 15, .int .u8 15, .int .u8 15, .int .u8 15, .int .u8 15, .int .u8 15, .int .u8 15, .int .u8 15, .int .u8 15, .int .u8 15, .int .u8 13] 5) = V0 := hV0.symm
  have Y := Lib.hid (show By V0 (some ⟨w0.heap.size, 0, none⟩) 17 two17 by rw [hV0]; exact by_lit rfl rfl two17_lt (by decide))
  have HB := Lib.hid (show Below w.heap.size w V0 by rw [hV0]; exact hb.alloc hb.size _)
  clear hb AW hV0
  generalize hg0 : w0.heap.size = g0 at *
  have E0 := Lib.hid (mine_empty (w0 := V0) (Below.refl _ _))
  have S0 := Lib.hid ((Y.out).below E0.out.bel)
  go_wp2_with (first
    | (at_builtin; refine wpList_append_sl (base := V0.heap.size) _ rfl (.tmp 28) (.tmp 29) _ rfl Try.underlying22 hi0 hz0 hs0 hb0 rfl rfl E0.out.own rfl (byts_length two17).symm (by simp) S0.out.sl (byts_one _) (by rw [byts_length]; decide) (by rw [byts_length]; decide) (by rw [byts_length]; decide) E0.out.bel.size ?_; intro va wa h1 h2 _; obtain ⟨Aa, ca, rfl, ma⟩ := E0.out.app (r := two17) rfl (Nat.zero_add 17) h1 h2; have Ma := Lib.hid (ma.below (w' := wa.alloc (.cells #[.int .u8 160] 5)) ((Below.refl _ _).alloc (Nat.le_refl _) _)); have Sa := Lib.hid (sl_cells (w := wa) (cs := #[.int .u8 160]) (l := [160]) rfl); clear h1 h2 ma)
    | (at_builtin; refine wpList_append_sl (base := V0.heap.size) _ rfl (.tmp 30) (.tmp 31) _ rfl Try.underlying22 hi0 hz0 hs0 hb0 rfl rfl Ma.out.own rfl (byts_length [160]).symm (by simp) Sa.out (byts_one _) (by rw [byts_length]; decide) (by rw [byts_length]; decide) (by rw [byts_length]; decide) Ma.out.bel.size ?_; intro vb wb h1 h2 _; obtain ⟨Ab, cb, rfl, mb⟩ := Ma.out.app (r := [160]) rfl (show 17 + 1 = 18 from rfl) h1 h2; have Mb := Lib.hid mb; clear h1 h2 mb))
  have byb := By.of_own Mb.out.own (show ∀ x ∈ _, x < 256 by decide) (by decide)
  refine (C0.out _ _ _ byb).mono ?_
  rintro e V0x ⟨A0, c0, rfl, y0, b0⟩
  have bel := Mb.out.bel.trans (b0.mono Mb.out.bel.size)
  have HB' := Lib.hid (HB.out.trans (bel.mono HB.out.size))
  have Y' := Lib.hid (Y.out.below bel)
  have D0 := Lib.hid y0
  clear HB Y  E0 S0 Ma Sa Mb byb y0 b0 bel C0
  have HB := Lib.hid HB'.out
  have Y := Lib.hid Y'.out
  clear HB' Y' 
  have E1 := Lib.hid (mine_empty (w0 := V0x) (Below.refl _ _))
  have S1 := Lib.hid ((Y.out).below E1.out.bel)
  go_wp2_with (first
    | (at_builtin; refine wpList_append_sl (base := V0x.heap.size) _ rfl (.tmp 37) (.tmp 38) _ rfl Try.underlying22 hi0 hz0 hs0 hb0 rfl rfl E1.out.own rfl (byts_length two17).symm (by simp) S1.out.sl (byts_one _) (by rw [byts_length]; decide) (by rw [byts_length]; decide) (by rw [byts_length]; decide) E1.out.bel.size ?_; intro va wa h1 h2 _; obtain ⟨Aa, ca, rfl, ma⟩ := E1.out.app (r := two17) rfl (Nat.zero_add 17) h1 h2; have Ma := Lib.hid (ma.below (w' := wa.alloc (.cells #[.int .u8 161] 5)) ((Below.refl _ _).alloc (Nat.le_refl _) _)); have Sa := Lib.hid (sl_cells (w := wa) (cs := #[.int .u8 161]) (l := [161]) rfl); clear h1 h2 ma)
    | (at_builtin; refine wpList_append_sl (base := V0x.heap.size) _ rfl (.tmp 39) (.tmp 40) _ rfl Try.underlying22 hi0 hz0 hs0 hb0 rfl rfl Ma.out.own rfl (byts_length [161]).symm (by simp) Sa.out (byts_one _) (by rw [byts_length]; decide) (by rw [byts_length]; decide) (by rw [byts_length]; decide) Ma.out.bel.size ?_; intro vb wb h1 h2 _; obtain ⟨Ab, cb, rfl, mb⟩ := Ma.out.app (r := [161]) rfl (show 17 + 1 = 18 from rfl) h1 h2; have Mb := Lib.hid mb; clear h1 h2 mb))
  have byb := By.of_own Mb.out.own (show ∀ x ∈ _, x < 256 by decide) (by decide)
  refine (C1.out _ _ _ byb).mono ?_
  rintro e V1x ⟨A1, c1, rfl, y1, b1⟩
  have bel := Mb.out.bel.trans (b1.mono Mb.out.bel.size)
  have HB' := Lib.hid (HB.out.trans (bel.mono HB.out.size))
  have Y' := Lib.hid (Y.out.below bel)
  have D0' := Lib.hid (D0.out.below bel)
  clear HB Y D0 E1 S1 Ma Sa Mb byb y1 b1 bel C1
  have HB := Lib.hid HB'.out
  have Y := Lib.hid Y'.out
  have D0 := Lib.hid D0'.out
  clear HB' Y' D0'
  have E2 := Lib.hid (mine_empty (w0 := V1x) (Below.refl _ _))
  have S2 := Lib.hid ((Y.out).below E2.out.bel)
  go_wp2_with (first
    | (at_builtin; refine wpList_append_sl (base := V1x.heap.size) _ rfl (.tmp 46) (.tmp 47) _ rfl Try.underlying22 hi0 hz0 hs0 hb0 rfl rfl E2.out.own rfl (byts_length two17).symm (by simp) S2.out.sl (byts_one _) (by rw [byts_length]; decide) (by rw [byts_length]; decide) (by rw [byts_length]; decide) E2.out.bel.size ?_; intro va wa h1 h2 _; obtain ⟨Aa, ca, rfl, ma⟩ := E2.out.app (r := two17) rfl (Nat.zero_add 17) h1 h2; have Ma := Lib.hid (ma.below (w' := wa.alloc (.cells #[.int .u8 160, .int .u8 0] 5)) ((Below.refl _ _).alloc (Nat.le_refl _) _)); have Sa := Lib.hid (sl_cells (w := wa) (cs := #[.int .u8 160, .int .u8 0]) (l := [160, 0]) rfl); clear h1 h2 ma)
    | (at_builtin; refine wpList_append_sl (base := V1x.heap.size) _ rfl (.tmp 48) (.tmp 49) _ rfl Try.underlying22 hi0 hz0 hs0 hb0 rfl rfl Ma.out.own rfl (byts_length [160, 0]).symm (by simp) Sa.out (byts_one _) (by rw [byts_length]; decide) (by rw [byts_length]; decide) (by rw [byts_length]; decide) Ma.out.bel.size ?_; intro vb wb h1 h2 _; obtain ⟨Ab, cb, rfl, mb⟩ := Ma.out.app (r := [160, 0]) rfl (show 17 + 2 = 19 from rfl) h1 h2; have Mb := Lib.hid mb; clear h1 h2 mb))
  have byb := By.of_own Mb.out.own (show ∀ x ∈ _, x < 256 by decide) (by decide)
  refine (C2.out _ _ _ byb).mono ?_
  rintro e V2x ⟨A2, c2, rfl, y2, b2⟩
  have bel := Mb.out.bel.trans (b2.mono Mb.out.bel.size)
  have HB' := Lib.hid (HB.out.trans (bel.mono HB.out.size))
  have Y' := Lib.hid (Y.out.below bel)
  have D0' := Lib.hid (D0.out.below bel)
  clear HB Y D0 E2 S2 Ma Sa Mb byb y2 b2 bel C2
  have HB := Lib.hid HB'.out
  have Y := Lib.hid Y'.out
  have D0 := Lib.hid D0'.out
  clear HB' Y' D0'
  go_wp2_with fail
  refine (C3.out _ _ _ Y.out).mono ?_
  rintro e V3x ⟨A3, c3, rfl, y3, bel⟩
  have HB' := Lib.hid (HB.out.trans (bel.mono HB.out.size))
  have Y' := Lib.hid (Y.out.below bel)
  have D0' := Lib.hid (D0.out.below bel)
  clear HB Y D0 y3 bel C3 
  have HB := Lib.hid HB'.out
  have Y := Lib.hid Y'.out
  have D0 := Lib.hid D0'.out
  clear HB' Y' D0'
  have cutE : ∀ w, (Instr.slice 22 (.slice (some ⟨g0, 0, none⟩) 17 17) none (some (.int .i64 9)) none).run Try.prog w = .ok (.slice (some ⟨g0, 0, none⟩) 9 17) w := fun w => run_slice_to (P := Try.prog) Try.underlying22 hi0 (some ⟨g0, 0, none⟩) 17 17 9 (by decide) w
  go_wp2_with fail
  refine (C4.out _ _ _ (Y.out.to 9)).mono ?_
  rintro e V4x ⟨A4, c4, rfl, y4, bel⟩
  have HB' := Lib.hid (HB.out.trans (bel.mono HB.out.size))
  have Y' := Lib.hid (Y.out.below bel)
  have D0' := Lib.hid (D0.out.below bel)
  clear HB Y D0 y4 bel C4 cutE
  have HB := Lib.hid HB'.out
  have Y := Lib.hid Y'.out
  have D0 := Lib.hid D0'.out
  clear HB' Y' D0'
  have cutE : ∀ w, (Instr.slice 22 (.slice (some ⟨g0, 0, none⟩) 17 17) none (some (.int .i64 16)) none).run Try.prog w = .ok (.slice (some ⟨g0, 0, none⟩) 16 17) w := fun w => run_slice_to (P := Try.prog) Try.underlying22 hi0 (some ⟨g0, 0, none⟩) 17 17 16 (by decide) w
  have E5 := Lib.hid (mine_empty (w0 := V4x) (Below.refl _ _))
  have S5 := Lib.hid (((Y.out.to 16)).below E5.out.bel)
  go_wp2_with (first
    | (at_builtin; refine wpList_append_sl (base := V4x.heap.size) _ rfl (.tmp 66) (.tmp 68) _ rfl Try.underlying22 hi0 hz0 hs0 hb0 rfl rfl E5.out.own rfl (byts_length (two17.take 16)).symm (by simp) S5.out.sl (byts_one _) (by rw [byts_length]; decide) (by rw [byts_length]; decide) (by rw [byts_length]; decide) E5.out.bel.size ?_; intro va wa h1 h2 _; obtain ⟨Aa, ca, rfl, ma⟩ := E5.out.app (r := (two17.take 16)) rfl (Nat.zero_add 16) h1 h2; have Ma := Lib.hid (ma.below (w' := wa.alloc (.cells #[.int .u8 15] 5)) ((Below.refl _ _).alloc (Nat.le_refl _) _)); have Sa := Lib.hid (sl_cells (w := wa) (cs := #[.int .u8 15]) (l := [15]) rfl); clear h1 h2 ma)
    | (at_builtin; refine wpList_append_sl (base := V4x.heap.size) _ rfl (.tmp 69) (.tmp 70) _ rfl Try.underlying22 hi0 hz0 hs0 hb0 rfl rfl Ma.out.own rfl (byts_length [15]).symm (by simp) Sa.out (byts_one _) (by rw [byts_length]; decide) (by rw [byts_length]; decide) (by rw [byts_length]; decide) Ma.out.bel.size ?_; intro vb wb h1 h2 _; obtain ⟨Ab, cb, rfl, mb⟩ := Ma.out.app (r := [15]) rfl (show 16 + 1 = 17 from rfl) h1 h2; have Mb := Lib.hid mb; clear h1 h2 mb))
  have byb := By.of_own Mb.out.own (show ∀ x ∈ _, x < 256 by decide) (by decide)
  refine (C5.out _ _ _ byb).mono ?_
  rintro e V5x ⟨A5, c5, rfl, y5, b5⟩
  have bel := Mb.out.bel.trans (b5.mono Mb.out.bel.size)
  have HB' := Lib.hid (HB.out.trans (bel.mono HB.out.size))
  have Y' := Lib.hid (Y.out.below bel)
  have D0' := Lib.hid (D0.out.below bel)
  clear HB Y D0 E5 S5 Ma Sa Mb byb y5 b5 bel C5 cutE
  have HB := Lib.hid HB'.out
  have Y := Lib.hid Y'.out
  have D0 := Lib.hid D0'.out
  clear HB' Y' D0'
  have cutE : ∀ w, (Instr.slice 22 (.slice (some ⟨g0, 0, none⟩) 17 17) (some (.int .i64 1)) none none).run Try.prog w = .ok (.slice (some ⟨g0, 1, none⟩) 16 16) w := fun w => run_slice_from (P := Try.prog) Try.underlying22 hi0 hs0 (some ⟨g0, 0, none⟩) 17 17 1 (by decide) w
  have E6 := Lib.hid (show Mine V5x (V5x.alloc (.cells #[.int .u8 18] 5)) (some ⟨V5x.heap.size, 0, none⟩) 1 1 [18] from ⟨World.ownsRow_lit (base := V5x.heap.size) (e := 5) (size := 1) V5x #[.int .u8 18] 1 (Nat.le_refl _) (by decide) rfl, (Below.refl _ _).alloc (Nat.le_refl _) _⟩)
  have S6 := Lib.hid (show Sl (V5x.alloc (.cells #[.int .u8 18] 5)) (V5x.alloc (.cells #[.int .u8 18] 5)).heap.size (some ⟨g0, 1, none⟩) (byts (two17.drop 1)) by
    have h := (Y.out.below E6.out.bel).sl.from (cap := 17) (k := 1) (by rw [byts_length]; decide)
    rw [byts_drop] at h
    exact h)
  go_wp2_with (at_builtin; refine wpList_append_sl (base := V5x.heap.size) _ rfl (.tmp 75) (.tmp 77) _ rfl Try.underlying22 hi0 hz0 hs0 hb0 rfl rfl E6.out.own rfl (byts_length (two17.drop 1)).symm (by simp) S6.out (byts_one _) (by rw [byts_length]; decide) (by rw [byts_length]; decide) (by rw [byts_length]; decide) E6.out.bel.size ?_; intro vb wb h1 h2 _; obtain ⟨Ab, cb, rfl, mb⟩ := E6.out.app (r := two17.drop 1) rfl (show 1 + 16 = 17 from rfl) h1 h2; obtain ⟨gv, rfl, hgv, hcell, hfz, hset⟩ := mine_at mb (by decide); have cx := hcell 16 (by decide); have fx := hfz 16; have Mb := Lib.hid (hset 16 12); clear h1 h2 mb hcell hfz hset)
  have byb := By.of_own Mb.out.own (show ∀ x ∈ _, x < 256 by decide) (by decide)
  refine (C6.out _ _ _ byb).mono ?_
  rintro e V6x ⟨A6, c6, rfl, y6, b6⟩
  have bel := Mb.out.bel.trans (b6.mono Mb.out.bel.size)
  have HB' := Lib.hid (HB.out.trans (bel.mono HB.out.size))
  have Y' := Lib.hid (Y.out.below bel)
  have D0' := Lib.hid (D0.out.below bel)
  clear HB Y D0 E6 S6 Mb byb y6 b6 bel C6 cutE cx fx hgv
  have HB := Lib.hid HB'.out
  have Y := Lib.hid Y'.out
  have D0 := Lib.hid D0'.out
  clear HB' Y' D0'
  have E7 := Lib.hid (show Below V6x.heap.size V6x (V6x.alloc (.cells #[.int .u8 192] 5)) from (Below.refl _ _).alloc (Nat.le_refl _) _)
  go_wp2_with fail
  refine (C7.out _ _ _ (by_lit (l := [192]) rfl rfl (by decide) (by decide))).mono ?_
  rintro e V7x ⟨A7, c7, rfl, y7, b7⟩
  have bel := E7.out.trans (b7.mono E7.out.size)
  have HB' := Lib.hid (HB.out.trans (bel.mono HB.out.size))
  have Y' := Lib.hid (Y.out.below bel)
  have D0' := Lib.hid (D0.out.below bel)
  clear HB Y D0 E7 y7 b7 bel C7
  have HB := Lib.hid HB'.out
  have Y := Lib.hid Y'.out
  have D0 := Lib.hid D0'.out
  clear HB' Y' D0'
  have cutE : ∀ w, (Instr.slice 22 (.slice (some ⟨g0, 0, none⟩) 17 17) (some (.int .i64 1)) none none).run Try.prog w = .ok (.slice (some ⟨g0, 1, none⟩) 16 16) w := fun w => run_slice_from (P := Try.prog) Try.underlying22 hi0 hs0 (some ⟨g0, 0, none⟩) 17 17 1 (by decide) w
  have E8 := Lib.hid (show Mine V7x (V7x.alloc (.cells #[.int .u8 16] 5)) (some ⟨V7x.heap.size, 0, none⟩) 1 1 [16] from ⟨World.ownsRow_lit (base := V7x.heap.size) (e := 5) (size := 1) V7x #[.int .u8 16] 1 (Nat.le_refl _) (by decide) rfl, (Below.refl _ _).alloc (Nat.le_refl _) _⟩)
  have S8 := Lib.hid (show Sl (V7x.alloc (.cells #[.int .u8 16] 5)) (V7x.alloc (.cells #[.int .u8 16] 5)).heap.size (some ⟨g0, 1, none⟩) (byts (two17.drop 1)) by
    have h := (Y.out.below E8.out.bel).sl.from (cap := 17) (k := 1) (by rw [byts_length]; decide)
    rw [byts_drop] at h
    exact h)
  go_upto_region 16 with (at_builtin; refine wpList_append_sl (base := V7x.heap.size) _ rfl (.tmp 91) (.tmp 93) _ rfl Try.underlying22 hi0 hz0 hs0 hb0 rfl rfl E8.out.own rfl (byts_length (two17.drop 1)).symm (by simp) S8.out (byts_one _) (by rw [byts_length]; decide) (by rw [byts_length]; decide) (by rw [byts_length]; decide) E8.out.bel.size ?_; intro vb wb h1 h2 _; obtain ⟨Ab, cb, rfl, mb⟩ := E8.out.app (r := two17.drop 1) rfl (show 1 + 16 = 17 from rfl) h1 h2; obtain ⟨gv, rfl, hgv, hcell, hfz, hset⟩ := mine_at mb (by decide); have cx := hcell 16 (by decide); have fx := hfz 16; have Mb := Lib.hid (hset 16 14); clear h1 h2 mb hcell hfz hset)
  have bel := Mb.out.bel
  have O' := Lib.hid (By.of_own Mb.out.own (show ∀ x ∈ _, x < 256 by decide) (by decide))
  have HB' := Lib.hid (HB.out.trans (bel.mono HB.out.size))
  have Y' := Lib.hid (Y.out.below bel)
  have D0' := Lib.hid (D0.out.below bel)
  have hsz : V7x.heap.size ≤ (wb.setCell ⟨gv, 16, none⟩ (.int .u8 14)).heap.size := Mb.out.bel.size
  clear bel
  clear HB Y D0 E8 S8 Mb cutE cx fx hgv hsz
  have HB := Lib.hid HB'.out
  have Y := Lib.hid Y'.out
  have D0 := Lib.hid D0'.out
  clear HB' Y' D0'
  have O := Lib.hid O'.out
  clear O'
  generalize wb.setCell ⟨gv, 16, none⟩ (.int .u8 14) = V8x at *
  have E8 := Lib.hid (mine_empty (w0 := V8x) (Below.refl _ _))
  have S8 := Lib.hid (O.out.below E8.out.bel)
  go_wp2_with (first
    | (at_builtin; refine wpList_append_sl (base := V8x.heap.size) _ rfl (.tmp 98) (.tmp 99) _ rfl Try.underlying22 hi0 hz0 hs0 hb0 rfl rfl E8.out.own rfl (byts_length [16, 15, 15, 15, 15, 15, 15, 15, 15, 15, 15, 15, 15, 15, 15, 15, 14]).symm (by simp) S8.out.sl (byts_one _) (by rw [byts_length]; exact S8.out.cap) (by rw [byts_length]; decide) (by rw [byts_length]; decide) E8.out.bel.size ?_; intro va wa h1 h2 _; obtain ⟨Aa, ca, rfl, ma⟩ := E8.out.app (r := [16, 15, 15, 15, 15, 15, 15, 15, 15, 15, 15, 15, 15, 15, 15, 15, 14]) rfl (Nat.zero_add 17) h1 h2; have Ma := Lib.hid (ma.below (w' := wa.alloc (.cells #[.int .u8 0] 5)) ((Below.refl _ _).alloc (Nat.le_refl _) _)); have Sa := Lib.hid (sl_cells (w := wa) (cs := #[.int .u8 0]) (l := [0]) rfl); clear h1 h2 ma)
    | (at_builtin; refine wpList_append_sl (base := V8x.heap.size) _ rfl (.tmp 100) (.tmp 101) _ rfl Try.underlying22 hi0 hz0 hs0 hb0 rfl rfl Ma.out.own rfl (byts_length [0]).symm (by simp) Sa.out (byts_one _) (by rw [byts_length]; decide) (by rw [byts_length]; decide) (by rw [byts_length]; decide) Ma.out.bel.size ?_; intro vb wb h1 h2 _; obtain ⟨Ab, cb, rfl, mb⟩ := Ma.out.app (r := [0]) rfl (show 17 + 1 = 18 from rfl) h1 h2; have Mb := Lib.hid mb; clear h1 h2 mb))
  have byb := By.of_own Mb.out.own (show ∀ x ∈ _, x < 256 by decide) (by decide)
  refine (C8.out _ _ _ byb).mono ?_
  rintro e V8x ⟨A8, c8, rfl, y8, b8⟩
  have bel := Mb.out.bel.trans (b8.mono Mb.out.bel.size)
  have HB' := Lib.hid (HB.out.trans (bel.mono HB.out.size))
  have Y' := Lib.hid (Y.out.below bel)
  have D0' := Lib.hid (D0.out.below bel)
  have O' := Lib.hid (O.out.below bel)
  have D8 := Lib.hid y8
  clear HB Y D0 O E8 S8 Ma Sa Mb byb y8 b8 bel C8
  have HB := Lib.hid HB'.out
  have Y := Lib.hid Y'.out
  have D0 := Lib.hid D0'.out
  have O := Lib.hid O'.out
  clear HB' Y' D0' O'
  have E9 := Lib.hid (mine_empty (w0 := V8x) (Below.refl _ _))
  have S9 := Lib.hid (O.out.below E9.out.bel)
  go_wp2_with (first
    | (at_builtin; refine wpList_append_sl (base := V8x.heap.size) _ rfl (.tmp 107) (.tmp 108) _ rfl Try.underlying22 hi0 hz0 hs0 hb0 rfl rfl E9.out.own rfl (byts_length [16, 15, 15, 15, 15, 15, 15, 15, 15, 15, 15, 15, 15, 15, 15, 15, 14]).symm (by simp) S9.out.sl (byts_one _) (by rw [byts_length]; exact S9.out.cap) (by rw [byts_length]; decide) (by rw [byts_length]; decide) E9.out.bel.size ?_; intro va wa h1 h2 _; obtain ⟨Aa, ca, rfl, ma⟩ := E9.out.app (r := [16, 15, 15, 15, 15, 15, 15, 15, 15, 15, 15, 15, 15, 15, 15, 15, 14]) rfl (Nat.zero_add 17) h1 h2; have Ma := Lib.hid (ma.below (w' := wa.alloc (.cells #[.int .u8 128] 5)) ((Below.refl _ _).alloc (Nat.le_refl _) _)); have Sa := Lib.hid (sl_cells (w := wa) (cs := #[.int .u8 128]) (l := [128]) rfl); clear h1 h2 ma)
    | (at_builtin; refine wpList_append_sl (base := V8x.heap.size) _ rfl (.tmp 109) (.tmp 110) _ rfl Try.underlying22 hi0 hz0 hs0 hb0 rfl rfl Ma.out.own rfl (byts_length [128]).symm (by simp) Sa.out (byts_one _) (by rw [byts_length]; decide) (by rw [byts_length]; decide) (by rw [byts_length]; decide) Ma.out.bel.size ?_; intro vb wb h1 h2 _; obtain ⟨Ab, cb, rfl, mb⟩ := Ma.out.app (r := [128]) rfl (show 17 + 1 = 18 from rfl) h1 h2; have Mb := Lib.hid mb; clear h1 h2 mb))
  have byb := By.of_own Mb.out.own (show ∀ x ∈ _, x < 256 by decide) (by decide)
  refine (C9.out _ _ _ byb).mono ?_
  rintro e V9x ⟨A9, c9, rfl, y9, b9⟩
  have bel := Mb.out.bel.trans (b9.mono Mb.out.bel.size)
  have HB' := Lib.hid (HB.out.trans (bel.mono HB.out.size))
  have Y' := Lib.hid (Y.out.below bel)
  have D0' := Lib.hid (D0.out.below bel)
  have O' := Lib.hid (O.out.below bel)
  have D8' := Lib.hid (D8.out.below bel)
  clear HB Y D0 O D8 E9 S9 Ma Sa Mb byb y9 b9 bel C9
  have HB := Lib.hid HB'.out
  have Y := Lib.hid Y'.out
  have D0 := Lib.hid D0'.out
  have O := Lib.hid O'.out
  have D8 := Lib.hid D8'.out
  clear HB' Y' D0' O' D8'
  have k1 := conv_b (cap := c0) D0.out.sl
  have k2 := conv_b (cap := c8) D8.out.sl
  rw [show [1, 0, 1].length = 3 from rfl, bstr_101] at k1
  rw [show [0, 0, 0, 0, 0].length = 5 from rfl, bstr_00000] at k2
  go_wp2_with fail
  go_ret
  exact ⟨rfl, HB.out⟩
end Go.Proofs.Ytpaefpjggglmaaa
