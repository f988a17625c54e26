/- The statement CrownGains, for all floats. -/
import Derived.Test.YthdmghocfngfgaaCla
namespace Go.Proofs.Ythdmghocfngfgaa
open Go.RowKit Crc Flt

/-- The crown that the statement makes of a gain. -/
def gc (x : Nat) : Cn.C := ⟨2, 64, 9, x, 2, 1, 1, 0⟩
theorem gc_ok {x : Nat} (h : fixB x = x) : Cn.Ok (gc x) := ⟨by show (1 : Int) ≤ 2; decide, by show (2 : Int) ≤ 268435455; decide, by show (64 : Int) ≤ 64; decide, by show (64 : Int) ≤ 8192; decide, by show (1 : Int) ≤ 9; decide, by show (9 : Int) ≤ 512; decide, h, by show (0 : Int) ≤ 0; decide, by show (0 : Int) ≤ 5; decide, by show (0 : Int) ≤ 1; decide, by show (1 : Int) ≤ 2; decide, by show (1 : Int) ≤ 1; decide, by show (1 : Int) ≤ 128; decide, by show (2 : Int) ≤ 2; decide, by show (2 : Int) ≤ 64 - 1; decide⟩
/-- The crown in its box, half way. -/
structure Gw (w W : World) (xb x : Nat) : Prop where
  box : Blk W xb 26 (crC (gc x))
  bel : Below w.heap.size w W
  hx : w.heap.size ≤ xb
theorem Gw.below {w W W' : World} {xb x : Nat} (h : Gw w W xb x) (hb : Below W.heap.size W W') : Gw w W' xb x := ⟨h.box.keep (hb.block _ h.box.lt), h.bel.trans (hb.mono h.bel.size), h.hx⟩
theorem Gw.gain {w W : World} {xb x : Nat} (h : Gw w W xb x) (y : Nat) : Gw w (W.setCell ⟨xb, 3, none⟩ (.float .f64 y)) xb y := ⟨h.box.set_ 3 (.float .f64 y), h.bel.setCell (p := ⟨xb, 3, none⟩) h.hx _, h.hx⟩
theorem Gw.new {w W : World} (h : Below w.heap.size w W) (x : Nat) : ∃ W0 W1 xb, W.alloc (.cells (crC (gc x)) 26) = W0 ∧ W.heap.size = xb ∧ W0.cell? ⟨xb, 7, none⟩ = some (.int .i64 0) ∧ W0.frozen? ⟨xb, 7, none⟩ = false ∧ W0.setCell ⟨xb, 7, none⟩ (.int .i64 0) = W1 ∧ Gw w W1 xb x := by
  have k9 := Blk.new W 26 (crC (gc x))
  refine ⟨_, _, _, rfl, rfl, k9.cell 7, k9.frozen 7, rfl, k9.set_ 7 (.int .i64 0), (h.alloc h.size _).setCell (p := ⟨W.heap.size, 7, none⟩) h.size _, h.size⟩
theorem Gw.cells {w W : World} {xb x : Nat} (h : Gw w W xb x) : W.cell? ⟨xb, 0, none⟩ = some (.int .i64 2) ∧ W.cell? ⟨xb, 1, none⟩ = some (.int .i64 64) ∧ W.cell? ⟨xb, 2, none⟩ = some (.int .i64 9) ∧ W.cell? ⟨xb, 3, none⟩ = some (.float .f64 x) ∧ W.cell? ⟨xb, 4, none⟩ = some (.int .i64 2) ∧ W.cell? ⟨xb, 5, none⟩ = some (.int .i64 1) ∧ W.cell? ⟨xb, 6, none⟩ = some (.int .i64 1) ∧ W.cell? ⟨xb, 7, none⟩ = some (.int .i64 0) ∧ W.frozen? ⟨xb, 3, none⟩ = false :=
  ⟨h.box.cell 0, h.box.cell 1, h.box.cell 2, h.box.cell 3, h.box.cell 4, h.box.cell 5, h.box.cell 6, h.box.cell 7, h.box.frozen 3⟩

set_option maxRecDepth 4000 in
set_option maxHeartbeats 8000000 in
theorem cgains_any (x : Nat) (hx : x < 2 ^ 64) (w : World) :
    Calls Try.prog 8 #[.float .f64 x] w fun e w' => e = .returned (.bool true) ∧ Below w.heap.size w w' := by
  have AW := Lib.hid cawake_any
  have hy : fixB x < 18446744073709551616 := by have := (fixB_fin hx).1; omega
  have hyy := fixB_fixB hx
  have LC : Hid (∀ W xb y, Gw w W xb y → Calls Try.prog 12 #[crV (gc y)] W fun e w' => e = .returned (crV (gc y)) ∧ Gw w w' xb y) := Lib.hid (fun W xb y h => by
    refine (lcrown_any (gc y) W).mono ?_
    rintro e w' ⟨rfl, hb⟩
    exact ⟨rfl, h.below hb⟩)
  have EO : Hid (∀ W xb y, fixB y = y → y < 18446744073709551616 → Gw w W xb y → Calls Try.prog 11 #[crV (gc y)] W fun e w' => ∃ G, e = .returned (.tuple #[.slice (some ⟨G, 0, none⟩) 64 64, .int .i64 0]) ∧ Gw w w' xb y ∧ ByBlk w' G (Cn.enc (gc y))) := Lib.hid (fun W xb y h1 h2 h => by
    refine (lenc (gc y) (gc_ok h1) h2 W).mono ?_
    rintro e w' ⟨G, rfl, _, hr, hb⟩
    exact ⟨G, rfl, h.below hb, hr⟩)
  have EN : Hid (∀ W xb y, fixB y ≠ y → Gw w W xb y → Calls Try.prog 11 #[crV (gc y)] W fun e w' => e = .returned (.tuple #[.slice none 0 0, .int .i64 1]) ∧ Gw w w' xb y) := Lib.hid (fun W xb y h1 h => by
    have hno : ¬ Cn.Ok (gc y) := fun h2 => h1 h2.2.2.2.2.2.2.1
    refine (cenc_no (gc y) hno W).mono ?_
    rintro e w' ⟨hb, ⟨_, rfl⟩ | ⟨h3, _⟩⟩
    · exact ⟨rfl, h.below hb⟩
    · exact absurd h3 hno)
  have DC : Hid (∀ W xb G y, fixB y = y → y < 18446744073709551616 → Gw w W xb y → ByBlk W G (Cn.enc (gc y)) → Calls Try.prog 16 #[.slice (some ⟨G, 0, none⟩) 64 64] W fun e w' => e = .returned (.tuple #[crV (gc y), .int .i64 0]) ∧ Gw w w' xb y) := Lib.hid (fun W xb G y h1 h2 h hG => by
    refine (ldec_enc (gc_ok h1) h2 hG).mono ?_
    rintro e w' ⟨rfl, hb⟩
    exact ⟨rfl, h.below hb⟩)
  have TW : Hid (∀ W xb y, Gw w W xb y → ∃ W3 W4 q, W.alloc (.cells (crC (gc y)) 36) = W3 ∧ W.heap.size = q ∧ W3.cell? ⟨q, 7, none⟩ = some (.int .i64 0) ∧ W3.frozen? ⟨q, 7, none⟩ = false ∧ W3.setCell ⟨q, 7, none⟩ (.int .i64 0) = W4 ∧ Gw w W4 xb y ∧ W4.cell? ⟨q, 3, none⟩ = some (.float .f64 y)) := Lib.hid (fun W xb y h => by
    have k9 := Blk.new W 36 (crC (gc y))
    have hb : Below W.heap.size W ((W.alloc (.cells (crC (gc y)) 36)).setCell ⟨W.heap.size, 7, none⟩ (.int .i64 0)) := ((Below.refl _ _).alloc (Nat.le_refl _) _).setCell (p := ⟨W.heap.size, 7, none⟩) (Nat.le_refl _) _
    exact ⟨_, _, _, rfl, rfl, k9.cell 7, k9.frozen 7, rfl, h.below hb, (k9.set_ 7 (.int .i64 0)).cell 3⟩)
  have ff := Lib.hid (fun W => fix_any x W)
  have hbits := fun y W => run_bits y W
  have hsf := store_float
  obtain ⟨y, hyd⟩ : ∃ y, fixB x = y := ⟨_, rfl⟩
  rw [hyd] at hy hyy ff
  have hx' : x < 18446744073709551616 := by omega
  simp only [crV, gc] at LC EO EN DC
  have GN : Hid (∀ W, Below w.heap.size w W → ∃ W0 W1 xb, W.alloc (.cells (crC (gc x)) 26) = W0 ∧ W.heap.size = xb ∧ W0.cell? ⟨xb, 7, none⟩ = some (.int .i64 0) ∧ W0.frozen? ⟨xb, 7, none⟩ = false ∧ W0.setCell ⟨xb, 7, none⟩ (.int .i64 0) = W1 ∧ Gw w W1 xb x) := Lib.hid (fun W h => Gw.new h x)
  by_cases hxy : x = y
  · have hfx : fixB x = x := by rw [hyd, hxy]
    have n1 : ((y : Int) == (x : Int)) = true := by simp; omega
    have n2 : (y == x) = true := by simp; omega
    have Hyy := Lib.hid hyy
    have Hfx := Lib.hid hfx
    have Hy := Lib.hid hy
    have Hx' := Lib.hid hx'
    clear hyy hfx hxy hyd hx hx' hy
    go_enter Try.func8, Try.ntmps8
    go_upto_region 3 with (go_at_call 10; (with_reducible refine (AW.out _).mono ?_); rintro e w1 ⟨rfl, hb1⟩)
    obtain ⟨W0, W1, xb, hW0, hxb, c7, f7, hW1, h1⟩ := GN.out _ hb1
    simp only [crC, gc] at hW0
    obtain ⟨a0, a1, a2, a3, a4, a5, a6, a7, a8⟩ := h1.cells
    go_upto_region 6 with (first
      | (go_at_call 12; (with_reducible refine (LC.out _ _ _ h1).mono ?_); rintro e w2 ⟨rfl, h1⟩)
      | (go_at_call 11; (with_reducible refine (EO.out _ _ _ Hfx.out Hx'.out h1).mono ?_); rintro e w2 ⟨G0, rfl, h1, -⟩)
      | (go_at_call 24; (with_reducible refine (ff.out _).mono ?_); rintro e w2 ⟨rfl, rfl⟩))
    obtain ⟨a0, a1, a2, a3, a4, a5, a6, a7, a8⟩ := h1.cells
    go_upto_region 7 with (go_at_call 24; (with_reducible refine (ff.out _).mono ?_); rintro e w2 ⟨rfl, rfl⟩)
    have h2 := h1.gain y
    clear a0 a1 a2 a3 a4 a5 a6 a7 a8 c7 f7
    generalize World.setCell _ ⟨xb, 3, none⟩ (.float .f64 y) = V at *
    obtain ⟨a0, a1, a2, a3, a4, a5, a6, a7, a8⟩ := h2.cells
    go_upto_region 9 with (first
      | (go_at_call 12; (with_reducible refine (LC.out _ _ _ h2).mono ?_); rintro e w3 ⟨rfl, h2⟩)
      | (go_at_call 11; (with_reducible refine (EO.out _ _ _ Hyy.out Hy.out h2).mono ?_); rintro e w3 ⟨G, rfl, h2, hG⟩)
      | (go_at_call 16; (with_reducible refine (DC.out _ _ _ _ Hyy.out Hy.out h2 hG).mono ?_); rintro e w3 ⟨rfl, h2⟩; obtain ⟨W3, W4, q, hW3, hq, c7, f7, hW4, h2, b3⟩ := TW.out _ _ _ h2; simp only [crC, gc] at hW3))
    obtain ⟨a0, a1, a2, a3, a4, a5, a6, a7, a8⟩ := h2.cells
    have HF := Lib.hid h2.bel
    go_quiet (fail)
    go_wp2_with fail
    go_ret
    exact ⟨by simp, HF.out.trans ((drewN_below _).mono HF.out.size)⟩
  · have hfx : fixB x ≠ x := by rw [hyd]; omega
    have n1 : ((y : Int) == (x : Int)) = false := by simp; omega
    have n2 : (y == x) = false := by simp; omega
    have Hyy := Lib.hid hyy
    have Hfx := Lib.hid hfx
    have Hy := Lib.hid hy
    clear hyy hfx hxy hyd hx hx' hy
    go_enter Try.func8, Try.ntmps8
    go_upto_region 3 with (go_at_call 10; (with_reducible refine (AW.out _).mono ?_); rintro e w1 ⟨rfl, hb1⟩)
    obtain ⟨W0, W1, xb, hW0, hxb, c7, f7, hW1, h1⟩ := GN.out _ hb1
    simp only [crC, gc] at hW0
    obtain ⟨a0, a1, a2, a3, a4, a5, a6, a7, a8⟩ := h1.cells
    go_upto_region 6 with (first
      | (go_at_call 12; (with_reducible refine (LC.out _ _ _ h1).mono ?_); rintro e w2 ⟨rfl, h1⟩)
      | (go_at_call 11; (with_reducible refine (EN.out _ _ _ Hfx.out h1).mono ?_); rintro e w2 ⟨rfl, h1⟩)
      | (go_at_call 24; (with_reducible refine (ff.out _).mono ?_); rintro e w2 ⟨rfl, rfl⟩))
    obtain ⟨a0, a1, a2, a3, a4, a5, a6, a7, a8⟩ := h1.cells
    go_upto_region 7 with (go_at_call 24; (with_reducible refine (ff.out _).mono ?_); rintro e w2 ⟨rfl, rfl⟩)
    have h2 := h1.gain y
    clear a0 a1 a2 a3 a4 a5 a6 a7 a8 c7 f7
    generalize World.setCell _ ⟨xb, 3, none⟩ (.float .f64 y) = V at *
    obtain ⟨a0, a1, a2, a3, a4, a5, a6, a7, a8⟩ := h2.cells
    go_upto_region 9 with (first
      | (go_at_call 12; (with_reducible refine (LC.out _ _ _ h2).mono ?_); rintro e w3 ⟨rfl, h2⟩)
      | (go_at_call 11; (with_reducible refine (EO.out _ _ _ Hyy.out Hy.out h2).mono ?_); rintro e w3 ⟨G, rfl, h2, hG⟩)
      | (go_at_call 16; (with_reducible refine (DC.out _ _ _ _ Hyy.out Hy.out h2 hG).mono ?_); rintro e w3 ⟨rfl, h2⟩; obtain ⟨W3, W4, q, hW3, hq, c7, f7, hW4, h2, b3⟩ := TW.out _ _ _ h2; simp only [crC, gc] at hW3))
    obtain ⟨a0, a1, a2, a3, a4, a5, a6, a7, a8⟩ := h2.cells
    have HF := Lib.hid h2.bel
    go_quiet (fail)
    go_wp2_with fail
    go_ret
    exact ⟨by simp, HF.out.trans ((drewN_below _).mono HF.out.size)⟩
end Go.Proofs.Ythdmghocfngfgaa
