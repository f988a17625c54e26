/- What the crown's functions do, as the statements call them; the statements' own check that the program is awake holds. -/
import Derived.Test.YthdmghocfngfgaaCenc
import Derived.Test.YthdmghocfngfgaaCdec2
import Derived.Test.YthdmghocfngfgaaCsm
namespace Go.Proofs.Ythdmghocfngfgaa
open Go.RowKit Crc

/-- Encode of a crown that may be. -/
theorem lenc (c : Cn.C) (h : Cn.Ok c) (hg : c.gain < 18446744073709551616) (W : World) : Calls Try.prog 11 #[crV c] W fun e w' => ∃ G, e = .returned (.tuple #[.slice (some ⟨G, 0, none⟩) 64 64, .int .i64 0]) ∧ W.heap.size ≤ G ∧ ByBlk w' G (Cn.enc c) ∧ Below W.heap.size W w' := by
  refine (cenc_ok c h hg W).mono ?_
  rintro e w' ⟨hb, ⟨h1, _⟩ | ⟨_, G, hG, rfl, hr⟩⟩
  · exact absurd h h1
  · exact ⟨G, rfl, hG, hr, hb⟩
/-- Decode of a block that says it. -/
theorem ldec {l : List Nat} (hl : ∀ x ∈ l, x < 256) (h64 : l.length = 64) {W : World} {G : Nat} (h : ByBlk W G l) : Calls Try.prog 16 #[.slice (some ⟨G, 0, none⟩) 64 64] W (DecR l W) :=
  cdec_any (some ⟨G, 0, none⟩) 64 l hl (by omega) 64 h64.symm (byblk_sl h)
theorem ldec_enc {c : Cn.C} (h : Cn.Ok c) (hg : c.gain < 18446744073709551616) {W : World} {G : Nat} (hr : ByBlk W G (Cn.enc c)) : Calls Try.prog 16 #[.slice (some ⟨G, 0, none⟩) 64 64] W fun e w' => e = .returned (.tuple #[crV c, .int .i64 0]) ∧ Below W.heap.size W w' := by
  refine (ldec (Cn.enc_lt c) (Cn.enc_len c) hr).mono ?_
  rintro e w' ⟨rfl, hb⟩
  rw [Cn.dec_enc h hg, if_pos rfl, Cn.fields_enc h hg]
  exact ⟨rfl, hb⟩
theorem lblank {l : List Nat} (hl : ∀ x ∈ l, x < 256) (h64 : l.length = 64) {W : World} {G : Nat} (h : ByBlk W G l) : Calls Try.prog 19 #[.slice (some ⟨G, 0, none⟩) 64 64] W fun e w' => e = .returned (.bool (Cn.blank l)) ∧ w' = W :=
  cblank_any (some ⟨G, 0, none⟩) 64 l hl 64 h64.symm (by decide) (byblk_sl h)

/-- The crown that awake tries. -/
def aw : Cn.C := ⟨1, 64, 9, 4602678819172646912, 2, 1, 1, 0⟩
theorem aw_fix : Flt.fixB 4602678819172646912 = 4602678819172646912 := by kernel_rfl
theorem aw_ok : Cn.Ok aw := ⟨by decide, by decide, by decide, by decide, by decide, by decide, aw_fix, by decide, by decide, by decide, by decide, by decide, by decide, by decide, by decide⟩
theorem zeros_lt : ∀ x ∈ List.replicate 64 0, x < 256 := by intro x hx; rw [List.eq_of_mem_replicate hx]; decide
/-- A walk half way: a crown in a box, its bytes, the crown that was read. -/
structure Aw (w W : World) (c : Cn.C) (xb G : Nat) : Prop where
  box : Blk W xb 26 (crC c)
  row : ByBlk W G (Cn.enc c)
  bel : Below w.heap.size w W
structure Aw2 (w W : World) (c : Cn.C) (xb G q : Nat) : Prop where
  one : Aw w W c xb G
  two : Blk W q 36 (crC c)
section
variable {w W W' : World} {c : Cn.C} {xb G q : Nat}
theorem Aw.below (h : Aw w W c xb G) (hb : Below W.heap.size W W') : Aw w W' c xb G := ⟨h.box.keep (hb.block _ h.box.lt), byblk_below h.row hb, h.bel.trans (hb.mono h.bel.size)⟩
theorem Aw2.below (h : Aw2 w W c xb G q) (hb : Below W.heap.size W W') : Aw2 w W' c xb G q := ⟨h.one.below hb, h.two.keep (hb.block _ h.two.lt)⟩
theorem Aw.put (h : Aw w W c xb G) : Aw2 w (W.alloc (.cells (crC c) 36)) c xb G W.heap.size := ⟨h.below ((Below.refl _ _).alloc (Nat.le_refl _) _), Blk.new _ _ _⟩
/-- What the walk makes of a crown whose height is nought: the last cell is stored once more. -/
theorem Aw.put7 (h : Aw w W c xb G) : Aw2 w ((W.alloc (.cells (crC c) 36)).setCell ⟨W.heap.size, 7, none⟩ (.int .i64 c.ht)) c xb G W.heap.size := by
  have h2 := h.put
  have n1 : W.heap.size ≠ xb := h2.two.ne_ h2.one.box (by decide)
  have n2 : W.heap.size ≠ G := h2.two.ne_ h2.one.row (by decide)
  exact ⟨⟨h2.one.box.far (p := ⟨W.heap.size, 7, none⟩) n1 _, Blk.far (p := ⟨W.heap.size, 7, none⟩) h2.one.row n2 _, h2.one.bel.setCell (p := ⟨W.heap.size, 7, none⟩) h.bel.size _⟩, h2.two.set_ 7 (.int .i64 c.ht)⟩
theorem Aw.step (h : Aw w W c xb G) : ∃ W4 W5 q, W.alloc (.cells (crC c) 36) = W4 ∧ W.heap.size = q ∧ W4.cell? ⟨q, 7, none⟩ = some (.int .i64 c.ht) ∧ W4.frozen? ⟨q, 7, none⟩ = false ∧ W4.setCell ⟨q, 7, none⟩ (.int .i64 c.ht) = W5 ∧ Aw2 w W5 c xb G q :=
  ⟨_, _, _, rfl, rfl, h.put.two.cell 7, h.put.two.frozen 7, rfl, h.put7⟩
end
theorem xcells {W : World} {b : Nat} {c : Cn.C} (h : Blk W b 26 (crC c)) : W.cell? ⟨b, 0, none⟩ = some (.int .i64 c.gen) ∧ W.cell? ⟨b, 1, none⟩ = some (.int .i64 c.bl) ∧ W.cell? ⟨b, 2, none⟩ = some (.int .i64 c.se) ∧ W.cell? ⟨b, 3, none⟩ = some (.float .f64 c.gain) ∧ W.cell? ⟨b, 4, none⟩ = some (.int .i64 c.at_) ∧ W.cell? ⟨b, 5, none⟩ = some (.int .i64 c.n) ∧ W.cell? ⟨b, 6, none⟩ = some (.int .i64 c.kg) ∧ W.cell? ⟨b, 7, none⟩ = some (.int .i64 c.ht) :=
  ⟨h.cell 0, h.cell 1, h.cell 2, h.cell 3, h.cell 4, h.cell 5, h.cell 6, h.cell 7⟩

set_option maxRecDepth 4000 in
set_option maxHeartbeats 8000000 in
theorem cawake_any (w : World) : Calls Try.prog 10 #[] w fun e w' => e = .returned (.bool true) ∧ Below w.heap.size w w' := by
  obtain ⟨W0, hW0⟩ : ∃ W, w.alloc (.cells (crC aw) 26) = W := ⟨_, rfl⟩
  have k9 : Blk W0 w.heap.size 26 (crC aw) := by rw [← hW0]; exact Blk.new _ _ _
  have hb9 : Below w.heap.size w W0 := by rw [← hW0]; exact (Below.refl _ _).alloc (Nat.le_refl _) _
  obtain ⟨xb, hx⟩ : ∃ x, w.heap.size = x := ⟨_, rfl⟩
  have c7 : W0.cell? ⟨xb, 7, none⟩ = some (.int .i64 0) := hx ▸ k9.cell 7
  have f7 : W0.frozen? ⟨xb, 7, none⟩ = false := hx ▸ k9.frozen 7
  obtain ⟨W1, hW1⟩ : ∃ W, W0.setCell ⟨w.heap.size, 7, none⟩ (.int .i64 0) = W := ⟨_, rfl⟩
  have k0 : Blk W1 w.heap.size 26 (crC aw) := by rw [← hW1]; exact k9.set_ 7 (.int .i64 0)
  have hb0 : Below w.heap.size w W1 := by rw [← hW1]; exact hb9.setCell (p := ⟨w.heap.size, 7, none⟩) (Nat.le_refl _) _
  rw [hx] at hW1
  obtain ⟨a0, a1, a2, a3, a4, a5, a6, a7⟩ := xcells (hx ▸ k0)
  have LC : Hid (∀ W, Calls Try.prog 12 #[crV aw] W fun e w' => e = .returned (crV aw) ∧ Below W.heap.size W w') := Lib.hid (lcrown_any aw)
  have EC : Hid (∀ W, Below W1.heap.size W1 W → Calls Try.prog 11 #[crV aw] W fun e w' => ∃ G, e = .returned (.tuple #[.slice (some ⟨G, 0, none⟩) 64 64, .int .i64 0]) ∧ Aw w w' aw xb G) := Lib.hid (fun (W : World) hW => by
    refine (lenc aw aw_ok (by decide) W).mono ?_
    rintro e w' ⟨G, rfl, _, hr, hb⟩
    have h1 := hW.trans (hb.mono hW.size)
    exact ⟨G, rfl, hx ▸ k0.keep (h1.block _ k0.lt), hr, hb0.trans (h1.mono hb0.size)⟩)
  have DC : Hid (∀ W G, Aw w W aw xb G → Calls Try.prog 16 #[.slice (some ⟨G, 0, none⟩) 64 64] W fun e w' => e = .returned (.tuple #[crV aw, .int .i64 0]) ∧ Aw w w' aw xb G) := Lib.hid (fun W G h => by
    refine (ldec_enc aw_ok (by decide) h.row).mono ?_
    rintro e w' ⟨rfl, hb⟩
    exact ⟨rfl, h.below hb⟩)
  have SM : Hid (∀ W G q, Aw2 w W aw xb G q → Calls Try.prog 17 #[crV aw, crV aw] W fun e w' => e = .returned (.bool true) ∧ Aw2 w w' aw xb G q) := Lib.hid (fun W G q h => by
    refine (same_self aw W).mono ?_
    rintro e w' ⟨rfl, hb⟩
    exact ⟨rfl, h.below hb⟩)
  have B1 : Hid (∀ (W : World) (g : Nat), g = W.heap.size → Calls Try.prog 19 #[.slice (some ⟨g, 0, none⟩) 64 64] (W.alloc (.cells (zcells 64) 5)) fun e w' => e = .returned (.bool true) ∧ w' = W.alloc (.cells (zcells 64) 5)) := Lib.hid (fun W g hg => by
    subst hg
    exact lblank zeros_lt (by simp) (byblk_zeros W 64))
  have B2 : Hid (∀ W G q, Aw2 w W aw xb G q → Calls Try.prog 19 #[.slice (some ⟨G, 0, none⟩) 64 64] W fun e w' => e = .returned (.bool false) ∧ w' = W) := Lib.hid (fun W G q h => by
    have := lblank (Cn.enc_lt aw) (Cn.enc_len aw) h.one.row
    rwa [Cn.enc_blank] at this)
  have MY : Hid (∀ W G q, Aw2 w W aw xb G q → Calls Try.prog 14 #[crV aw] W fun e w' => e = .returned (.bool true) ∧ Aw2 w w' aw xb G q) := Lib.hid (fun W G q h => by
    have h1 := cmay_any aw W
    rw [show Cn.okB aw = true by unfold Cn.okB; exact decide_eq_true aw_ok] at h1
    refine h1.mono ?_
    rintro e w' ⟨rfl, hb⟩
    exact ⟨rfl, h.below hb⟩)
  have hx' := Lib.hid hx
  have mk : ∀ W, (Instr.makeSlice 28 (.int .i64 64) (.int .i64 64)).run Try.prog W = .ok (.slice (some ⟨W.heap.size, 0, none⟩) 64 64) (W.alloc (.cells (zcells 64) 5)) := make_bytes 64 (by decide)
  have hsf := store_float
  simp only [crC, crV, aw] at hW0 LC EC DC SM MY a0 a1 a2 a3 a4 a5 a6 a7
  clear k0 hb0 k9 hb9
  go_enter Try.func10, Try.ntmps10
  go_wp2_with (first
    | (go_at_call 12; (with_reducible refine (LC.out _).mono ?_); rintro e w1 ⟨rfl, hb1⟩; have HB1 := Lib.hid hb1; clear hb1 a0 a1 a2 a3 a4 a5 a6 a7 hW0 hW1 c7 f7)
    | (go_at_call 11; (with_reducible refine (EC.out _ HB1.out).mono ?_); rintro e w2 ⟨G, rfl, h2⟩)
    | (go_at_call 16; (with_reducible refine (DC.out _ _ h2).mono ?_); rintro e w3 ⟨rfl, h3⟩; obtain ⟨W4, W5, q, hW4, hq, c7, f7, hW5, h4⟩ := h3.step; simp only [crC] at hW4; obtain ⟨a0, a1, a2, a3, a4, a5, a6, a7⟩ := xcells h4.one.box; obtain ⟨b0, b1, b2, b3, b4, b5, b6, b7⟩ := crcells h4.two; simp only at a0 a1 a2 a3 a4 a5 a6 a7 b0 b1 b2 b3 b4 b5 b6 b7)
    | (go_at_call 17; (with_reducible refine (SM.out _ _ _ h4).mono ?_); rintro e w6 ⟨rfl, h6⟩; have h6' := h6.below ((Below.refl _ _).alloc (Nat.le_refl _) (.cells (zcells 64) 5)); obtain ⟨b0, b1, b2, b3, b4, b5, b6, b7⟩ := crcells h6'.two; simp only at b0 b1 b2 b3 b4 b5 b6 b7)
    | (go_at_call 19; (with_reducible refine (B1.out _ _ rfl).mono ?_); rintro e w7 ⟨rfl, hw7⟩; subst hw7)
    | (go_at_call 19; (with_reducible refine (B2.out _ _ _ h6').mono ?_); rintro e w7 ⟨rfl, hw7⟩; subst hw7)
    | (go_at_call 14; (with_reducible refine (MY.out _ _ _ h6').mono ?_); rintro e w8 ⟨rfl, h8⟩))
  go_ret
  exact ⟨rfl, h8.one.bel⟩
end Go.Proofs.Ythdmghocfngfgaa
