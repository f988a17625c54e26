/- The program's Encode. -/
import Derived.Test.YthdmghocfngfgaaCen
namespace Go.Proofs.Ythdmghocfngfgaa
open Go.RowKit Crc

/-- How Encode ends. -/
def EncR (c : Cn.C) (w : World) (e : Ending) (w' : World) : Prop :=
  Below w.heap.size w w' ∧ ((¬ Cn.Ok c ∧ e = .returned (.tuple #[.slice none 0 0, .int .i64 1])) ∨ (Cn.Ok c ∧ ∃ G, w.heap.size ≤ G ∧ e = .returned (.tuple #[.slice (some ⟨G, 0, none⟩) 64 64, .int .i64 0]) ∧ ByBlk w' G (Cn.enc c)))

set_option maxHeartbeats 1000000 in
theorem cenc_no (c : Cn.C) (h : ¬ Cn.Ok c) (w : World) : Calls Try.prog 11 #[crV c] w (EncR c w) := by
  have hok : Cn.okB c = false := by unfold Cn.okB; rw [decide_eq_false h]
  have HH := Lib.hid h
  have mm := Lib.hid (fun W => cmay_any c W)
  rw [hok] at mm
  unfold EncR
  obtain ⟨x1, x2, x3, x4, x5, x6, x7, x8⟩ := c
  simp only [crV] at mm ⊢
  obtain ⟨W, hW⟩ : ∃ W, w.alloc (.cells #[.int .i64 x1, .int .i64 x2, .int .i64 x3, .float .f64 x4, .int .i64 x5, .int .i64 x6, .int .i64 x7, .int .i64 x8] 36) = W := ⟨_, rfl⟩
  have hb : Below w.heap.size w W := by rw [← hW]; exact (Below.refl _ _).alloc (Nat.le_refl _) _
  have hk : Blk W w.heap.size 36 #[.int .i64 x1, .int .i64 x2, .int .i64 x3, .float .f64 x4, .int .i64 x5, .int .i64 x6, .int .i64 x7, .int .i64 x8] := by rw [← hW]; exact Blk.new _ _ _
  have c0 : W.cell? ⟨w.heap.size, 0, none⟩ = some (.int .i64 x1) := hk.cell 0
  have c1 : W.cell? ⟨w.heap.size, 1, none⟩ = some (.int .i64 x2) := hk.cell 1
  have c2 : W.cell? ⟨w.heap.size, 2, none⟩ = some (.int .i64 x3) := hk.cell 2
  have c3 : W.cell? ⟨w.heap.size, 3, none⟩ = some (.float .f64 x4) := hk.cell 3
  have c4 : W.cell? ⟨w.heap.size, 4, none⟩ = some (.int .i64 x5) := hk.cell 4
  have c5 : W.cell? ⟨w.heap.size, 5, none⟩ = some (.int .i64 x6) := hk.cell 5
  have c6 : W.cell? ⟨w.heap.size, 6, none⟩ = some (.int .i64 x7) := hk.cell 6
  have c7 : W.cell? ⟨w.heap.size, 7, none⟩ = some (.int .i64 x8) := hk.cell 7
  have HB := Lib.hid hb
  clear hb hk h hok
  go_enter Try.func11, Try.ntmps11
  go_wp2_with (go_at_call 14; (with_reducible refine (mm.out _).mono ?_); rintro e w' ⟨rfl, hw'⟩)
  go_returns
  exact ⟨HB.out.trans (hw'.mono HB.out.size), .inl ⟨HH.out, rfl⟩⟩

theorem body_eq (c : Cn.C) : Cn.body c = ([192, 158] ++ le4 c.gen.toNat ++ le4 c.bl.toNat ++ le4 c.se.toNat ++ le4 c.at_.toNat ++ le4 c.n.toNat ++ le4 c.kg.toNat ++ le4 c.ht.toNat ++ Cn.le8 c.gain) ++ List.replicate 22 0 := by
  unfold Cn.body
  simp only [List.append_assoc]
theorem rep26 (P : List Nat) : P ++ List.replicate 26 0 = (P ++ List.replicate 22 0) ++ List.replicate 4 0 := by rw [List.append_assoc, List.replicate_append_replicate]
theorem En.tsum {w W : World} {c : Cn.C} {xb G : Nat} (h : En w W c xb G ([192, 158] ++ le4 c.gen.toNat ++ le4 c.bl.toNat ++ le4 c.se.toNat ++ le4 c.at_.toNat ++ le4 c.n.toNat ++ le4 c.kg.toNat ++ le4 c.ht.toNat ++ Cn.le8 c.gain) 26) :
    Calls Try.prog 27 #[.slice (some ⟨G, 0, none⟩) 60 64] W fun e W' => e = .returned (.int .u32 ((sum (Cn.body c) : Nat) : Int)) ∧ En w W' c xb G ([192, 158] ++ le4 c.gen.toNat ++ le4 c.bl.toNat ++ le4 c.se.toNat ++ le4 c.at_.toNat ++ le4 c.n.toNat ++ le4 c.kg.toNat ++ le4 c.ht.toNat ++ Cn.le8 c.gain) 26 := by
  have hr := h.row
  have e : ([192, 158] ++ le4 c.gen.toNat ++ le4 c.bl.toNat ++ le4 c.se.toNat ++ le4 c.at_.toNat ++ le4 c.n.toNat ++ le4 c.kg.toNat ++ le4 c.ht.toNat ++ Cn.le8 c.gain) ++ List.replicate 26 0 = Cn.body c ++ List.replicate 4 0 := by
    rw [body_eq]; exact rep26 _
  rw [e] at hr
  have hl := Cn.body_len c
  have hs := (byblk_sl hr).to 60
  rw [byts_take, List.take_left' hl] at hs
  have := sum_any (some ⟨G, 0, none⟩) 64 (Cn.body c) (Cn.body_lt c) (by rw [hl]; decide) W hs
  rw [hl] at this
  refine this.mono ?_
  rintro e W' ⟨rfl, hb⟩
  exact ⟨rfl, h.below hb⟩
theorem En.last {w W : World} {c : Cn.C} {xb G : Nat} (h : En w W c xb G ([192, 158] ++ le4 c.gen.toNat ++ le4 c.bl.toNat ++ le4 c.se.toNat ++ le4 c.at_.toNat ++ le4 c.n.toNat ++ le4 c.kg.toNat ++ le4 c.ht.toNat ++ Cn.le8 c.gain) 26) (cp : Nat) :
    Calls Try.prog 26 #[.slice (some ⟨G, 60, none⟩) 4 cp, .int .u64 ((sum (Cn.body c) : Nat) : Int)] W fun e W' => e = .returned (.tuple #[]) ∧ ByBlk W' G (Cn.enc c) ∧ Below w.heap.size w W' := by
  have hr := h.row
  have e : ([192, 158] ++ le4 c.gen.toNat ++ le4 c.bl.toNat ++ le4 c.se.toNat ++ le4 c.at_.toNat ++ le4 c.n.toNat ++ le4 c.kg.toNat ++ le4 c.ht.toNat ++ Cn.le8 c.gain) ++ List.replicate 26 0 = Cn.body c ++ ([0, 0, 0, 0] ++ []) := by
    rw [body_eq]; exact rep26 _
  rw [e] at hr
  refine (putbits4_any G 60 cp (Cn.body c) [] 0 0 0 0 (Cn.body_len c).symm _ (Cn.sum_lt _) hr).mono ?_
  rintro e W' ⟨rfl, h1, h2⟩
  rw [List.append_nil] at h1
  exact ⟨rfl, h1, h.bel.trans (h2.below h.bel.size fun i hi => by rw [hi]; exact h.hg)⟩
theorem new64 (w' : World) : ∃ w0, w'.alloc (.cells (zcells 64) 5) = w0 ∧ w0.cell? ⟨w'.heap.size, 0, none⟩ = some (.int .u8 0) ∧ w0.cell? ⟨w'.heap.size, 1, none⟩ = some (.int .u8 0) ∧ w0.frozen? ⟨w'.heap.size, 0, none⟩ = false ∧ w0.frozen? ⟨w'.heap.size, 1, none⟩ = false :=
  ⟨_, rfl, byblk_cell (byblk_zeros w' 64) (i := 0) (by simp), byblk_cell (byblk_zeros w' 64) (i := 1) (by simp), Blk.frozen (byblk_zeros w' 64) 0, Blk.frozen (byblk_zeros w' 64) 1⟩
set_option maxRecDepth 4000 in
set_option maxHeartbeats 8000000 in
theorem cenc_ok (c : Cn.C) (h : Cn.Ok c) (hg : c.gain < 18446744073709551616) (w : World) : Calls Try.prog 11 #[crV c] w (EncR c w) := by
  have hok : Cn.okB c = true := by unfold Cn.okB; rw [decide_eq_true h]
  have HH := Lib.hid h
  have mm := Lib.hid (fun W => cmay_any c W)
  rw [hok] at mm
  obtain ⟨i0, hi0, hz0, hs0, hb0⟩ := byte_parts (P := Try.prog) (e := 5) (by kernel_rfl)
  unfold EncR
  obtain ⟨W, hW⟩ : ∃ W, w.alloc (.cells (crC c) 36) = W := ⟨_, rfl⟩
  have hb : Below w.heap.size w W := by rw [← hW]; exact (Below.refl _ _).alloc (Nat.le_refl _) _
  have hk : Blk W w.heap.size 36 (crC c) := by rw [← hW]; exact Blk.new _ _ _
  have HK := Lib.hid hk
  have HB := Lib.hid hb
  obtain ⟨a1, a2, a3, a4, a5, a6, a7, a8, a9, b1, b2, b3, b4, b5, b6⟩ := id h
  have e0 : Hid (∀ (W' : World), Below W.heap.size W W' → ∀ G, G = W'.heap.size → En w (((W'.alloc (.cells (zcells 64) 5)).setCell ⟨G, 0, none⟩ (.int .u8 192)).setCell ⟨G, 1, none⟩ (.int .u8 158)) c w.heap.size G [192, 158] 62) := Lib.hid (fun W' hb' G hG => by
    have r0 := byblk_zeros W' 64
    rw [← hG] at r0
    have r1 := byblk_set r0 0 192 (v := .int .u8 192) rfl
    have r2 := byblk_set r1 1 158 (v := .int .u8 158) rfl
    have hlt : w.heap.size < W'.heap.size := Nat.lt_of_lt_of_le hk.lt hb'.size
    have bl := ((((Below.refl W'.heap.size W').alloc (Nat.le_refl _) (.cells (zcells 64) 5)).setCell (p := ⟨G, 0, none⟩) (by rw [hG]; exact Nat.le_refl _) (.int .u8 192)).setCell (p := ⟨G, 1, none⟩) (by rw [hG]; exact Nat.le_refl _) (.int .u8 158))
    exact ⟨(hk.keep (hb'.block _ hk.lt)).keep (bl.block _ hlt), r2, (hb.trans (hb'.mono hb.size)).trans (bl.mono (Nat.le_of_lt hlt)), by omega, Nat.le_refl _, by omega⟩)
  have p0 : Hid (∀ W' xb G n' cp, 4 ≤ cp → En w W' c xb G ([192, 158]) 62 → Calls Try.prog 25 #[.slice (some ⟨G, 2, none⟩) n' cp, .int .i64 c.gen] W' fun e W'' => e = .returned (.tuple #[]) ∧ En w W'' c xb G ([192, 158] ++ le4 c.gen.toNat) 58) := Lib.hid (fun W' xb G n' cp hcp he => he.put4 (k := 2) rfl hcp (by omega) (by omega))
  have p1 : Hid (∀ W' xb G n' cp, 4 ≤ cp → En w W' c xb G ([192, 158] ++ le4 c.gen.toNat) 58 → Calls Try.prog 25 #[.slice (some ⟨G, 6, none⟩) n' cp, .int .i64 c.bl] W' fun e W'' => e = .returned (.tuple #[]) ∧ En w W'' c xb G ([192, 158] ++ le4 c.gen.toNat ++ le4 c.bl.toNat) 54) := Lib.hid (fun W' xb G n' cp hcp he => he.put4 (k := 6) rfl hcp (by omega) (by omega))
  have p2 : Hid (∀ W' xb G n' cp, 4 ≤ cp → En w W' c xb G ([192, 158] ++ le4 c.gen.toNat ++ le4 c.bl.toNat) 54 → Calls Try.prog 25 #[.slice (some ⟨G, 10, none⟩) n' cp, .int .i64 c.se] W' fun e W'' => e = .returned (.tuple #[]) ∧ En w W'' c xb G ([192, 158] ++ le4 c.gen.toNat ++ le4 c.bl.toNat ++ le4 c.se.toNat) 50) := Lib.hid (fun W' xb G n' cp hcp he => he.put4 (k := 10) rfl hcp (by omega) (by omega))
  have p3 : Hid (∀ W' xb G n' cp, 4 ≤ cp → En w W' c xb G ([192, 158] ++ le4 c.gen.toNat ++ le4 c.bl.toNat ++ le4 c.se.toNat) 50 → Calls Try.prog 25 #[.slice (some ⟨G, 14, none⟩) n' cp, .int .i64 c.at_] W' fun e W'' => e = .returned (.tuple #[]) ∧ En w W'' c xb G ([192, 158] ++ le4 c.gen.toNat ++ le4 c.bl.toNat ++ le4 c.se.toNat ++ le4 c.at_.toNat) 46) := Lib.hid (fun W' xb G n' cp hcp he => he.put4 (k := 14) rfl hcp (by omega) (by omega))
  have p4 : Hid (∀ W' xb G n' cp, 4 ≤ cp → En w W' c xb G ([192, 158] ++ le4 c.gen.toNat ++ le4 c.bl.toNat ++ le4 c.se.toNat ++ le4 c.at_.toNat) 46 → Calls Try.prog 25 #[.slice (some ⟨G, 18, none⟩) n' cp, .int .i64 c.n] W' fun e W'' => e = .returned (.tuple #[]) ∧ En w W'' c xb G ([192, 158] ++ le4 c.gen.toNat ++ le4 c.bl.toNat ++ le4 c.se.toNat ++ le4 c.at_.toNat ++ le4 c.n.toNat) 42) := Lib.hid (fun W' xb G n' cp hcp he => he.put4 (k := 18) rfl hcp (by omega) (by omega))
  have p5 : Hid (∀ W' xb G n' cp, 4 ≤ cp → En w W' c xb G ([192, 158] ++ le4 c.gen.toNat ++ le4 c.bl.toNat ++ le4 c.se.toNat ++ le4 c.at_.toNat ++ le4 c.n.toNat) 42 → Calls Try.prog 25 #[.slice (some ⟨G, 22, none⟩) n' cp, .int .i64 c.kg] W' fun e W'' => e = .returned (.tuple #[]) ∧ En w W'' c xb G ([192, 158] ++ le4 c.gen.toNat ++ le4 c.bl.toNat ++ le4 c.se.toNat ++ le4 c.at_.toNat ++ le4 c.n.toNat ++ le4 c.kg.toNat) 38) := Lib.hid (fun W' xb G n' cp hcp he => he.put4 (k := 22) rfl hcp (by omega) (by omega))
  have p6 : Hid (∀ W' xb G n' cp, 4 ≤ cp → En w W' c xb G ([192, 158] ++ le4 c.gen.toNat ++ le4 c.bl.toNat ++ le4 c.se.toNat ++ le4 c.at_.toNat ++ le4 c.n.toNat ++ le4 c.kg.toNat) 38 → Calls Try.prog 25 #[.slice (some ⟨G, 26, none⟩) n' cp, .int .i64 c.ht] W' fun e W'' => e = .returned (.tuple #[]) ∧ En w W'' c xb G ([192, 158] ++ le4 c.gen.toNat ++ le4 c.bl.toNat ++ le4 c.se.toNat ++ le4 c.at_.toNat ++ le4 c.n.toNat ++ le4 c.kg.toNat ++ le4 c.ht.toNat) 34) := Lib.hid (fun W' xb G n' cp hcp he => he.put4 (k := 26) rfl hcp (by omega) (by omega))
  have p7 : Hid (∀ W' xb G cp, En w W' c xb G ([192, 158] ++ le4 c.gen.toNat ++ le4 c.bl.toNat ++ le4 c.se.toNat ++ le4 c.at_.toNat ++ le4 c.n.toNat ++ le4 c.kg.toNat ++ le4 c.ht.toNat) 34 → Calls Try.prog 26 #[.slice (some ⟨G, 30, none⟩) 8 cp, .int .u64 (c.gain : Int)] W' fun e W'' => e = .returned (.tuple #[]) ∧ En w W'' c xb G ([192, 158] ++ le4 c.gen.toNat ++ le4 c.bl.toNat ++ le4 c.se.toNat ++ le4 c.at_.toNat ++ le4 c.n.toNat ++ le4 c.kg.toNat ++ le4 c.ht.toNat ++ Cn.le8 c.gain) 26) := Lib.hid (fun W' xb G cp he => he.put8 (k := 30) rfl hg)
  have p8 : Hid (∀ W' xb G, En w W' c xb G ([192, 158] ++ le4 c.gen.toNat ++ le4 c.bl.toNat ++ le4 c.se.toNat ++ le4 c.at_.toNat ++ le4 c.n.toNat ++ le4 c.kg.toNat ++ le4 c.ht.toNat ++ Cn.le8 c.gain) 26 → Calls Try.prog 27 #[.slice (some ⟨G, 0, none⟩) 60 64] W' fun e W'' => e = .returned (.int .u32 ((sum (Cn.body c) : Nat) : Int)) ∧ En w W'' c xb G ([192, 158] ++ le4 c.gen.toNat ++ le4 c.bl.toNat ++ le4 c.se.toNat ++ le4 c.at_.toNat ++ le4 c.n.toNat ++ le4 c.kg.toNat ++ le4 c.ht.toNat ++ Cn.le8 c.gain) 26) := Lib.hid (fun W' xb G he => he.tsum)
  have p9 : Hid (∀ W' xb G cp, En w W' c xb G ([192, 158] ++ le4 c.gen.toNat ++ le4 c.bl.toNat ++ le4 c.se.toNat ++ le4 c.at_.toNat ++ le4 c.n.toNat ++ le4 c.kg.toNat ++ le4 c.ht.toNat ++ Cn.le8 c.gain) 26 → Calls Try.prog 26 #[.slice (some ⟨G, 60, none⟩) 4 cp, .int .u64 ((sum (Cn.body c) : Nat) : Int)] W' fun e W'' => e = .returned (.tuple #[]) ∧ ByBlk W'' G (Cn.enc c) ∧ Below w.heap.size w W'') := Lib.hid (fun W' xb G cp he => he.last cp)
  have hs9 := Cn.sum_lt (Cn.body c)
  obtain ⟨S, hS⟩ : ∃ S, sum (Cn.body c) = S := ⟨_, rfl⟩
  obtain ⟨EL, hEL⟩ : ∃ EL, Cn.enc c = EL := ⟨_, rfl⟩
  rw [hS] at p8 p9 hs9
  have hwS : IntKind.u64.wrap (S : Int) = (S : Int) := by
    have h : IntKind.u64.wrap (S : Int) = (S : Int) % 18446744073709551616 := by simp [IntKind.wrap, IntKind.bits, IntKind.signed]
    rw [h]; omega
  rw [hEL] at p9 ⊢
  clear hS hEL
  have MK : Hid (∀ W, (Instr.makeSlice 28 (.int .i64 64) (.int .i64 64)).run Try.prog W = .ok (.slice (some ⟨W.heap.size, 0, none⟩) 64 64) (W.alloc (.cells (zcells 64) 5))) := Lib.hid (make_bytes 64 (by decide))
  have hbits := fun W => run_bits c.gain W
  obtain ⟨x1, x2, x3, x4, x5, x6, x7, x8⟩ := c
  simp only [crV, crC] at *
  have c0 : W.cell? ⟨w.heap.size, 0, none⟩ = some (.int .i64 x1) := hk.cell 0
  have c1 : W.cell? ⟨w.heap.size, 1, none⟩ = some (.int .i64 x2) := hk.cell 1
  have c2 : W.cell? ⟨w.heap.size, 2, none⟩ = some (.int .i64 x3) := hk.cell 2
  have c3 : W.cell? ⟨w.heap.size, 3, none⟩ = some (.float .f64 x4) := hk.cell 3
  have c4 : W.cell? ⟨w.heap.size, 4, none⟩ = some (.int .i64 x5) := hk.cell 4
  have c5 : W.cell? ⟨w.heap.size, 5, none⟩ = some (.int .i64 x6) := hk.cell 5
  have c6 : W.cell? ⟨w.heap.size, 6, none⟩ = some (.int .i64 x7) := hk.cell 6
  have c7 : W.cell? ⟨w.heap.size, 7, none⟩ = some (.int .i64 x8) := hk.cell 7
  clear hb hk h hok a1 a2 a3 a4 a5 a6 a7 a8 a9 b1 b2 b3 b4 b5 b6
  go_enter Try.func11, Try.ntmps11
  go_wp2_with (go_at_call 14; (with_reducible refine (mm.out _).mono ?_); rintro e w' ⟨rfl, hw'⟩; clear c0 c1 c2 c3 c4 c5 c6 c7 hW; have mk' := MK.out w'; obtain ⟨w0, hw0, d0, d1, d2, d3⟩ := new64 w'; rw [hw0] at mk'; have HW0 := Lib.hid hw0; have HW' := Lib.hid hw'; obtain ⟨G, hG⟩ : ∃ G, w'.heap.size = G := ⟨_, rfl⟩; rw [hG] at mk' d0 d1 d2 d3; clear hw0 hw')
  have hcur := e0.out _ HW'.out _ hG.symm
  rw [HW0.out] at hcur
  generalize (w0.setCell ⟨G, 0, none⟩ (.int .u8 192)).setCell ⟨G, 1, none⟩ (.int .u8 158) = W1 at *
  clear d0 d1 d2 d3 mk' HW0 HW' hG
  have cutk : ∀ (j : Nat), 0 < j → j < 64 → ∀ w, (Instr.slice 28 (.slice (some ⟨G, 0, none⟩) 64 64) (some (.int .i64 (j : Int))) none none).run Try.prog w = .ok (.slice (some ⟨G, j, none⟩) (64 - j) (64 - j)) w := fun j h0 hj w => by
    have := run_slice_from (P := Try.prog) Try.underlying28 hi0 hs0 (some ⟨G, 0, none⟩) 64 64 j (by omega) w
    rw [this]
    unfold cutA
    rw [if_neg (by omega)]
    simp [Addr.add_lit]
  have cutm : ∀ w, (Instr.slice 28 (.slice (some ⟨G, 0, none⟩) 64 64) (some (.int .i64 30)) (some (.int .i64 38)) none).run Try.prog w = .ok (.slice (some ⟨G, 30, none⟩) 8 34) w := fun w =>
    run_slice_mid (P := Try.prog) Try.underlying28 hi0 hs0 (some ⟨G, 0, none⟩) 64 64 30 38 (by omega) (by omega) w
  have cutt : ∀ w, (Instr.slice 28 (.slice (some ⟨G, 0, none⟩) 64 64) none (some (.int .i64 60)) none).run Try.prog w = .ok (.slice (some ⟨G, 0, none⟩) 60 64) w := fun w =>
    run_slice_to (P := Try.prog) Try.underlying28 hi0 (some ⟨G, 0, none⟩) 64 64 60 (by omega) w
  have cut2 : ∀ w, (Instr.slice 28 (.slice (some ⟨G, 0, none⟩) 64 64) (some (.int .i64 2)) none none).run Try.prog w = .ok (.slice (some ⟨G, 2, none⟩) 62 62) w := cutk 2 (by decide) (by decide)
  have cut6 : ∀ w, (Instr.slice 28 (.slice (some ⟨G, 0, none⟩) 64 64) (some (.int .i64 6)) none none).run Try.prog w = .ok (.slice (some ⟨G, 6, none⟩) 58 58) w := cutk 6 (by decide) (by decide)
  have cut10 : ∀ w, (Instr.slice 28 (.slice (some ⟨G, 0, none⟩) 64 64) (some (.int .i64 10)) none none).run Try.prog w = .ok (.slice (some ⟨G, 10, none⟩) 54 54) w := cutk 10 (by decide) (by decide)
  have cut14 : ∀ w, (Instr.slice 28 (.slice (some ⟨G, 0, none⟩) 64 64) (some (.int .i64 14)) none none).run Try.prog w = .ok (.slice (some ⟨G, 14, none⟩) 50 50) w := cutk 14 (by decide) (by decide)
  have cut18 : ∀ w, (Instr.slice 28 (.slice (some ⟨G, 0, none⟩) 64 64) (some (.int .i64 18)) none none).run Try.prog w = .ok (.slice (some ⟨G, 18, none⟩) 46 46) w := cutk 18 (by decide) (by decide)
  have cut22 : ∀ w, (Instr.slice 28 (.slice (some ⟨G, 0, none⟩) 64 64) (some (.int .i64 22)) none none).run Try.prog w = .ok (.slice (some ⟨G, 22, none⟩) 42 42) w := cutk 22 (by decide) (by decide)
  have cut26 : ∀ w, (Instr.slice 28 (.slice (some ⟨G, 0, none⟩) 64 64) (some (.int .i64 26)) none none).run Try.prog w = .ok (.slice (some ⟨G, 26, none⟩) 38 38) w := cutk 26 (by decide) (by decide)
  have cut60 : ∀ w, (Instr.slice 28 (.slice (some ⟨G, 0, none⟩) 64 64) (some (.int .i64 60)) none none).run Try.prog w = .ok (.slice (some ⟨G, 60, none⟩) 4 4) w := cutk 60 (by decide) (by decide)
  clear cutk
  have hcur := hcur.drew
  obtain ⟨y0, y1, y2, y3, y4, y5, y6, y7⟩ := hcur.cells
  simp only at y0 y1 y2 y3 y4 y5 y6 y7
  go_region_law ((go_simp; go_at_call 25; (with_reducible refine (p0.out _ _ _ _ _ (by decide) hcur).mono ?_); rintro e W2 ⟨rfl, hcur⟩))
  clear y0 y1 y2 y3 y4 y5 y6 y7 p0 cut2
  go_wp2_with fail
  have hcur := hcur.drew
  obtain ⟨y0, y1, y2, y3, y4, y5, y6, y7⟩ := hcur.cells
  simp only at y0 y1 y2 y3 y4 y5 y6 y7
  go_region_law ((go_simp; go_at_call 25; (with_reducible refine (p1.out _ _ _ _ _ (by decide) hcur).mono ?_); rintro e W3 ⟨rfl, hcur⟩))
  clear y0 y1 y2 y3 y4 y5 y6 y7 p1 cut6
  go_wp2_with fail
  have hcur := hcur.drew
  obtain ⟨y0, y1, y2, y3, y4, y5, y6, y7⟩ := hcur.cells
  simp only at y0 y1 y2 y3 y4 y5 y6 y7
  go_region_law ((go_simp; go_at_call 25; (with_reducible refine (p2.out _ _ _ _ _ (by decide) hcur).mono ?_); rintro e W4 ⟨rfl, hcur⟩))
  clear y0 y1 y2 y3 y4 y5 y6 y7 p2 cut10
  go_wp2_with fail
  have hcur := hcur.drew
  obtain ⟨y0, y1, y2, y3, y4, y5, y6, y7⟩ := hcur.cells
  simp only at y0 y1 y2 y3 y4 y5 y6 y7
  go_region_law ((go_simp; go_at_call 25; (with_reducible refine (p3.out _ _ _ _ _ (by decide) hcur).mono ?_); rintro e W5 ⟨rfl, hcur⟩))
  clear y0 y1 y2 y3 y4 y5 y6 y7 p3 cut14
  go_wp2_with fail
  have hcur := hcur.drew
  obtain ⟨y0, y1, y2, y3, y4, y5, y6, y7⟩ := hcur.cells
  simp only at y0 y1 y2 y3 y4 y5 y6 y7
  go_region_law ((go_simp; go_at_call 25; (with_reducible refine (p4.out _ _ _ _ _ (by decide) hcur).mono ?_); rintro e W6 ⟨rfl, hcur⟩))
  clear y0 y1 y2 y3 y4 y5 y6 y7 p4 cut18
  go_wp2_with fail
  have hcur := hcur.drew
  obtain ⟨y0, y1, y2, y3, y4, y5, y6, y7⟩ := hcur.cells
  simp only at y0 y1 y2 y3 y4 y5 y6 y7
  go_region_law ((go_simp; go_at_call 25; (with_reducible refine (p5.out _ _ _ _ _ (by decide) hcur).mono ?_); rintro e W7 ⟨rfl, hcur⟩))
  clear y0 y1 y2 y3 y4 y5 y6 y7 p5 cut22
  go_wp2_with fail
  have hcur := hcur.drew
  obtain ⟨y0, y1, y2, y3, y4, y5, y6, y7⟩ := hcur.cells
  simp only at y0 y1 y2 y3 y4 y5 y6 y7
  go_region_law ((go_simp; go_at_call 25; (with_reducible refine (p6.out _ _ _ _ _ (by decide) hcur).mono ?_); rintro e W8 ⟨rfl, hcur⟩))
  clear y0 y1 y2 y3 y4 y5 y6 y7 p6 cut26
  go_wp2_with fail
  have hcur := hcur.drew
  obtain ⟨y0, y1, y2, y3, y4, y5, y6, y7⟩ := hcur.cells
  simp only at y0 y1 y2 y3 y4 y5 y6 y7
  go_region_law ((go_simp; go_at_call 26; (with_reducible refine (p7.out _ _ _ _ hcur).mono ?_); rintro e W9 ⟨rfl, hcur⟩))
  clear y0 y1 y2 y3 y4 y5 y6 y7 p7 cutm
  go_wp2_with fail
  have hcur := hcur.drew
  have hfin : Hid (w.heap.size ≤ G) := Lib.hid hcur.hg
  go_region_law (first
    | (go_simp; go_at_call 27; (with_reducible refine (p8.out _ _ _ hcur).mono ?_); rintro e W10 ⟨rfl, hcur⟩)
    | (go_simp; go_at_call 26; (with_reducible refine (p9.out _ _ _ _ hcur).mono ?_); rintro e W11 ⟨rfl, hrow, hbel⟩))
  have HR := Lib.hid hrow
  have HBL := Lib.hid hbel
  clear hrow hbel cut60 cutt
  go_wp2_with fail
  go_returns
  exact ⟨HBL.out, .inr ⟨HH.out, _, hfin.out, rfl, HR.out⟩⟩
end Go.Proofs.Ythdmghocfngfgaa
