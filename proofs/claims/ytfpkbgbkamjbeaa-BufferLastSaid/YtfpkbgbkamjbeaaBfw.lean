/- The statements' awake, and BufferKnown. -/
import Derived.Test.YtfpkbgbkamjbeaaBfs
namespace Go.Proofs.Ytfpkbgbkamjbeaa
open Go.RowKit Go.Maps

theorem byte_info : (Try.prog.info? 5).map (fun i => (i.zero, i.size, i.bytes)) = some (some (.int .u8 0), 1, 1) := by kernel_rfl
/-- A row of noughts, made. -/
theorem make_zb : ∃ Z : Array Value, Z = (byts zb).toArray ∧ ∀ W, (Instr.makeSlice 30 (.int .i64 128) (.int .i64 128)).run Try.prog W = .ok (.slice (some ⟨W.heap.size, 0, none⟩) 128 128) (W.alloc (.cells Z 5)) := by
  refine ⟨madeCells #[.int .u8 0] 128, ?_, fun W => run_make_row' _ _ _ 1 Try.underlying30 byte_info rfl .i64 .i64 128 (by omega) (by omega) W⟩
  apply Array.toList_inj.1
  rw [toList_madeCells_one]
  unfold zb byts
  rw [List.map_replicate]
  rfl
theorem blk_sl {w : World} {b : Nat} {l : List Nat} (h : Blk w b 5 (byts l).toArray) (k : Nat) : Sl w (b + 1) (some ⟨b, k, none⟩) (byts (l.drop k)) := .inr ⟨b, k, rfl, by omega, fun i hi => by
  rw [h.cell (k + i), List.getElem?_toArray, ← List.getElem?_eq_getElem hi, ← byts_drop, List.getElem?_drop]⟩
theorem put_new {s : Pend} {n k : Nat} {x : Int} (hx : 0 ≤ x) (h : (s x).isSome = true ∨ n < k) {l : List Nat} (hl : l.length = 128) : putOk s n k x l = true := by
  unfold putOk
  rw [decide_eq_true_eq]
  exact ⟨hl, hx, h⟩
theorem put_not {s : Pend} {n k : Nat} {x : Int} {l : List Nat} (h : ¬ (l.length = 128 ∧ 0 ≤ x ∧ ((s x).isSome = true ∨ n < k))) : putOk s n k x l = false := by
  unfold putOk
  rw [decide_eq_false_iff_not]
  exact h

set_option maxHeartbeats 4000000 in
theorem bawake_any (w : World) : Calls Try.prog 6 #[] w fun e w' => e = .returned (.bool true) ∧ Below w.heap.size w w' := by
  have N := Lib.hid (sb_new (w := w) (wr := w) 3 (Below.refl _ _))
  obtain ⟨Z, hZ, hmk⟩ := make_zb
  have HZ := Lib.hid hZ
  clear hZ
  go_enter Try.func6, Try.ntmps6
  go_wp2_with fail
  refine N.out.mono ?_
  rintro e w1 ⟨rfl, h1, hb1⟩
  obtain ⟨g, hg⟩ : ∃ g, g = w.heap.size + 1 := ⟨_, rfl⟩
  rw [← hg] at h1 ⊢
  rw [show clampN 3 = 3 by decide] at h1
  obtain ⟨W2, hW2⟩ : ∃ W2, w1.alloc (.cells Z 5) = W2 := ⟨_, rfl⟩
  obtain ⟨xb, hxb⟩ : ∃ xb, w1.heap.size = xb := ⟨_, rfl⟩
  have a2 : Below w1.heap.size w1 W2 := by rw [← hW2]; exact (Below.refl _ _).alloc (Nat.le_refl _) _
  have a3 : Blk W2 xb 5 (byts zb).toArray := by rw [← hW2, ← hxb, ← HZ.out]; exact Blk.new _ _ _
  have a4 := h1.new a2 (Nat.le_refl _) (by rw [← hW2]; simp)
  rw [hxb] at a4
  have P := sb_put_yes a4 (x := 5) (i64_small (by omega)) (blk_sl a3 0) a3.lt zb_lt (cap := 128) (by rw [List.drop_zero, zb_len]; exact Nat.le_refl _) (by rw [List.drop_zero, zb_len]; omega) (fun h => by cases h) (put_new (by omega) (.inr (by omega)) zb_len)
  rw [List.drop_zero, zb_len] at P
  have P1 := Lib.hid P
  clear P a2 a3 a4 h1 hb1 hg
  go_wp2_with fail
  refine P1.out.mono ?_
  rintro e w3 ⟨rfl, h3, -⟩
  rw [show more (fun _ => none) 0 5 = 1 from rfl] at h3
  have P2 := Lib.hid (sb_get h3 (x := 5) (i64_small (by omega)))
  have H3 := Lib.hid h3
  clear P1 h3
  go_wp2_with fail
  refine P2.out.mono ?_
  rintro e w4 ⟨⟨b, c, rfl, -⟩, h4, -⟩
  have P3 := Lib.hid (sb_trim_yes h4 (a := 5) (N := 1) (by omega) (by decide))
  clear P2 h4
  go_wp2_with fail
  refine P3.out.mono ?_
  rintro e w5 ⟨rfl, h5, -⟩
  have P4 := Lib.hid (sb_get h5 (x := 5) (i64_small (by omega)))
  clear P3 h5
  go_wp2_with fail
  refine P4.out.mono ?_
  rintro e w6 ⟨⟨c6, rfl, -⟩, h6, -⟩
  have P5 := Lib.hid (sb_len h6)
  have B6 := Lib.hid h6.bel
  clear P4 h6
  go_wp2_with fail
  refine P5.out.mono ?_
  rintro e w7 ⟨rfl, rfl⟩
  go_wp2_with fail
  go_ret
  exact ⟨rfl, B6.out⟩
end Go.Proofs.Ytfpkbgbkamjbeaa
