/- The statement CrownEncodes, for all arguments. -/
import Derived.Test.YthdmghocfngfgaaCla
import Derived.Test.YthdmghocfngfgaaRcen
namespace Go.Proofs.Ythdmghocfngfgaa
open Go.RowKit Crc

set_option maxRecDepth 4000 in
set_option maxHeartbeats 8000000 in
theorem cencodes_no (c : Cn.C) (hno : ¬ Cn.Ok c) (w : World) :
    Calls Try.prog 3 #[crV c] w fun e w' => e = .returned (.bool true) ∧ Below w.heap.size w w' := by
  have AW := Lib.hid cawake_any
  obtain ⟨W0, hW0⟩ : ∃ W, w.alloc (.cells (crC c) 26) = W := ⟨_, rfl⟩
  have k0 : Blk W0 w.heap.size 26 (crC c) := by rw [← hW0]; exact Blk.new _ _ _
  have hb0 : Below w.heap.size w W0 := by rw [← hW0]; exact (Below.refl _ _).alloc (Nat.le_refl _) _
  obtain ⟨xb, hx⟩ : ∃ x, w.heap.size = x := ⟨_, rfl⟩
  have CE : Hid (∀ W, Below W0.heap.size W0 W → W.cell? ⟨xb, 0, none⟩ = some (.int .i64 c.gen) ∧ W.cell? ⟨xb, 1, none⟩ = some (.int .i64 c.bl) ∧ W.cell? ⟨xb, 2, none⟩ = some (.int .i64 c.se) ∧ W.cell? ⟨xb, 3, none⟩ = some (.float .f64 c.gain) ∧ W.cell? ⟨xb, 4, none⟩ = some (.int .i64 c.at_) ∧ W.cell? ⟨xb, 5, none⟩ = some (.int .i64 c.n) ∧ W.cell? ⟨xb, 6, none⟩ = some (.int .i64 c.kg) ∧ W.cell? ⟨xb, 7, none⟩ = some (.int .i64 c.ht)) := Lib.hid (fun W h => xcells (hx ▸ k0.keep (h.block _ k0.lt)))
  have AW0 : Hid (∀ W, Below W0.heap.size W0 W → Calls Try.prog 10 #[] W fun e w' => e = .returned (.bool true) ∧ Below W0.heap.size W0 w') := Lib.hid (fun W h => by
    refine (cawake_any W).mono ?_
    rintro e w' ⟨rfl, hb⟩
    exact ⟨rfl, h.trans (hb.mono h.size)⟩)
  have LC : Hid (∀ W, Below W0.heap.size W0 W → Calls Try.prog 12 #[crV c] W fun e w' => e = .returned (crV c) ∧ Below W0.heap.size W0 w') := Lib.hid (fun W h => by
    refine (lcrown_any c W).mono ?_
    rintro e w' ⟨rfl, hb⟩
    exact ⟨rfl, h.trans (hb.mono h.size)⟩)
  have EC : Hid (∀ W, Below W0.heap.size W0 W → Calls Try.prog 11 #[crV c] W fun e w' => e = .returned (.tuple #[.slice none 0 0, .int .i64 1]) ∧ Below W0.heap.size W0 w') := Lib.hid (fun W h => by
    refine (cenc_no c hno W).mono ?_
    rintro e w' ⟨hb, ⟨_, rfl⟩ | ⟨h1, _⟩⟩
    · exact ⟨rfl, h.trans (hb.mono h.size)⟩
    · exact absurd h1 hno)
  have RC : Hid (∀ W, Below W0.heap.size W0 W → Calls Try.prog 13 #[crV c] W fun e w' => e = .returned (.tuple #[.slice none 0 0, .int .i64 1]) ∧ Below W0.heap.size W0 w') := Lib.hid (fun W h => by
    refine (renc_no c hno W).mono ?_
    rintro e w' ⟨hb, ⟨_, rfl⟩ | ⟨h1, _⟩⟩
    · exact ⟨rfl, h.trans (hb.mono h.size)⟩
    · exact absurd h1 hno)
  have MC : Hid (∀ W, Below W0.heap.size W0 W → Calls Try.prog 14 #[crV c] W fun e w' => e = .returned (.bool (Cn.okB c)) ∧ Below W0.heap.size W0 w') := Lib.hid (fun W h => by
    refine (cmay_any c W).mono ?_
    rintro e w' ⟨rfl, hb⟩
    exact ⟨rfl, h.trans (hb.mono h.size)⟩)
  have MR : Hid (∀ W, Below W0.heap.size W0 W → Calls Try.prog 15 #[crV c] W fun e w' => e = .returned (.bool (Cn.okB c)) ∧ Below W0.heap.size W0 w') := Lib.hid (fun W h => by
    refine (rmayc_any c W).mono ?_
    rintro e w' ⟨rfl, hb⟩
    exact ⟨rfl, h.trans (hb.mono h.size)⟩)
  have HB0 := Lib.hid hb0
  have hcv : ∀ W, (convert 28 9 (.slice none 0 0)).run Try.prog W = .ok (.string (bstr [])) W := fun W => conv_b (B := 0) (l := []) (.inl rfl)
  obtain ⟨a0, a1, a2, a3, a4, a5, a6, a7⟩ := CE.out W0 (Below.refl _ _)
  have hbc := Below.refl W0.heap.size W0
  generalize bstr [] = S at *
  obtain ⟨m, hm⟩ : ∃ m, Cn.okB c = m := ⟨_, rfl⟩
  rw [hm] at MC MR
  clear hm hno k0 hb0
  obtain ⟨x1, x2, x3, x4, x5, x6, x7, x8⟩ := c
  simp only [crC, crV] at hW0 LC EC RC MC MR CE a0 a1 a2 a3 a4 a5 a6 a7 ⊢
  go_enter Try.func3, Try.ntmps3
  go_upto_region 5 with (first
    | (go_at_call 10; (with_reducible refine (AW0.out _ hbc).mono ?_); rintro e w1 ⟨rfl, hbc⟩; obtain ⟨a0, a1, a2, a3, a4, a5, a6, a7⟩ := CE.out _ hbc)
    | (go_at_call 12; (with_reducible refine (LC.out _ hbc).mono ?_); rintro e w1 ⟨rfl, hbc⟩; obtain ⟨a0, a1, a2, a3, a4, a5, a6, a7⟩ := CE.out _ hbc)
    | (go_at_call 11; (with_reducible refine (EC.out _ hbc).mono ?_); rintro e w1 ⟨rfl, hbc⟩; obtain ⟨a0, a1, a2, a3, a4, a5, a6, a7⟩ := CE.out _ hbc)
    | (go_at_call 13; (with_reducible refine (RC.out _ hbc).mono ?_); rintro e w1 ⟨rfl, hbc⟩; obtain ⟨a0, a1, a2, a3, a4, a5, a6, a7⟩ := CE.out _ hbc))
  have hbc := hbc.drew
  go_region_held_law (fun X => X.cell? ⟨xb, 0, none⟩ = some (.int .i64 x1) ∧ X.cell? ⟨xb, 1, none⟩ = some (.int .i64 x2) ∧ X.cell? ⟨xb, 2, none⟩ = some (.int .i64 x3) ∧ X.cell? ⟨xb, 3, none⟩ = some (.float .f64 x4) ∧ X.cell? ⟨xb, 4, none⟩ = some (.int .i64 x5) ∧ X.cell? ⟨xb, 5, none⟩ = some (.int .i64 x6) ∧ X.cell? ⟨xb, 6, none⟩ = some (.int .i64 x7) ∧ X.cell? ⟨xb, 7, none⟩ = some (.int .i64 x8) ∧ (convert 28 9 (.slice none 0 0)).run Try.prog X = .ok (.string S) X) ((obtain ⟨a0, a1, a2, a3, a4, a5, a6, a7⟩ := CE.out _ hbc; exact ⟨a0, a1, a2, a3, a4, a5, a6, a7, hcv _⟩)) (first
    | (go_at_call 12; (with_reducible refine (LC.out _ hbc).mono ?_); rintro e w1 ⟨rfl, hbc⟩)
    | (go_at_call 14; (with_reducible refine (MC.out _ hbc).mono ?_); rintro e w1 ⟨rfl, hbc⟩)
    | (go_at_call 15; (with_reducible refine (MR.out _ hbc).mono ?_); rintro e w1 ⟨rfl, hbc⟩))
  go_wp2_with fail
  go_ret
  exact ⟨rfl, HB0.out.trans (hbc.mono HB0.out.size)⟩
end Go.Proofs.Ythdmghocfngfgaa
