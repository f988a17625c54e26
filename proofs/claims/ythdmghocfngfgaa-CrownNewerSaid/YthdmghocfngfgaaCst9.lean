/- The statement CrownNewer, for all arguments. -/
import Derived.Test.YthdmghocfngfgaaCst7
import Derived.Test.YthdmghocfngfgaaCst8
namespace Go.Proofs.Ythdmghocfngfgaa
open Go.RowKit Crc

set_option maxRecDepth 4000 in
set_option maxHeartbeats 16000000 in
theorem cnew_triv (c d : Cn.C) (b : Bool) (h : Cn.okB c = false ∨ (Cn.okB c = true ∧ Cn.okB d = false) ∨ (Cn.okB c = true ∧ Cn.okB d = true ∧ c.gen = d.gen)) (w : World) :
    Calls Try.prog 7 #[crV c, crV d, .bool b] w fun e w' => e = .returned (.bool true) ∧ Below w.heap.size w w' := by
  obtain ⟨W0, hW0⟩ : ∃ W, w.alloc (.cells (crC c) 26) = W := ⟨_, rfl⟩
  obtain ⟨W1, hW1⟩ : ∃ W, W0.alloc (.cells (crC d) 26) = W := ⟨_, rfl⟩
  have k0 : Blk W0 w.heap.size 26 (crC c) := by rw [← hW0]; exact Blk.new _ _ _
  have hb0 : Below w.heap.size w W0 := by rw [← hW0]; exact (Below.refl _ _).alloc (Nat.le_refl _) _
  have k1 : Blk W1 w.heap.size 26 (crC c) := by rw [← hW1]; exact k0.alloc _
  have n1 : Blk W1 W0.heap.size 26 (crC d) := by rw [← hW1]; exact Blk.new _ _ _
  have hb1 : Below w.heap.size w W1 := by rw [← hW1]; exact hb0.alloc hb0.size _
  obtain ⟨xb, hx⟩ : ∃ x, w.heap.size = x := ⟨_, rfl⟩
  obtain ⟨xd, hn⟩ : ∃ x, W0.heap.size = x := ⟨_, rfl⟩
  rw [hn] at n1
  have CE : Hid (∀ W, Below W1.heap.size W1 W → (W.cell? ⟨xb, 0, none⟩ = some (.int .i64 c.gen) ∧ W.cell? ⟨xb, 1, none⟩ = some (.int .i64 c.bl) ∧ W.cell? ⟨xb, 2, none⟩ = some (.int .i64 c.se) ∧ W.cell? ⟨xb, 3, none⟩ = some (.float .f64 c.gain) ∧ W.cell? ⟨xb, 4, none⟩ = some (.int .i64 c.at_) ∧ W.cell? ⟨xb, 5, none⟩ = some (.int .i64 c.n) ∧ W.cell? ⟨xb, 6, none⟩ = some (.int .i64 c.kg) ∧ W.cell? ⟨xb, 7, none⟩ = some (.int .i64 c.ht)) ∧ (W.cell? ⟨xd, 0, none⟩ = some (.int .i64 d.gen) ∧ W.cell? ⟨xd, 1, none⟩ = some (.int .i64 d.bl) ∧ W.cell? ⟨xd, 2, none⟩ = some (.int .i64 d.se) ∧ W.cell? ⟨xd, 3, none⟩ = some (.float .f64 d.gain) ∧ W.cell? ⟨xd, 4, none⟩ = some (.int .i64 d.at_) ∧ W.cell? ⟨xd, 5, none⟩ = some (.int .i64 d.n) ∧ W.cell? ⟨xd, 6, none⟩ = some (.int .i64 d.kg) ∧ W.cell? ⟨xd, 7, none⟩ = some (.int .i64 d.ht))) := Lib.hid (fun W h => ⟨xcells (hx ▸ k1.keep (h.block _ k1.lt)), xcells (n1.keep (h.block _ n1.lt))⟩)
  have AW0 : Hid (∀ W, Below W1.heap.size W1 W → Calls Try.prog 10 #[] W fun e w' => e = .returned (.bool true) ∧ Below W1.heap.size W1 w') := Lib.hid (fun W h => by
    refine (cawake_any W).mono ?_
    rintro e w' ⟨rfl, hb⟩
    exact ⟨rfl, h.trans (hb.mono h.size)⟩)
  have Mc : Hid (∀ W, Below W1.heap.size W1 W → Calls Try.prog 15 #[crV c] W fun e w' => e = .returned (.bool (Cn.okB c)) ∧ Below W1.heap.size W1 w') := Lib.hid (fun W h => by
    refine (rmayc_any c W).mono ?_
    rintro e w' ⟨rfl, hb⟩
    exact ⟨rfl, h.trans (hb.mono h.size)⟩)
  have Md : Hid (∀ W, Below W1.heap.size W1 W → Calls Try.prog 15 #[crV d] W fun e w' => e = .returned (.bool (Cn.okB d)) ∧ Below W1.heap.size W1 w') := Lib.hid (fun W h => by
    refine (rmayc_any d W).mono ?_
    rintro e w' ⟨rfl, hb⟩
    exact ⟨rfl, h.trans (hb.mono h.size)⟩)
  have HB1 := Lib.hid hb1
  have hbc := Below.refl W1.heap.size W1
  obtain ⟨⟨a0, a1, a2, a3, a4, a5, a6, a7⟩, b0, b1, b2, b3, b4, b5, b6, b7⟩ := CE.out W1 (Below.refl _ _)
  clear k0 k1 n1 hb0 hb1
  obtain ⟨qc, hqc⟩ : ∃ q, Cn.okB c = q := ⟨_, rfl⟩
  obtain ⟨qd, hqd⟩ : ∃ q, Cn.okB d = q := ⟨_, rfl⟩
  rw [hqc, hqd] at h
  rw [hqc] at Mc
  rw [hqd] at Md
  clear hqc hqd
  obtain ⟨x1, x2, x3, x4, x5, x6, x7, x8⟩ := c
  obtain ⟨z1, z2, z3, z4, z5, z6, z7, z8⟩ := d
  simp only [crC, crV] at hW0 hW1 Mc Md CE a0 a1 a2 a3 a4 a5 a6 a7 b0 b1 b2 b3 b4 b5 b6 b7 ⊢
  simp only at h
  rcases h with h | ⟨h1, h2⟩ | ⟨h1, h2, h3⟩
  · subst h
    go_enter Try.func7, Try.ntmps7
    go_wp2_with (first
      | (go_at_call 10; (with_reducible refine (AW0.out _ hbc).mono ?_); rintro e w1 ⟨rfl, hbc⟩; obtain ⟨⟨a0, a1, a2, a3, a4, a5, a6, a7⟩, b0, b1, b2, b3, b4, b5, b6, b7⟩ := CE.out _ hbc)
      | (go_at_call 15; (with_reducible refine (Mc.out _ hbc).mono ?_); rintro e w1 ⟨rfl, hbc⟩; obtain ⟨⟨a0, a1, a2, a3, a4, a5, a6, a7⟩, b0, b1, b2, b3, b4, b5, b6, b7⟩ := CE.out _ hbc)
      | (go_at_call 15; (with_reducible refine (Md.out _ hbc).mono ?_); rintro e w1 ⟨rfl, hbc⟩; obtain ⟨⟨a0, a1, a2, a3, a4, a5, a6, a7⟩, b0, b1, b2, b3, b4, b5, b6, b7⟩ := CE.out _ hbc))
    go_ret
    exact ⟨rfl, HB1.out.trans (hbc.mono HB1.out.size)⟩
  · subst h1 h2
    go_enter Try.func7, Try.ntmps7
    go_wp2_with (first
      | (go_at_call 10; (with_reducible refine (AW0.out _ hbc).mono ?_); rintro e w1 ⟨rfl, hbc⟩; obtain ⟨⟨a0, a1, a2, a3, a4, a5, a6, a7⟩, b0, b1, b2, b3, b4, b5, b6, b7⟩ := CE.out _ hbc)
      | (go_at_call 15; (with_reducible refine (Mc.out _ hbc).mono ?_); rintro e w1 ⟨rfl, hbc⟩; obtain ⟨⟨a0, a1, a2, a3, a4, a5, a6, a7⟩, b0, b1, b2, b3, b4, b5, b6, b7⟩ := CE.out _ hbc)
      | (go_at_call 15; (with_reducible refine (Md.out _ hbc).mono ?_); rintro e w1 ⟨rfl, hbc⟩; obtain ⟨⟨a0, a1, a2, a3, a4, a5, a6, a7⟩, b0, b1, b2, b3, b4, b5, b6, b7⟩ := CE.out _ hbc))
    go_ret
    exact ⟨rfl, HB1.out.trans (hbc.mono HB1.out.size)⟩
  · subst h1 h2
    have g2 : (x1 == z1) = true := by simp; omega
    clear h3
    go_enter Try.func7, Try.ntmps7
    go_wp2_with (first
      | (go_at_call 10; (with_reducible refine (AW0.out _ hbc).mono ?_); rintro e w1 ⟨rfl, hbc⟩; obtain ⟨⟨a0, a1, a2, a3, a4, a5, a6, a7⟩, b0, b1, b2, b3, b4, b5, b6, b7⟩ := CE.out _ hbc)
      | (go_at_call 15; (with_reducible refine (Mc.out _ hbc).mono ?_); rintro e w1 ⟨rfl, hbc⟩; obtain ⟨⟨a0, a1, a2, a3, a4, a5, a6, a7⟩, b0, b1, b2, b3, b4, b5, b6, b7⟩ := CE.out _ hbc)
      | (go_at_call 15; (with_reducible refine (Md.out _ hbc).mono ?_); rintro e w1 ⟨rfl, hbc⟩; obtain ⟨⟨a0, a1, a2, a3, a4, a5, a6, a7⟩, b0, b1, b2, b3, b4, b5, b6, b7⟩ := CE.out _ hbc))
    go_ret
    exact ⟨rfl, HB1.out.trans (hbc.mono HB1.out.size)⟩

theorem cnewer_any (c d : Cn.C) (gc : c.gain < 18446744073709551616) (gd : d.gain < 18446744073709551616) (b : Bool) (w : World) :
    Calls Try.prog 7 #[crV c, crV d, .bool b] w fun e w' => e = .returned (.bool true) ∧ Below w.heap.size w w' := by
  cases qc : Cn.okB c
  · exact cnew_triv c d b (.inl qc) w
  cases qd : Cn.okB d
  · exact cnew_triv c d b (.inr (.inl ⟨qc, qd⟩)) w
  have hc : Cn.Ok c := by unfold Cn.okB at qc; exact of_decide_eq_true qc
  have hd : Cn.Ok d := by unfold Cn.okB at qd; exact of_decide_eq_true qd
  by_cases he : c.gen = d.gen
  · exact cnew_triv c d b (.inr (.inr ⟨qc, qd, he⟩)) w
  by_cases hl : c.gen < d.gen
  · cases b
    · by_cases hf : c.gen = 1
      · exact cnew_nf1 c d hc hd gc gd hl hf w
      · exact cnew_nfx c d hc hd gc gd hl hf w
    · by_cases hf : d.gen = 1
      · exact cnew_nt1 c d hc hd gc gd hl hf w
      · exact cnew_ntx c d hc hd gc gd hl hf w
  · have hl : d.gen < c.gen := by omega
    cases b
    · by_cases hf : c.gen = 1
      · exact cnew_of1 c d hc hd gc gd hl hf w
      · exact cnew_ofx c d hc hd gc gd hl hf w
    · by_cases hf : d.gen = 1
      · exact cnew_ot1 c d hc hd gc gd hl hf w
      · exact cnew_otx c d hc hd gc gd hl hf w
end Go.Proofs.Ythdmghocfngfgaa
