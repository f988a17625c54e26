/- LeafSizes returns true for all arguments; the memory that was there stays as it is. -/
import Derived.Test.YtpicalkcgioimaaLmakes
import Derived.Laws.Small
namespace Go.Proofs.Ytpicalkcgioimaa
open Go.RowKit Crc

theorem by_zeros (w : World) (n : Nat) (hn : n ≤ 1000000) : By (w.alloc (.cells (zcells n) 5)) (some ⟨w.heap.size, 0, none⟩) n (List.replicate n 0) :=
  ⟨byblk_sl (byblk_zeros w n), by intro x hx; rw [List.eq_of_mem_replicate hx]; decide, by rw [List.length_replicate]; exact Nat.le_refl _, by simp, by rw [List.length_replicate]; exact hn⟩

set_option maxRecDepth 4000 in
set_option maxHeartbeats 4000000 in
theorem sizes_any (w : World) (u r : Nat) (hu : u < 65536) (hr : r < 256) :
    Calls Try.prog 6 #[.int .u16 (u : Int), .int .u8 (r : Int)] w fun e w' => e = .returned (.bool true) ∧ Below w.heap.size w w' := by
  obtain ⟨k, hk, hkb⟩ : ∃ k : Nat, (u : Int) % 4097 = k ∧ k ≤ 4096 := ⟨u % 4097, by omega, by omega⟩
  obtain ⟨M, hM⟩ : ∃ M : Nat, M = min 4096 (k + r * 64) := ⟨_, rfl⟩
  have hMb : M ≤ 4096 := by omega
  obtain ⟨T, hT⟩ : ∃ T : Nat, T = (k + 79) / 64 := ⟨_, rfl⟩
  obtain ⟨S, hS⟩ : ∃ S : Nat, S = (M + 79) / 64 := ⟨_, rfl⟩
  obtain ⟨L, hL⟩ : ∃ L : Nat, L = (frameB 1 0 (List.replicate k 0)).length := ⟨_, rfl⟩
  have hLT : L = T * 64 := by rw [hL, fr_len, List.length_replicate, fr_fill, hT]
  have hmin : ∀ (ts : Array TypeId) (t : TypeId) (W : World), (Builtin.min_ ts t #[.int .i64 4096, .int .i64 ((k : Int) + (r : Int) * 64)]).run Try.prog W = .ok (.int .i64 (M : Int)) W := fun ts t W => by
    rw [run_min_int2, show (if (k : Int) + (r : Int) * 64 < 4096 then (k : Int) + (r : Int) * 64 else 4096) = (M : Int) by split <;> omega]
  have mk1 : ∀ w, (Instr.makeSlice 22 (.int .i64 (k : Int)) (.int .i64 (k : Int))).run Try.prog w = .ok (.slice (some ⟨w.heap.size, 0, none⟩) k k) (w.alloc (.cells (zcells k) 5)) := make_bytes k (by omega)
  obtain ⟨N, hN⟩ : ∃ N : Nat, N = 4097 := ⟨_, rfl⟩
  have hNz : (N : Int) = 4097 := by omega
  have mk2 : ∀ w, (Instr.makeSlice 22 (.int .i64 4097) (.int .i64 4097)).run Try.prog w = .ok (.slice (some ⟨w.heap.size, 0, none⟩) N N) (w.alloc (.cells (zcells N) 5)) := fun w => by
    rw [← hNz]
    exact make_bytes N (by omega) w
  have C1 : ∀ W, Calls Try.prog 10 #[.int .u8 1, .int .i64 0, .slice (some ⟨W.heap.size, 0, none⟩) k k] (W.alloc (.cells (zcells k) 5)) fun e w' => ∃ A c, e = .returned (.tuple #[.slice A L c, .int .i64 0]) ∧ Below W.heap.size W w' := fun W => by
    have b0 : Below W.heap.size W (W.alloc (.cells (zcells k) 5)) := (Below.refl _ _).alloc (Nat.le_refl _) _
    refine (make_by 1 (by decide) 1 rfl 0 0 rfl (by decide) (by_zeros W k (by omega)) (by rw [List.length_replicate]; exact hkb) k (by rw [List.length_replicate])).mono ?_
    rintro e w' ⟨A, c, he, _, hw, _⟩
    exact ⟨A, c, by rw [he, hL], b0.trans (hw.mono b0.size)⟩
  have C2 : ∀ W, Calls Try.prog 10 #[.int .u8 1, .int .i64 0, .slice (some ⟨W.heap.size, 0, none⟩) N N] (W.alloc (.cells (zcells N) 5)) (MakeNo 3 W) := fun W => by
    have b0 : Below W.heap.size W (W.alloc (.cells (zcells N) 5)) := (Below.refl _ _).alloc (Nat.le_refl _) _
    refine (make_no 1 (by decide) 1 rfl 0 (by_zeros W N (by omega)) N (by rw [List.length_replicate]) 3 (by rw [List.length_replicate]; unfold makeE; rw [if_neg (by decide), if_pos (by omega)]) (by decide)).mono ?_
    rintro e w' ⟨he, hw⟩
    exact ⟨he, b0.trans (hw.mono b0.size)⟩
  have C3 : ∀ W, Calls Try.prog 10 #[.int .u8 1, .int .i64 (-1), .slice none 0 0] W (MakeNo 1 W) := fun W => make_no 1 (by decide) 1 rfl (-1) (By.none W) 0 rfl 1 rfl (by decide)
  have R1 : ∀ W, Calls Try.prog 12 #[.int .i64 (k : Int)] W fun e w' => e = .returned (.int .i64 (T : Int)) ∧ w' = W := fun W => blocks_lit _ (IntWalk.i64_in _ (by omega)) _ (by rw [blk_nat hkb, hT]) W
  have R2 : ∀ W, Calls Try.prog 12 #[.int .i64 (M : Int)] W fun e w' => e = .returned (.int .i64 (S : Int)) ∧ w' = W := fun W => blocks_lit _ (IntWalk.i64_in _ (by omega)) _ (by rw [blk_nat hMb, hS]) W
  have H1 := Lib.hid C1
  have H2 := Lib.hid C2
  have H3 := Lib.hid C3
  have HR1 := Lib.hid R1
  have HR2 := Lib.hid R2
  have q1 : ((L : Int) == (T : Int) * 64) = true := by rw [beq_iff_eq]; omega
  have q2 : decide ((k : Int) + 16 ≤ (L : Int)) = true := by rw [decide_eq_true_eq]; omega
  have q3 : decide ((L : Int) < (k : Int) + 16 + 64) = true := by rw [decide_eq_true_eq]; omega
  have q3' : decide ((L : Int) < (k : Int) + 80) = true := by rw [decide_eq_true_eq]; omega
  have q4 : decide ((S : Int) - (T : Int) ≤ (r : Int)) = true := by rw [decide_eq_true_eq]; omega
  have hLb : L ≤ 4200 := by omega
  have hTb : T ≤ 65 := by omega
  have hSb : S ≤ 65 := by omega
  by_cases hβ : 4096 < k + r * 64
  · have q5 : decide (4096 < (k : Int) + (r : Int) * 64) = true := by rw [decide_eq_true_eq]; omega
    clear C1 C2 C3 R1 R2 hM hT hS hL hLT hβ hN hNz
    go_enter Try.func6, Try.ntmps6
    go_wp2_with fail
    refine (awake_any _).mono ?_
    rintro e w1 ⟨rfl, hb⟩
    have HB := Lib.hid hb
    clear hb
    go_wp2_with fail
    refine (H1.out _).mono ?_
    rintro e w2 ⟨A2, c2, rfl, b2⟩
    have HB2 := Lib.hid (HB.out.trans (b2.mono HB.out.size))
    clear b2 HB
    go_wp2_with fail
    refine (H2.out _).mono ?_
    rintro e w3 ⟨rfl, b3⟩
    have HB3 := Lib.hid (HB2.out.trans (b3.mono HB2.out.size))
    clear b3 HB2
    go_wp2_with fail
    refine (H3.out _).mono ?_
    rintro e w4 ⟨rfl, b4⟩
    have HB4 := Lib.hid (HB3.out.trans (b4.mono HB3.out.size))
    clear b4 HB3
    go_wp2_with (first
      | (go_at_call 12; (with_reducible refine (HR1.out _).mono ?_); rintro e w5 ⟨rfl, rfl⟩)
      | (go_at_call 12; (with_reducible refine (HR2.out _).mono ?_); rintro e w5 ⟨rfl, rfl⟩)
      | (go_at_call 12; (with_reducible refine (blocks_lit (-1) (by decide) 0 rfl _).mono ?_); rintro e w5 ⟨rfl, rfl⟩)
      | (go_at_call 12; (with_reducible refine (blocks_lit 4097 (by decide) 0 rfl _).mono ?_); rintro e w5 ⟨rfl, rfl⟩)
      | (go_at_call 12; (with_reducible refine (blocks_lit 0 (by decide) 1 rfl _).mono ?_); rintro e w5 ⟨rfl, rfl⟩))
    go_ret
    exact ⟨rfl, HB4.out⟩
  · have q5 : decide (4096 < (k : Int) + (r : Int) * 64) = false := by rw [decide_eq_false_iff_not]; omega
    have q6 : ((S : Int) == (T : Int) + (r : Int)) = true := by rw [beq_iff_eq]; omega
    clear C1 C2 C3 R1 R2 hM hT hS hL hLT hβ hN hNz
    go_enter Try.func6, Try.ntmps6
    go_wp2_with fail
    refine (awake_any _).mono ?_
    rintro e w1 ⟨rfl, hb⟩
    have HB := Lib.hid hb
    clear hb
    go_wp2_with fail
    refine (H1.out _).mono ?_
    rintro e w2 ⟨A2, c2, rfl, b2⟩
    have HB2 := Lib.hid (HB.out.trans (b2.mono HB.out.size))
    clear b2 HB
    go_wp2_with fail
    refine (H2.out _).mono ?_
    rintro e w3 ⟨rfl, b3⟩
    have HB3 := Lib.hid (HB2.out.trans (b3.mono HB2.out.size))
    clear b3 HB2
    go_wp2_with fail
    refine (H3.out _).mono ?_
    rintro e w4 ⟨rfl, b4⟩
    have HB4 := Lib.hid (HB3.out.trans (b4.mono HB3.out.size))
    clear b4 HB3
    go_wp2_with (first
      | (go_at_call 12; (with_reducible refine (HR1.out _).mono ?_); rintro e w5 ⟨rfl, rfl⟩)
      | (go_at_call 12; (with_reducible refine (HR2.out _).mono ?_); rintro e w5 ⟨rfl, rfl⟩)
      | (go_at_call 12; (with_reducible refine (blocks_lit (-1) (by decide) 0 rfl _).mono ?_); rintro e w5 ⟨rfl, rfl⟩)
      | (go_at_call 12; (with_reducible refine (blocks_lit 4097 (by decide) 0 rfl _).mono ?_); rintro e w5 ⟨rfl, rfl⟩)
      | (go_at_call 12; (with_reducible refine (blocks_lit 0 (by decide) 1 rfl _).mono ?_); rintro e w5 ⟨rfl, rfl⟩))
    go_ret
    exact ⟨rfl, HB4.out⟩
end Go.Proofs.Ytpicalkcgioimaa
