/- The program's isIn, isFixed, isKid and May. -/
import Derived.Test.YthdmghocfngfgaaCn
import Derived.Test.YthdmghocfngfgaaFbits
namespace Go.Proofs.Ythdmghocfngfgaa
open Go.RowKit Flt

/-- Whether x is from lo to hi. -/
def inB (x lo hi : Int) : Bool := decide (lo ≤ x) && decide (x ≤ hi)
set_option maxHeartbeats 1000000 in
theorem isin_any (x lo hi : Int) (w : World) : Calls Try.prog 30 #[.int .i64 x, .int .i64 lo, .int .i64 hi] w fun e w' => e = .returned (.bool (inB x lo hi)) ∧ w' = w := by
  unfold inB
  cases c1 : decide (lo ≤ x)
  · go_enter Try.func30, Try.ntmps30
    go_wp2_with fail
    go_ret
    exact ⟨rfl, rfl⟩
  · cases c2 : decide (x ≤ hi)
    all_goals
      go_enter Try.func30, Try.ntmps30
      go_wp2_with fail
      go_ret
      exact ⟨rfl, rfl⟩
/-- Whether a gain is as it is fixed. -/
def fixedB (x : Nat) : Bool := decide (fixB x = x)
theorem fixed_eq (x : Nat) : ((x : Int) == (fixB x : Int)) = fixedB x := by
  unfold fixedB
  rw [Bool.eq_iff_iff]
  simp only [beq_iff_eq, decide_eq_true_eq]
  omega
set_option maxHeartbeats 1000000 in
theorem isfixed_any (x : Nat) (w : World) : Calls Try.prog 31 #[.float .f64 x] w fun e w' => e = .returned (.bool (fixedB x)) ∧ w' = w := by
  have hb := fun y => run_bits y w
  obtain ⟨r, hr⟩ : ∃ r, fixedB x = r := ⟨_, rfl⟩
  have he := fixed_eq x
  rw [hr] at he ⊢
  have hf := Lib.hid (fix_any x w)
  generalize fixB x = y at *
  clear hr
  go_enter Try.func31, Try.ntmps31
  go_wp2_with (go_at_call 24; (with_reducible refine hf.out.mono ?_); rintro e w' ⟨rfl, rfl⟩)
  go_ret
  exact ⟨rfl, rfl⟩
/-- Whether a root's frame lies on a platter. -/
def kidB (a n kg gen bl : Int) : Bool := inB kg 0 gen && (inB n 1 128 && inB a 2 (bl - n))
set_option maxHeartbeats 2000000 in
theorem iskid_any' (a n kg gen bl : Int) (h1 : 64 ≤ bl) (h2 : bl ≤ 8192) (w : World) : Calls Try.prog 32 #[.agg #[.int .i64 a, .int .i64 n, .int .i64 kg], .int .i64 gen, .int .i64 bl] w fun e w' => e = .returned (.bool (kidB a n kg gen bl)) ∧ Below w.heap.size w w' := by
  obtain ⟨W, hW⟩ : ∃ W, w.alloc (.cells #[.int .i64 a, .int .i64 n, .int .i64 kg] 32) = W := ⟨_, rfl⟩
  have hb : Below w.heap.size w W := by rw [← hW]; exact (Below.refl _ _).alloc (Nat.le_refl _) _
  have hk : Blk W w.heap.size 32 #[.int .i64 a, .int .i64 n, .int .i64 kg] := by rw [← hW]; exact Blk.new _ _ _
  have c0 : W.cell? ⟨w.heap.size, 0, none⟩ = some (.int .i64 a) := hk.cell 0
  have c1 : W.cell? ⟨w.heap.size, 1, none⟩ = some (.int .i64 n) := hk.cell 1
  have c2 : W.cell? ⟨w.heap.size, 2, none⟩ = some (.int .i64 kg) := hk.cell 2
  have HB := Lib.hid hb
  clear hb hk
  have ii := @isin_any
  unfold kidB
  cases q1 : inB kg 0 gen
  · go_enter Try.func32, Try.ntmps32
    go_wp2_with (go_at_call 30; (with_reducible refine (ii _ _ _ _).mono ?_); rintro e w' ⟨rfl, hw'⟩; subst hw'; rw [q1])
    go_ret
    exact ⟨rfl, HB.out⟩
  · cases q2 : inB n 1 128
    · go_enter Try.func32, Try.ntmps32
      go_wp2_with (go_at_call 30; (with_reducible refine (ii _ _ _ _).mono ?_); rintro e w' ⟨rfl, hw'⟩; subst hw'; (first | rw [q1] | rw [q2]))
      go_ret
      exact ⟨rfl, HB.out⟩
    · have hn : 1 ≤ n ∧ n ≤ 128 := by simpa [inB] using q2
      have hw : IntKind.i64.wrap (bl - n) = bl - n := IntWalk.i64_in _ (by omega)
      obtain ⟨q, q3⟩ : ∃ q, inB a 2 (bl - n) = q := ⟨_, rfl⟩
      rw [q3]
      go_enter Try.func32, Try.ntmps32
      go_wp2_with (go_at_call 30; (with_reducible refine (ii _ _ _ _).mono ?_); rintro e w' ⟨rfl, hw'⟩; subst hw'; (first | rw [q1] | rw [q2] | rw [q3]))
      go_ret
      exact ⟨rfl, HB.out⟩
/-- A crown as a value: the program's and the document's alike. -/
def crV (c : Cn.C) : Value := .agg #[.int .i64 c.gen, .int .i64 c.bl, .int .i64 c.se, .float .f64 c.gain, .int .i64 c.at_, .int .i64 c.n, .int .i64 c.kg, .int .i64 c.ht]
theorem ok_parts (c : Cn.C) : Cn.okB c = (inB c.gen 1 268435455 && (inB c.bl 64 8192 && (inB c.se 1 512 && (fixedB c.gain && (inB c.ht 0 5 && kidB c.at_ c.n c.kg c.gen c.bl))))) := by
  unfold Cn.okB
  rw [Bool.eq_iff_iff, decide_eq_true_eq]
  unfold Cn.Ok fixedB kidB inB
  simp only [decide_eq_true_eq, Bool.and_eq_true]
  constructor
  · rintro ⟨a1, a2, a3, a4, a5, a6, a7, a8, a9, b1, b2, b3, b4, b5, b6⟩
    exact ⟨⟨a1, a2⟩, ⟨a3, a4⟩, ⟨a5, a6⟩, a7, ⟨a8, a9⟩, ⟨b1, b2⟩, ⟨b3, b4⟩, b5, b6⟩
  · rintro ⟨⟨a1, a2⟩, ⟨a3, a4⟩, ⟨a5, a6⟩, a7, ⟨a8, a9⟩, ⟨b1, b2⟩, ⟨b3, b4⟩, b5, b6⟩
    exact ⟨a1, a2, a3, a4, a5, a6, a7, a8, a9, b1, b2, b3, b4, b5, b6⟩
set_option maxHeartbeats 4000000 in
theorem cmay_any (c : Cn.C) (w : World) : Calls Try.prog 14 #[crV c] w fun e w' => e = .returned (.bool (Cn.okB c)) ∧ Below w.heap.size w w' := by
  rw [ok_parts]
  obtain ⟨x1, x2, x3, x4, x5, x6, x7, x8⟩ := c
  simp only [crV]
  obtain ⟨W, hW⟩ : ∃ W, w.alloc (.cells #[.int .i64 x1, .int .i64 x2, .int .i64 x3, .float .f64 x4, .int .i64 x5, .int .i64 x6, .int .i64 x7, .int .i64 x8] 36) = W := ⟨_, rfl⟩
  have hb : Below w.heap.size w W := by rw [← hW]; exact (Below.refl _ _).alloc (Nat.le_refl _) _
  have hk : Blk W w.heap.size 36 #[.int .i64 x1, .int .i64 x2, .int .i64 x3, .float .f64 x4, .int .i64 x5, .int .i64 x6, .int .i64 x7, .int .i64 x8] := by rw [← hW]; exact Blk.new _ _ _
  have c0 : W.cell? ⟨w.heap.size, 0, none⟩ = some (.int .i64 x1) := hk.cell 0
  have c1 : W.cell? ⟨w.heap.size, 1, none⟩ = some (.int .i64 x2) := hk.cell 1
  have c2 : W.cell? ⟨w.heap.size, 2, none⟩ = some (.int .i64 x3) := hk.cell 2
  have c3 : W.cell? ⟨w.heap.size, 3, none⟩ = some (.float .f64 x4) := hk.cell 3
  have c4 : W.cell? ⟨w.heap.size, 4, none⟩ = some (.int .i64 x5) := hk.cell 4
  have c5 : W.cell? ⟨w.heap.size, 5, none⟩ = some (.int .i64 x6) := hk.cell 5
  have c6 : W.cell? ⟨w.heap.size, 6, none⟩ = some (.int .i64 x7) := hk.cell 6
  have c7 : W.cell? ⟨w.heap.size, 7, none⟩ = some (.int .i64 x8) := hk.cell 7
  have HB := Lib.hid hb
  clear hb hk
  have ii := @isin_any
  have ff := @isfixed_any
  cases q1 : inB x1 1 268435455
  · go_enter Try.func14, Try.ntmps14
    go_wp2_with (go_at_call 30; (with_reducible refine (ii _ _ _ _).mono ?_); rintro e w' ⟨rfl, hw'⟩; subst hw'; rw [q1])
    go_ret
    exact ⟨rfl, HB.out⟩
  cases q2 : inB x2 64 8192
  · go_enter Try.func14, Try.ntmps14
    go_wp2_with (go_at_call 30; (with_reducible refine (ii _ _ _ _).mono ?_); rintro e w' ⟨rfl, hw'⟩; subst hw'; (first | rw [q1] | rw [q2]))
    go_ret
    exact ⟨rfl, HB.out⟩
  cases q3 : inB x3 1 512
  · go_enter Try.func14, Try.ntmps14
    go_wp2_with (go_at_call 30; (with_reducible refine (ii _ _ _ _).mono ?_); rintro e w' ⟨rfl, hw'⟩; subst hw'; (first | rw [q1] | rw [q2] | rw [q3]))
    go_ret
    exact ⟨rfl, HB.out⟩
  cases q4 : fixedB x4
  · go_enter Try.func14, Try.ntmps14
    go_wp2_with (first
      | (go_at_call 30; (with_reducible refine (ii _ _ _ _).mono ?_); rintro e w' ⟨rfl, hw'⟩; subst hw'; (first | rw [q1] | rw [q2] | rw [q3]))
      | (go_at_call 31; (with_reducible refine (ff _ _).mono ?_); rintro e w' ⟨rfl, hw'⟩; subst hw'; rw [q4]))
    go_ret
    exact ⟨rfl, HB.out⟩
  cases q5 : inB x8 0 5
  · go_enter Try.func14, Try.ntmps14
    go_wp2_with (first
      | (go_at_call 30; (with_reducible refine (ii _ _ _ _).mono ?_); rintro e w' ⟨rfl, hw'⟩; subst hw'; (first | rw [q1] | rw [q2] | rw [q3] | rw [q5]))
      | (go_at_call 31; (with_reducible refine (ff _ _).mono ?_); rintro e w' ⟨rfl, hw'⟩; subst hw'; rw [q4]))
    go_ret
    exact ⟨rfl, HB.out⟩
  have h2 : 64 ≤ x2 ∧ x2 ≤ 8192 := by simpa [inB] using q2
  have kk := Lib.hid (fun W => iskid_any' x5 x6 x7 x1 x2 h2.1 h2.2 W)
  generalize kidB x5 x6 x7 x1 x2 = q at *
  clear h2
  go_enter Try.func14, Try.ntmps14
  go_wp2_with (first
    | (go_at_call 30; (with_reducible refine (ii _ _ _ _).mono ?_); rintro e w' ⟨rfl, hw'⟩; subst hw'; (first | rw [q1] | rw [q2] | rw [q3] | rw [q5]))
    | (go_at_call 31; (with_reducible refine (ff _ _).mono ?_); rintro e w' ⟨rfl, hw'⟩; subst hw'; rw [q4])
    | (go_at_call 32; (with_reducible refine (kk.out _).mono ?_); rintro e w' ⟨rfl, hw'⟩))
  go_ret
  exact ⟨rfl, HB.out.trans (hw'.mono HB.out.size)⟩
end Go.Proofs.Ythdmghocfngfgaa
