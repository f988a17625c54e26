/- The document's le, get and CrownMay. -/
import Derived.Test.YthdmghocfngfgaaCmay
import Derived.Test.YthdmghocfngfgaaFixw2
import Derived.Test.YthdmghocfngfgaaCen
import Derived.Test.YthdmghocfngfgaaRlx
import Derived.BigQuiet
namespace Go.Proofs.Ythdmghocfngfgaa
open Go.RowKit Flt Go.BigFrame

set_option maxHeartbeats 2000000 in
theorem cget_any (A : Option Addr) (cap : Nat) (l : List Nat) (hl : ∀ x ∈ l, x < 256) (k : Nat) (hk : k + 3 < l.length) (hlen : l.length ≤ 1000000000) {w : World} {B : Nat} (hsl : Sl w B A (byts l)) (n : Nat) :
    Calls Try.prog 37 #[.slice A l.length cap, .int .i64 (k : Int)] (w.drewN n) fun e w' => e = .returned (.int .i64 ((g4 l k : Nat) : Int)) ∧ ∃ n', w' = w.drewN n' := by
  obtain ⟨b, o, rfl, c0⟩ := sl_cell hsl (k := k) (by omega)
  obtain ⟨b', o', e, c1⟩ := sl_cell hsl (k := k + 1) (by omega)
  obtain ⟨rfl, rfl⟩ : b' = b ∧ o' = o := by simpa using e.symm
  obtain ⟨b'', o'', e, c2⟩ := sl_cell hsl (k := k + 2) (by omega)
  obtain ⟨rfl, rfl⟩ : b'' = b' ∧ o'' = o' := by simpa using e.symm
  obtain ⟨b3, o3, e, c3⟩ := sl_cell hsl (k := k + 3) (by omega)
  obtain ⟨rfl, rfl⟩ : b3 = b'' ∧ o3 = o'' := by simpa using e.symm
  have h0 := getB_lt hl k
  have h1 := getB_lt hl (k + 1)
  have h2 := getB_lt hl (k + 2)
  have h3 := getB_lt hl (k + 3)
  unfold g4
  generalize l.getD k 0 = x0 at *
  generalize l.getD (k + 1) 0 = x1 at *
  generalize l.getD (k + 2) 0 = x2 at *
  generalize l.getD (k + 3) 0 = x3 at *
  generalize l.length = m at *
  clear hsl hl
  have o0 := or8 h0 h1
  have oo1 := or16 h0 h1 h2
  have oo2 := or24 h0 h1 h2 h3
  go_enter Try.func37, Try.ntmps37
  go_wp2_with fail
  go_quiet (fail)
  go_wp2_with fail
  go_ret
  exact ⟨by simp, n + nq, by simp [World.drewN, Nat.add_assoc]⟩
set_option maxHeartbeats 1000000 in
theorem cle_any (x : Nat) (hx : x < 4294967296) (w : World) : Calls Try.prog 28 #[.int .i64 (x : Int)] w (Built w 4 (le4 x)) := by
  go_enter Try.func28, Try.ntmps28
  go_wp2_with fail
  go_ret
  have h := World.ownsRow_lit (base := w.heap.size) (e := 5) (size := 1) w #[.int .u8 ((x : Int) % 256), .int .u8 ((x : Int) / 256 % 256), .int .u8 ((x : Int) / 65536 % 256), .int .u8 ((x : Int) / 16777216)] 4 (Nat.le_refl _) (by decide) rfl
  refine ⟨some ⟨w.heap.size, 0, none⟩, 4, rfl, ?_, (Below.refl _ _).alloc (Nat.le_refl _) _⟩
  have e : byts (le4 x) = (#[.int .u8 ((x : Int) % 256), .int .u8 ((x : Int) / 256 % 256), .int .u8 ((x : Int) / 65536 % 256), .int .u8 ((x : Int) / 16777216)] : Array Value).toList := by
    simp [byts, le4]
    omega
  rw [e]
  exact h
theorem rok_parts (x1 x2 x3 : Int) (x4 : Nat) (x5 x6 x7 x8 : Int) : Cn.okB ⟨x1, x2, x3, x4, x5, x6, x7, x8⟩ = (decide (1 ≤ x1) && (decide (x1 < 268435456) && (decide (64 ≤ x2) && (decide (x2 ≤ 8192) && (decide (1 ≤ x3) && (decide (x3 ≤ 512) && (fixedB x4 && (decide (0 ≤ x8) && (decide (x8 < 6) && (decide (0 ≤ x7) && (decide (x7 ≤ x1) && (decide (2 ≤ x5) && (decide (1 ≤ x6) && (decide (x6 ≤ 128) && (decide (x5 ≤ x2) && (decide (x6 ≤ x2 - x5))))))))))))))))) := by
  unfold Cn.okB
  rw [Bool.eq_iff_iff, decide_eq_true_eq]
  unfold Cn.Ok fixedB
  simp only [decide_eq_true_eq, Bool.and_eq_true]
  constructor
  · rintro ⟨a1, a2, a3, a4, a5, a6, a7, a8, a9, b1, b2, b3, b4, b5, b6⟩
    exact ⟨a1, by omega, a3, a4, a5, a6, a7, a8, by omega, b1, b2, b5, b3, b4, by omega, by omega⟩
  · rintro ⟨a1, a2, a3, a4, a5, a6, a7, a8, a9, b1, b2, b3, b4, b5, b6, b7⟩
    exact ⟨a1, by omega, a3, a4, a5, a6, a7, a8, by omega, b1, b2, b4, b5, b3, by omega⟩
theorem fixed_eq2 (x : Nat) : ((fixB x : Int) == (x : Int)) = fixedB x := by
  unfold fixedB
  rw [Bool.eq_iff_iff]
  simp only [beq_iff_eq, decide_eq_true_eq]
  omega
set_option maxRecDepth 4000 in
set_option maxHeartbeats 16000000 in
theorem rmayc_any (c : Cn.C) (w : World) : Calls Try.prog 15 #[crV c] w fun e w' => e = .returned (.bool (Cn.okB c)) ∧ Below w.heap.size w w' := by
  obtain ⟨x1, x2, x3, x4, x5, x6, x7, x8⟩ := c
  rw [rok_parts]
  simp only [crV]
  obtain ⟨W, hW⟩ : ∃ W, w.alloc (.cells #[.int .i64 x1, .int .i64 x2, .int .i64 x3, .float .f64 x4, .int .i64 x5, .int .i64 x6, .int .i64 x7, .int .i64 x8] 26) = W := ⟨_, rfl⟩
  have hb : Below w.heap.size w W := by rw [← hW]; exact (Below.refl _ _).alloc (Nat.le_refl _) _
  have hk : Blk W w.heap.size 26 #[.int .i64 x1, .int .i64 x2, .int .i64 x3, .float .f64 x4, .int .i64 x5, .int .i64 x6, .int .i64 x7, .int .i64 x8] := by rw [← hW]; exact Blk.new _ _ _
  have c0 : W.cell? ⟨w.heap.size, 0, none⟩ = some (.int .i64 x1) := hk.cell 0
  have c1 : W.cell? ⟨w.heap.size, 1, none⟩ = some (.int .i64 x2) := hk.cell 1
  have c2 : W.cell? ⟨w.heap.size, 2, none⟩ = some (.int .i64 x3) := hk.cell 2
  have c3 : W.cell? ⟨w.heap.size, 3, none⟩ = some (.float .f64 x4) := hk.cell 3
  have c4 : W.cell? ⟨w.heap.size, 4, none⟩ = some (.int .i64 x5) := hk.cell 4
  have c5 : W.cell? ⟨w.heap.size, 5, none⟩ = some (.int .i64 x6) := hk.cell 5
  have c6 : W.cell? ⟨w.heap.size, 6, none⟩ = some (.int .i64 x7) := hk.cell 6
  have c7 : W.cell? ⟨w.heap.size, 7, none⟩ = some (.int .i64 x8) := hk.cell 7
  have HB := Lib.hid hb
  have hbits := fun y V => run_bits y V
  have hfe := fixed_eq2 x4
  have ff : Hid (∀ k, Calls Try.prog 33 #[.float .f64 x4] (W.drewN k) fun e w' => e = .returned (.float .f64 (fixB x4)) ∧ ∃ m, w' = W.drewN m) := Lib.hid (fun k => by
    refine (rfix_any x4 (W.drewN k)).mono ?_
    rintro e w' ⟨rfl, rfl⟩
    exact ⟨rfl, k, rfl⟩)
  clear hb hk
  generalize fixB x4 = y4 at *
  go_enter Try.func15, Try.ntmps15
  go_wp2_with fail
  simp only [List.append_eq, List.cons_append, List.nil_append]
  refine wp_region_quiet_lit (by kernel_rfl) ((congrArg (Region.lexB .any) (by kernel_rfl)).trans may_lex) ?_
  cases q1 : decide (1 ≤ x1)
  · as_aux_lemma =>
    repeat (go_big_quiet_step ((first | (go_at_call 33; with_reducible exact ff.out _))))
    refine wpQuiet_nil ?_
    intro _ hw'
    obtain ⟨nq, hw''⟩ := hw'
    subst hw''
    go_wp2_with fail
    go_ret
    exact ⟨by rw [q1]; rfl, HB.out.trans ((drewN_below _).mono HB.out.size)⟩
  cases q2 : decide (x1 < 268435456)
  · as_aux_lemma =>
    repeat (go_big_quiet_step ((first | (go_at_call 33; with_reducible exact ff.out _))))
    refine wpQuiet_nil ?_
    intro _ hw'
    obtain ⟨nq, hw''⟩ := hw'
    subst hw''
    go_wp2_with fail
    go_ret
    exact ⟨by rw [q1, q2]; rfl, HB.out.trans ((drewN_below _).mono HB.out.size)⟩
  cases q3 : decide (64 ≤ x2)
  · as_aux_lemma =>
    repeat (go_big_quiet_step ((first | (go_at_call 33; with_reducible exact ff.out _))))
    refine wpQuiet_nil ?_
    intro _ hw'
    obtain ⟨nq, hw''⟩ := hw'
    subst hw''
    go_wp2_with fail
    go_ret
    exact ⟨by rw [q1, q2, q3]; rfl, HB.out.trans ((drewN_below _).mono HB.out.size)⟩
  cases q4 : decide (x2 ≤ 8192)
  · as_aux_lemma =>
    repeat (go_big_quiet_step ((first | (go_at_call 33; with_reducible exact ff.out _))))
    refine wpQuiet_nil ?_
    intro _ hw'
    obtain ⟨nq, hw''⟩ := hw'
    subst hw''
    go_wp2_with fail
    go_ret
    exact ⟨by rw [q1, q2, q3, q4]; rfl, HB.out.trans ((drewN_below _).mono HB.out.size)⟩
  cases q5 : decide (1 ≤ x3)
  · as_aux_lemma =>
    repeat (go_big_quiet_step ((first | (go_at_call 33; with_reducible exact ff.out _))))
    refine wpQuiet_nil ?_
    intro _ hw'
    obtain ⟨nq, hw''⟩ := hw'
    subst hw''
    go_wp2_with fail
    go_ret
    exact ⟨by rw [q1, q2, q3, q4, q5]; rfl, HB.out.trans ((drewN_below _).mono HB.out.size)⟩
  cases q6 : decide (x3 ≤ 512)
  · as_aux_lemma =>
    repeat (go_big_quiet_step ((first | (go_at_call 33; with_reducible exact ff.out _))))
    refine wpQuiet_nil ?_
    intro _ hw'
    obtain ⟨nq, hw''⟩ := hw'
    subst hw''
    go_wp2_with fail
    go_ret
    exact ⟨by rw [q1, q2, q3, q4, q5, q6]; rfl, HB.out.trans ((drewN_below _).mono HB.out.size)⟩
  cases q7 : fixedB x4
  · as_aux_lemma =>
    rw [q7] at hfe
    repeat (go_big_quiet_step ((first | (go_at_call 33; with_reducible exact ff.out _))))
    refine wpQuiet_nil ?_
    intro _ hw'
    obtain ⟨nq, hw''⟩ := hw'
    subst hw''
    go_wp2_with fail
    go_ret
    exact ⟨by rw [q1, q2, q3, q4, q5, q6, q7]; rfl, HB.out.trans ((drewN_below _).mono HB.out.size)⟩
  rw [q7] at hfe
  cases q8 : decide (0 ≤ x8)
  · as_aux_lemma =>
    repeat (go_big_quiet_step ((first | (go_at_call 33; with_reducible exact ff.out _))))
    refine wpQuiet_nil ?_
    intro _ hw'
    obtain ⟨nq, hw''⟩ := hw'
    subst hw''
    go_wp2_with fail
    go_ret
    exact ⟨by rw [q1, q2, q3, q4, q5, q6, q7, q8]; rfl, HB.out.trans ((drewN_below _).mono HB.out.size)⟩
  cases q9 : decide (x8 < 6)
  · as_aux_lemma =>
    repeat (go_big_quiet_step ((first | (go_at_call 33; with_reducible exact ff.out _))))
    refine wpQuiet_nil ?_
    intro _ hw'
    obtain ⟨nq, hw''⟩ := hw'
    subst hw''
    go_wp2_with fail
    go_ret
    exact ⟨by rw [q1, q2, q3, q4, q5, q6, q7, q8, q9]; rfl, HB.out.trans ((drewN_below _).mono HB.out.size)⟩
  cases q10 : decide (0 ≤ x7)
  · as_aux_lemma =>
    repeat (go_big_quiet_step ((first | (go_at_call 33; with_reducible exact ff.out _))))
    refine wpQuiet_nil ?_
    intro _ hw'
    obtain ⟨nq, hw''⟩ := hw'
    subst hw''
    go_wp2_with fail
    go_ret
    exact ⟨by rw [q1, q2, q3, q4, q5, q6, q7, q8, q9, q10]; rfl, HB.out.trans ((drewN_below _).mono HB.out.size)⟩
  cases q11 : decide (x7 ≤ x1)
  · as_aux_lemma =>
    repeat (go_big_quiet_step ((first | (go_at_call 33; with_reducible exact ff.out _))))
    refine wpQuiet_nil ?_
    intro _ hw'
    obtain ⟨nq, hw''⟩ := hw'
    subst hw''
    go_wp2_with fail
    go_ret
    exact ⟨by rw [q1, q2, q3, q4, q5, q6, q7, q8, q9, q10, q11]; rfl, HB.out.trans ((drewN_below _).mono HB.out.size)⟩
  cases q12 : decide (2 ≤ x5)
  · as_aux_lemma =>
    repeat (go_big_quiet_step ((first | (go_at_call 33; with_reducible exact ff.out _))))
    refine wpQuiet_nil ?_
    intro _ hw'
    obtain ⟨nq, hw''⟩ := hw'
    subst hw''
    go_wp2_with fail
    go_ret
    exact ⟨by rw [q1, q2, q3, q4, q5, q6, q7, q8, q9, q10, q11, q12]; rfl, HB.out.trans ((drewN_below _).mono HB.out.size)⟩
  cases q13 : decide (1 ≤ x6)
  · as_aux_lemma =>
    repeat (go_big_quiet_step ((first | (go_at_call 33; with_reducible exact ff.out _))))
    refine wpQuiet_nil ?_
    intro _ hw'
    obtain ⟨nq, hw''⟩ := hw'
    subst hw''
    go_wp2_with fail
    go_ret
    exact ⟨by rw [q1, q2, q3, q4, q5, q6, q7, q8, q9, q10, q11, q12, q13]; rfl, HB.out.trans ((drewN_below _).mono HB.out.size)⟩
  cases q14 : decide (x6 ≤ 128)
  · as_aux_lemma =>
    repeat (go_big_quiet_step ((first | (go_at_call 33; with_reducible exact ff.out _))))
    refine wpQuiet_nil ?_
    intro _ hw'
    obtain ⟨nq, hw''⟩ := hw'
    subst hw''
    go_wp2_with fail
    go_ret
    exact ⟨by rw [q1, q2, q3, q4, q5, q6, q7, q8, q9, q10, q11, q12, q13, q14]; rfl, HB.out.trans ((drewN_below _).mono HB.out.size)⟩
  cases q15 : decide (x5 ≤ x2)
  · as_aux_lemma =>
    repeat (go_big_quiet_step ((first | (go_at_call 33; with_reducible exact ff.out _))))
    refine wpQuiet_nil ?_
    intro _ hw'
    obtain ⟨nq, hw''⟩ := hw'
    subst hw''
    go_wp2_with fail
    go_ret
    exact ⟨by rw [q1, q2, q3, q4, q5, q6, q7, q8, q9, q10, q11, q12, q13, q14, q15]; rfl, HB.out.trans ((drewN_below _).mono HB.out.size)⟩
  have hr : 64 ≤ x2 ∧ x2 ≤ 8192 ∧ 2 ≤ x5 ∧ x5 ≤ x2 := by
    simp only [decide_eq_true_eq] at q3 q4 q12 q15
    exact ⟨q3, q4, q12, q15⟩
  have hw : IntKind.i64.wrap (x2 - x5) = x2 - x5 := IntWalk.i64_in _ (by omega)
  cases q16 : decide (x6 ≤ x2 - x5)
  · as_aux_lemma =>
    repeat (go_big_quiet_step ((first | (go_at_call 33; with_reducible exact ff.out _))))
    refine wpQuiet_nil ?_
    intro _ hw'
    obtain ⟨nq, hw''⟩ := hw'
    subst hw''
    go_wp2_with fail
    go_ret
    exact ⟨by rw [q1, q2, q3, q4, q5, q6, q7, q8, q9, q10, q11, q12, q13, q14, q15, q16]; rfl, HB.out.trans ((drewN_below _).mono HB.out.size)⟩
  as_aux_lemma =>
    repeat (go_big_quiet_step ((first | (go_at_call 33; with_reducible exact ff.out _))))
    refine wpQuiet_nil ?_
    intro _ hw'
    obtain ⟨nq, hw''⟩ := hw'
    subst hw''
    go_wp2_with fail
    go_ret
    exact ⟨by rw [q1, q2, q3, q4, q5, q6, q7, q8, q9, q10, q11, q12, q13, q14, q15, q16]; rfl, HB.out.trans ((drewN_below _).mono HB.out.size)⟩
end Go.Proofs.Ythdmghocfngfgaa
