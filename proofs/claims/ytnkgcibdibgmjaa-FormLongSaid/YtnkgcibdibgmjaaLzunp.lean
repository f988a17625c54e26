/- The program's Unpack says what the block says; Most. -/
import Derived.Test.YtnkgcibdibgmjaaLzdec
import Derived.Test.YtnkgcibdibgmjaaLzc
import Derived.Defers
import Derived.LaidEql
namespace Go.Proofs.Ytnkgcibdibgmjaa
open Go.RowKit

theorem run_eql_two (w : World) : (binOp .eql 20 (.iface 34 (.int .i64 2)) (.iface 34 (.int .i64 2))).run Try.prog w = .ok (.bool true) w := by
  have u1 := Try.underlying20
  have u2 := Try.underlying34
  simp only [binOp, Op.equal, Op.maxDepth]
  rw [show (10000 : Nat) = 9998 + 1 + 1 from rfl, Op.equalIn]
  simp only [Sem.run_bind, run_underlying u1, Result.andThen_ok]
  go_simp
  intro h
  have hc : Try.t34.comparable = true := by kernel_rfl
  rw [hc] at h
  cases h
set_option maxRecDepth 20000 in
theorem run_eql_two_nil (w : World) : (binOp .eql 20 (.iface 34 (.int .i64 2)) .nilIface).run Try.prog w = .ok (.bool false) w :=
  run_eql_iface_nil_left w 34 (.int .i64 2) Try.underlying20
theorem run_eql_nils (w : World) : (binOp .eql 20 .nilIface .nilIface).run Try.prog w = .ok (.bool true) w := by kernel_rfl

theorem ucatch_idle (p q : Addr) (w : World) :
    CallsD Try.prog 48 #[.pointer (some p), .pointer (some q)] .returning w fun e u' w' => e = .returned (.tuple #[]) ∧ u' = .returning ∧ w' = w := by
  have e0 := run_eql_nils
  refine callsD_of_wpS Try.func48 rfl fun c₀ cs hu => ?_
  simp only [Try.ntmps48, List.size_toArray, List.length_cons, List.length_nil, Nat.reduceAdd, Nat.reduceSub, Array.replicate_succ, Array.replicate_zero, List.push_toArray, List.append_toArray, List.nil_append, List.cons_append]
  apply wpS_seq
  apply wpS_region
  simp [wpOpsS, go_sem, recoverD, hu, Exit.thenS]
  refine wpS_of_wp ?_
  go_wp2_with fail
  cases c₀
  simp_all [bodyPostS, results, Try.results48]
theorem ucatch_err (G E : Nat) (x y : Value) (older : List PanicEntry) (w : World) (hG : w.cell? ⟨G, 0, none⟩ = some x) (hz : w.frozen? ⟨G, 0, none⟩ = false) (hE : w.cell? ⟨E, 0, none⟩ = some y) (hz2 : w.frozen? ⟨E, 0, none⟩ = false) (hne : G ≠ E) :
    CallsD Try.prog 48 #[.pointer (some ⟨G, 0, none⟩), .pointer (some ⟨E, 0, none⟩)] (.panicking ({ v := .iface 34 (.int .i64 2), recovered := false } :: older)) w fun e u' w' =>
      e = .returned (.tuple #[]) ∧ u' = .panicking ({ v := .iface 34 (.int .i64 2), recovered := true } :: older) ∧ w' = (w.setCell ⟨G, 0, none⟩ (.slice none 0 0)).setCell ⟨E, 0, none⟩ (.int .i64 2) := by
  have e1 := run_eql_two
  have e2 := run_eql_two_nil
  have hE' : (w.setCell ⟨G, 0, none⟩ (.slice none 0 0)).cell? ⟨E, 0, none⟩ = some y := (World.cell?_of_block (Below.heap_setCell w ⟨G, 0, none⟩ _ E (Ne.symm hne))).trans hE
  refine callsD_of_wpS Try.func48 rfl fun c₀ cs hu => ?_
  simp only [Try.ntmps48, List.size_toArray, List.length_cons, List.length_nil, Nat.reduceAdd, Nat.reduceSub, Array.replicate_succ, Array.replicate_zero, List.push_toArray, List.append_toArray, List.nil_append, List.cons_append]
  apply wpS_seq
  apply wpS_region
  simp [wpOpsS, go_sem, recoverD, hu, Exit.thenS]
  refine wpS_of_wp ?_
  go_wp2_with fail
  cases c₀
  simp_all [bodyPostS, results, Try.results48]

theorem cell_at {w : World} {g : Nat} {t : TypeId} {v : Value} (h : Blk w g t #[v]) : w.cell? ⟨g, 0, none⟩ = some v := h.cell 0
/-- Two new cells: Unpack's answer. -/
abbrev U2 (w : World) : World := (w.alloc (.cells #[.slice none 0 0] 22)).alloc (.cells #[.int .i64 0] 34)
theorem U2_size (w : World) : (U2 w).heap.size = w.heap.size + 2 := by simp [U2]
theorem U2_below (w : World) : Below w.heap.size w (U2 w) := ((Below.refl _ _).alloc (Nat.le_refl _) _).alloc (by simp) _

set_option maxHeartbeats 2000000 in
theorem unpack_is : UnpackC := by
  intro w A c l n N hby hlen hN
  have hmf : ∀ (fn : Fn) (first cap : Array Value) (w : World), (Instr.makeFunc fn first cap).run Try.prog w = .ok (.func fn first cap) w := fun _ _ _ _ => rfl
  have b0 : Blk (U2 w) w.heap.size 22 #[.slice none 0 0] := (Blk.new w _ _).alloc _
  have b1 : Blk (U2 w) (w.heap.size + 1) 34 #[.int .i64 0] := by
    have := Blk.new (w.alloc (.cells #[.slice none 0 0] 22)) 34 #[.int .i64 0]
    simpa using this
  have g0 := b0.cell 0
  have f0 := b0.frozen 0
  have g1 := b1.cell 0
  have f1 := b1.frozen 0
  simp only [List.getElem?_toArray, List.getElem?_cons_zero] at g0 g1
  by_cases hout : n < 0 ∨ 4096 < n
  · have hr : Lz.unpack l n = ([], 1) := by unfold Lz.unpack; rw [if_pos hout]
    rw [hr]
    have r0 : ((w.alloc (.cells #[.slice none 0 0] 22)).alloc (.cells #[.int .i64 1] 34)).cell? ⟨w.heap.size, 0, none⟩ = some (.slice none 0 0) := ((Blk.new w 22 #[.slice none 0 0]).alloc _).cell 0
    have r1 : ((w.alloc (.cells #[.slice none 0 0] 22)).alloc (.cells #[.int .i64 1] 34)).cell? ⟨w.heap.size + 1, 0, none⟩ = some (.int .i64 1) := by
      simp
    have Done := Lib.hid (show UnpR ([], 1) w (.returned (.tuple #[.slice none 0 0, .int .i64 1])) ((w.alloc (.cells #[.slice none 0 0] 22)).alloc (.cells #[.int .i64 1] 34)) from ⟨none, 0, rfl, By.none _, ((Below.refl _ _).alloc (Nat.le_refl _) _).alloc (by simp) _⟩)
    rcases hout with h | h
    · have q1 : decide (n < 0) = true := by simpa using h
      clear h
      go_enter_defers Try.func31, Try.ntmps31
      go_wp2_with fail
      exact ⟨.tuple #[.slice none 0 0, .int .i64 1], by simp [results, Try.results31, go_sem, r0, r1], Done.out⟩
    · have q1 : decide (n < 0) = false := by rw [decide_eq_false_iff_not]; omega
      have q2 : decide (4096 < n) = true := by simpa using h
      clear h
      go_enter_defers Try.func31, Try.ntmps31
      go_wp2_with fail
      exact ⟨.tuple #[.slice none 0 0, .int .i64 1], by simp [results, Try.results31, go_sem, r0, r1], Done.out⟩
  · have q1 : decide (n < 0) = false := by rw [decide_eq_false_iff_not]; omega
    have q2 : decide (4096 < n) = false := by rw [decide_eq_false_iff_not]; omega
    obtain ⟨m, rfl⟩ : ∃ m : Nat, n = (m : Int) := ⟨n.toNat, by omega⟩
    have hr : Lz.unpack l (m : Int) = Lz.unp m l.length l [] := by unfold Lz.unpack; rw [if_neg hout, Int.toNat_natCast]
    have q2' : decide (4096 < m) = false := by rw [decide_eq_false_iff_not]; omega
    obtain ⟨w3, h3⟩ : ∃ x, x = (U2 w).alloc (.cells #[.slice A N c] 88) := ⟨_, rfl⟩
    have e3 : ((w.alloc (.cells #[.slice none 0 0] 22)).alloc (.cells #[.int .i64 0] 34)).alloc (.cells #[.slice A N c] 88) = w3 := h3.symm
    have hz3 : w3.heap.size = w.heap.size + 3 := by rw [h3]; simp
    have hb3 : Below w.heap.size w w3 := by rw [h3]; exact (U2_below w).alloc (by rw [U2_size]; omega) _
    have hsrc : Src w3 w.heap.size (w.heap.size + 2) l := by
      refine ⟨by omega, hby.lt, hlen, A, c, ?_, hby.cap, hby.nil, hby.sl.below hb3⟩
      rw [h3, ← hN, ← U2_size w]; exact Blk.new _ _ _
    have B3 : Blk w3 w.heap.size 22 #[.slice none 0 0] := by rw [h3]; exact b0.alloc _
    have C3 : Blk w3 (w.heap.size + 1) 34 #[.int .i64 0] := by rw [h3]; exact b1.alloc _
    have N3 := Lib.hid (decode_any hsrc (by omega) m (by omega))
    have HB := Lib.hid hb3
    have HB3 := Lib.hid B3
    have HC3 := Lib.hid C3
    have hsz : (U2 w).heap.size = w.heap.size + 2 := U2_size w
    rw [hr]
    have HN := Lib.hid hN
    clear hN h3 hb3 hsrc B3 C3 b0 b1 g0 g1 f0 f1 hby hout hr
    generalize Lz.unp m l.length l [] = R at *
    go_enter_defers Try.func31, Try.ntmps31
    go_wp2_with fail
    refine N3.out.mono ?_
    rintro e w4 ⟨hc4, ⟨A4, c4, rfl, ho4, hlt4, hle4⟩ | ⟨rfl, hr⟩⟩
    · have HB4 := HB3.out.keep (hc4.block _ HB3.out.lt (by omega))
      have HC4 := HC3.out.keep (hc4.block _ HC3.out.lt (by omega))
      have g0 := cell_at HB4
      have f0 := HB4.frozen 0
      have g1 := cell_at HC4
      have f1 := HC4.frozen 0
      have g1' : ∀ v, (w4.setCell ⟨w.heap.size, 0, none⟩ v).cell? ⟨w.heap.size + 1, 0, none⟩ = some (.int .i64 0) := fun v => (HC4.far (p := ⟨w.heap.size, 0, none⟩) (by simp) v).cell 0
      have s0 := ((HB4.set_ 0 (.slice A4 R.1.length c4)).far (p := ⟨w.heap.size + 1, 0, none⟩) (by simp) (.int .i64 (R.2 : Int))).cell 0
      have s1 := ((HC4.far (p := ⟨w.heap.size, 0, none⟩) (by simp) (.slice A4 R.1.length c4)).set_ 0 (.int .i64 (R.2 : Int))).cell 0
      simp at s0 s1
      have hbel := ((HB.out.trans (Chg.below hc4 (by omega) (fun i hi => by omega))).setCell (p := ⟨w.heap.size, 0, none⟩) (Nat.le_refl _) (.slice A4 R.1.length c4)).setCell (p := ⟨w.heap.size + 1, 0, none⟩) (by simp) (.int .i64 (R.2 : Int))
      have hch := ((Chg.refl (fun b => b = w.heap.size ∨ b = w.heap.size + 1) w4).setCell (p := ⟨w.heap.size, 0, none⟩) (.inl (.inl rfl)) (.slice A4 R.1.length c4)).setCell (p := ⟨w.heap.size + 1, 0, none⟩) (.inl (.inr rfl)) (.int .i64 (R.2 : Int))
      have hby4 := By.of_own (own_keep ho4 fun b hb hlt => hch.block b hlt (by have := (ho4.lt b hb).1; omega)) hlt4 hle4
      have Hfin := Lib.hid (show UnpR R w (.returned (.tuple #[.slice A4 R.1.length c4, .int .i64 (R.2 : Int)])) _ from ⟨A4, c4, rfl, hby4, hbel⟩)
      clear hbel hch hby4 ho4 hlt4 hle4 HB4 HC4 hc4 HB HB3 HC3 N3
      go_wp2_with fail
      refine leaves_cons (f := 48) (args := #[.pointer (some ⟨w.heap.size, 0, none⟩), .pointer (some ⟨w.heap.size + 1, 0, none⟩)]) (by simp) (by simp [go_sem]) ?_
      refine (ucatch_idle _ _ _).mono ?_
      rintro e u' w'' ⟨rfl, rfl, rfl⟩
      simp [Leaves, settle, results, Try.results31, go_sem, s0, s1]
      exact Hfin.out
    · have HB4 := HB3.out.keep (hc4.block _ HB3.out.lt (by omega))
      have HC4 := HC3.out.keep (hc4.block _ HC3.out.lt (by omega))
      have s0 := ((HB4.set_ 0 (.slice none 0 0)).far (p := ⟨w.heap.size + 1, 0, none⟩) (by simp) (.int .i64 2)).cell 0
      have s1 := ((HC4.far (p := ⟨w.heap.size, 0, none⟩) (by simp) (.slice none 0 0)).set_ 0 (.int .i64 2)).cell 0
      simp at s0 s1
      have hbel := ((HB.out.trans (Chg.below hc4 (by omega) (fun i hi => by omega))).setCell (p := ⟨w.heap.size, 0, none⟩) (Nat.le_refl _) (.slice none 0 0)).setCell (p := ⟨w.heap.size + 1, 0, none⟩) (by simp) (.int .i64 2)
      have Hfin := Lib.hid (show UnpR R w (.returned (.tuple #[.slice none 0 0, .int .i64 2])) _ from by subst hr; exact ⟨none, 0, rfl, By.none _, hbel⟩)
      have Hcat := Lib.hid (ucatch_err w.heap.size (w.heap.size + 1) _ _ [] w4 (cell_at HB4) (HB4.frozen 0) (cell_at HC4) (HC4.frozen 0) (by omega))
      clear hbel HB4 HC4 hc4 HB HB3 HC3 N3 hr
      go_wp2_with fail
      refine leaves_cons (f := 48) (args := #[.pointer (some ⟨w.heap.size, 0, none⟩), .pointer (some ⟨w.heap.size + 1, 0, none⟩)]) (by simp) (by simp [go_sem]) ?_
      refine Hcat.out.mono ?_
      rintro e u' w'' ⟨rfl, rfl, rfl⟩
      simp [Leaves, settle, results, Try.results31, go_sem, s0, s1]
      exact Hfin.out

set_option maxHeartbeats 1000000 in
theorem most_is : MostC := by
  intro n z w hn hz
  subst hz
  have q1 : decide ((n : Int) < 0) = false := by rw [decide_eq_false_iff_not]; omega
  have q2 : decide (4096 < (n : Int)) = false := by rw [decide_eq_false_iff_not]; omega
  have q2' : decide (4096 < n) = false := by rw [decide_eq_false_iff_not]; omega
  go_enter Try.func20, Try.ntmps20
  go_wp2_with fail
  go_ret
  exact ⟨by simp, rfl⟩
end Go.Proofs.Ytnkgcibdibgmjaa
