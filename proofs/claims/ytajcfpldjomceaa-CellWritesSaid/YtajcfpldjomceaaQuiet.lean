/- The statements' own quiet: does a function not panic? -/
import Derived.Test.YtajcfpldjomceaaRead
namespace Go.Proofs.Ytajcfpldjomceaa
open Go.RowKit Vint

theorem run_eql_nil_nil (w : World) : (binOp .eql 20 .nilIface .nilIface).run Try.prog w = .ok (.bool true) w := by kernel_rfl
theorem quiet_no (o : Nat) (x : Value) (w : World) (hc : w.cell? ⟨o, 0, none⟩ = some x) (hz : w.frozen? ⟨o, 0, none⟩ = false) :
    CallsD Try.prog 35 #[.pointer (some ⟨o, 0, none⟩)] .returning w fun e u' w' =>
      e = .returned (.tuple #[]) ∧ u' = .returning ∧ w' = w.setCell ⟨o, 0, none⟩ (.bool true) := by
  have e1 := run_eql_nil_nil
  refine callsD_of_wpS Try.func35 rfl fun c₀ cs hu => ?_
  apply wpS_region
  cases c₀
  simp_all [wpOpsS, go_sem, recoverD, Try.ntmps35, bodyPostS, results, Try.results35]
theorem quiet_yes (o : Nat) (k : Int) (x : Value) (w : World) (hc : w.cell? ⟨o, 0, none⟩ = some x) (hz : w.frozen? ⟨o, 0, none⟩ = false) :
    CallsD Try.prog 35 #[.pointer (some ⟨o, 0, none⟩)] (.panicking [{ v := errV k, recovered := false }]) w fun e u' w' =>
      e = .returned (.tuple #[]) ∧ u' = .panicking [{ v := errV k, recovered := true }] ∧ w' = w.setCell ⟨o, 0, none⟩ (.bool false) := by
  have e1 := run_eql_err_nil k
  refine callsD_of_wpS Try.func35 rfl fun c₀ cs hu => ?_
  apply wpS_region
  simp [wpOpsS, go_sem, recoverD, hu, hc, hz, e1, Try.ntmps35, bodyPostS, results, Try.results35]

/-- The world in which the function is called: with the answer's cell. -/
abbrev Wq (w : World) : World := w.alloc (.cells #[.bool false] 4)
set_option maxHeartbeats 1000000 in
theorem quiet_ret (w : World) (fn : Nat) (cp : Array Value) (hen : ∀ w, (callFunc fn cp).run Try.prog w = .ok (.enter fn cp) w) (Q : World → Prop)
    (hf : Calls Try.prog fn cp (Wq w) fun e w2 => e = .returned (.tuple #[]) ∧ Q w2) (hq : ∀ w2, Q w2 → Blk w2 w.heap.size 4 #[.bool false]) :
    Calls Try.prog 12 #[.func (.func fn) #[] cp] w fun e w' => e = .returned (.bool true) ∧ ∃ w2, Q w2 ∧ w' = (w2.setCell ⟨w.heap.size, 0, none⟩ (.bool true)).setCell ⟨w.heap.size, 0, none⟩ (.bool true) := by
  have hmf : ∀ (fn : Fn) (first cap : Array Value) (w : World), (Instr.makeFunc fn first cap).run Try.prog w = .ok (.func fn first cap) w := fun _ _ _ _ => rfl
  have Hf := Lib.hid hf
  clear hf
  go_enter_defers Try.func12, Try.ntmps12
  go_wp2_with fail
  refine Hf.out.mono ?_
  rintro e w2 ⟨rfl, hq2⟩
  have hb := hq w2 hq2
  have c0 := cell_at hb
  have f0 := hb.frozen 0
  have hb1 : Blk (w2.setCell ⟨w.heap.size, 0, none⟩ (.bool true)) w.heap.size 4 #[.bool true] := by simpa using hb.set_ 0 (.bool true)
  have Hq := Lib.hid hq2
  have Hb1 := Lib.hid hb1
  clear hb hb1 hq2
  go_wp2_with fail
  refine leaves_cons (f := 35) (args := #[.pointer (some ⟨w.heap.size, 0, none⟩)]) (by simp) (by simp [go_sem]) ?_
  refine (quiet_no _ _ _ (cell_at Hb1.out) (Hb1.out.frozen 0)).mono ?_
  rintro e u' w'' ⟨rfl, rfl, rfl⟩
  have hs : ((w2.setCell ⟨w.heap.size, 0, none⟩ (.bool true)).setCell ⟨w.heap.size, 0, none⟩ (.bool true)).cell? ⟨w.heap.size, 0, none⟩ = some (.bool true) := by simpa using (Hb1.out.set_ 0 (.bool true)).cell 0
  simp [Leaves, settle, results, Try.results12, go_sem, hs]
  exact ⟨w2, Hq.out, rfl⟩
set_option maxHeartbeats 1000000 in
theorem quiet_pan (w : World) (k : Int) (fn : Nat) (cp : Array Value) (hen : ∀ w, (callFunc fn cp).run Try.prog w = .ok (.enter fn cp) w) (Q : World → Prop)
    (hf : Calls Try.prog fn cp (Wq w) fun e w2 => e = .panicked [{ v := errV k, recovered := false }] ∧ Q w2) (hq : ∀ w2, Q w2 → Blk w2 w.heap.size 4 #[.bool false]) :
    Calls Try.prog 12 #[.func (.func fn) #[] cp] w fun e w' => e = .returned (.bool false) ∧ ∃ w2, Q w2 ∧ w' = w2.setCell ⟨w.heap.size, 0, none⟩ (.bool false) := by
  have hmf : ∀ (fn : Fn) (first cap : Array Value) (w : World), (Instr.makeFunc fn first cap).run Try.prog w = .ok (.func fn first cap) w := fun _ _ _ _ => rfl
  have Hf := Lib.hid hf
  clear hf
  go_enter_defers Try.func12, Try.ntmps12
  go_wp2_with fail
  refine Hf.out.mono ?_
  rintro e w2 ⟨rfl, hq2⟩
  have hb := hq w2 hq2
  have Hq := Lib.hid hq2
  have Hb := Lib.hid hb
  clear hb hq2
  go_wp2_with fail
  refine leaves_cons (f := 35) (args := #[.pointer (some ⟨w.heap.size, 0, none⟩)]) (by simp) (by simp [go_sem]) ?_
  refine (quiet_yes _ k _ _ (cell_at Hb.out) (Hb.out.frozen 0)).mono ?_
  rintro e u' w'' ⟨rfl, rfl, rfl⟩
  have hs : (w2.setCell ⟨w.heap.size, 0, none⟩ (.bool false)).cell? ⟨w.heap.size, 0, none⟩ = some (.bool false) := by simpa using (Hb.out.set_ 0 (.bool false)).cell 0
  simp [Leaves, settle, results, Try.results12, go_sem, hs]
  exact ⟨w2, Hq.out, rfl⟩
end Go.Proofs.Ytajcfpldjomceaa
