/- The program's platter: an operation, whose planned fault panics and is recovered where it ends. -/
import Derived.Test.YtdengokonaljpaaDbegin
import Derived.Defers
namespace Go.Proofs.Ytdengokonaljpaa
open Go.RowKit Go.Maps

abbrev theFault : Value := .iface 97 (.agg #[])

theorem isFault_nil (w : World) : Calls Try.prog 47 #[.nilIface] w fun e w' => e = .returned (.bool false) ∧ w' = w := by
  go_enter Try.func47, Try.ntmps47
  go_wp2_with fail
  go_ret
  exact ⟨rfl, rfl⟩
theorem isFault_yes (w : World) : Calls Try.prog 47 #[theFault] w fun e w' => e = .returned (.bool true) ∧ w' = w.alloc (.cells #[] 97) := by
  have ht : ∀ w, (Instr.typeAssert (.iface 97 (.agg #[])) 20 97 true).run Try.prog w = .ok (.tuple #[.agg #[], .bool true]) w := fun w => by kernel_rfl
  go_enter Try.func47, Try.ntmps47
  go_wp2_with fail
  go_ret
  exact ⟨rfl, rfl⟩

theorem catch_idle (p : Addr) (w : World) :
    CallsD Try.prog 46 #[.pointer (some p)] .returning w fun e u' w' => e = .returned (.tuple #[]) ∧ u' = .returning ∧ w' = w := by
  refine callsD_of_wpS Try.func46 rfl fun c₀ cs hu => ?_
  apply wpS_seq
  apply wpS_region
  simp [wpOpsS, go_sem, recoverD, hu, Try.ntmps46, Exit.thenS]
  refine (isFault_nil w).mono ?_
  rintro e w' ⟨rfl, rfl⟩
  refine wpS_cond (t := false) (by simp [Act.eval, Array.replicate]) ?_
  simp only [Bool.false_eq_true, if_false]
  refine wpS_of_wp (wp_skip ?_)
  cases c₀
  simp_all [bodyPostS, results, Try.results46]
theorem catch_fault (b : Nat) (x : Value) (older : List PanicEntry) (w : World) (hc : w.cell? ⟨b, 0, none⟩ = some x) (hz : w.frozen? ⟨b, 0, none⟩ = false) :
    CallsD Try.prog 46 #[.pointer (some ⟨b, 0, none⟩)] (.panicking ({ v := theFault, recovered := false } :: older)) w fun e u' w' =>
      e = .returned (.tuple #[]) ∧ u' = .panicking ({ v := theFault, recovered := true } :: older) ∧ w' = (w.alloc (.cells #[] 97)).setCell ⟨b, 0, none⟩ (.int .i64 6) := by
  have hc' : (w.alloc (.cells #[] 97)).cell? ⟨b, 0, none⟩ = some x := by rw [World.cell?_alloc_lt _ _ _ (World.block_lt_of_cell? _ _ hc)]; exact hc
  have hz' : (w.alloc (.cells #[] 97)).frozen? ⟨b, 0, none⟩ = false := by
    rw [World.frozen?_alloc_past _ _ _ (World.block_lt_of_cell? _ _ hc)]; exact hz
  refine callsD_of_wpS Try.func46 rfl fun c₀ cs hu => ?_
  apply wpS_seq
  apply wpS_region
  simp [wpOpsS, go_sem, recoverD, hu, Try.ntmps46, Exit.thenS]
  refine (isFault_yes w).mono ?_
  rintro e w' ⟨rfl, rfl⟩
  refine wpS_cond (t := true) (by simp [Act.eval, Array.replicate]) ?_
  simp only [if_true]
  apply wpS_region
  simp [wpOpsS, go_sem, hc', hz', bodyPostS, results, Try.results46]

theorem operate_ok (g : Nat) (k : Int) (fn : Nat) (cap : Array Value) (w : World) (hen : ∀ w, (callFunc fn cap).run Try.prog w = .ok (.enter fn cap) w) (Rb : World → Prop) (Rd : Int → World → Prop)
    (hb : Calls Try.prog 48 #[.pointer (some ⟨g, 0, none⟩), .int .i64 k] (w.alloc (.cells #[.int .i64 0] 25)) fun e w1 => e = .returned (.tuple #[]) ∧ Rb w1)
    (hd : ∀ w1, Rb w1 → Calls Try.prog fn cap w1 fun e w2 => ∃ c, e = .returned (.int .i64 c) ∧ Rd c w2)
    (hcell : ∀ c w2, Rd c w2 → ∃ x, w2.cell? ⟨w.heap.size, 0, none⟩ = some x ∧ w2.frozen? ⟨w.heap.size, 0, none⟩ = false) :
    Calls Try.prog 38 #[.pointer (some ⟨g, 0, none⟩), .int .i64 k, .func (.func fn) #[] cap] w fun e w' => ∃ c w2, e = .returned (.int .i64 c) ∧ Rd c w2 ∧ w' = w2.setCell ⟨w.heap.size, 0, none⟩ (.int .i64 c) := by
  have hmf : ∀ (fn : Fn) (first cap : Array Value) (w : World), (Instr.makeFunc fn first cap).run Try.prog w = .ok (.func fn first cap) w := fun _ _ _ _ => rfl
  go_enter_defers Try.func38, Try.ntmps38
  go_wp2_with (go_at_call 48; refine hb.mono ?_; rintro e w1 ⟨rfl, hr1⟩)
  refine (hd w1 hr1).mono ?_
  rintro e w2 ⟨c, rfl, hr2⟩
  obtain ⟨x, hx, hf⟩ := hcell c w2 hr2
  go_wp2_with fail
  refine leaves_cons (f := 46) (args := #[.pointer (some ⟨w.heap.size, 0, none⟩)]) (by simp) (by simp [go_sem]) ?_
  refine (catch_idle ⟨w.heap.size, 0, none⟩ _).mono ?_
  rintro e u' w'' ⟨rfl, rfl, rfl⟩
  have hs := World.cell?_setCell_same w2 ⟨w.heap.size, 0, none⟩ (.int .i64 c) hx
  simp [Leaves, settle, results, Try.results38, go_sem, hs]
  exact ⟨w2, hr2, rfl⟩

theorem operate_hit (g : Nat) (k : Int) (fn : Nat) (cap : Array Value) (w : World) (Rb : World → Prop)
    (hb : Calls Try.prog 48 #[.pointer (some ⟨g, 0, none⟩), .int .i64 k] (w.alloc (.cells #[.int .i64 0] 25)) fun e w1 => e = .panicked [{ v := theFault, recovered := false }] ∧ Rb w1)
    (hcell : ∀ w2, Rb w2 → ∃ x, w2.cell? ⟨w.heap.size, 0, none⟩ = some x ∧ w2.frozen? ⟨w.heap.size, 0, none⟩ = false) :
    Calls Try.prog 38 #[.pointer (some ⟨g, 0, none⟩), .int .i64 k, .func (.func fn) #[] cap] w fun e w' => ∃ w2, e = .returned (.int .i64 6) ∧ Rb w2 ∧ w' = (w2.alloc (.cells #[] 97)).setCell ⟨w.heap.size, 0, none⟩ (.int .i64 6) := by
  have hmf : ∀ (fn : Fn) (first cap : Array Value) (w : World), (Instr.makeFunc fn first cap).run Try.prog w = .ok (.func fn first cap) w := fun _ _ _ _ => rfl
  go_enter_defers Try.func38, Try.ntmps38
  go_wp2_with (go_at_call 48; refine hb.mono ?_; rintro e w1 ⟨rfl, hr1⟩)
  obtain ⟨x, hx, hf⟩ := hcell w1 hr1
  refine leaves_cons (f := 46) (args := #[.pointer (some ⟨w.heap.size, 0, none⟩)]) (by simp) (by simp [go_sem]) ?_
  refine (catch_fault w.heap.size x [] _ hx hf).mono ?_
  rintro e u' w'' ⟨rfl, rfl, rfl⟩
  have hx' : (w1.alloc (.cells #[] 97)).cell? ⟨w.heap.size, 0, none⟩ = some x := by rw [World.cell?_alloc_lt _ _ _ (World.block_lt_of_cell? _ _ hx)]; exact hx
  have hs := World.cell?_setCell_same (w1.alloc (.cells #[] 97)) ⟨w.heap.size, 0, none⟩ (.int .i64 6) hx'
  simp [Leaves, settle, results, Try.results38, go_sem, hs]
  exact ⟨w1, hr1, rfl⟩

end Go.Proofs.Ytdengokonaljpaa
