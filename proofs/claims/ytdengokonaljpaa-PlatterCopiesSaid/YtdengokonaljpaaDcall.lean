/- The program's platter: an operation as a whole, its own work given. -/
import Derived.Test.YtdengokonaljpaaDnew
namespace Go.Proofs.Ytdengokonaljpaa
open Go.RowKit Go.Maps

/-- The world in which an operation begins: with the cell of its result. -/
def opW (w : World) : World := w.alloc (.cells #[.int .i64 0] 25)
theorem opW_size (w : World) : (opW w).heap.size = w.heap.size + 1 := by simp [opW]
theorem dev_ok {w : World} {F G : Nat → Prop} {g : Nat} {st st1 st2 : PSt} (h : Dev w F g st) (hFG : ∀ i, F i → G i) (hG : ∀ i, G i → i < w.heap.size) (k code : Int)
    (hb : ∀ w, Dev w F g st → Calls Try.prog 48 #[.pointer (some ⟨g, 0, none⟩), .int .i64 k] w fun e w' => e = .returned (.tuple #[]) ∧ Dev w' F g st1 ∧ Chg F w w')
    (fn : Nat) (cap : Array Value) (hen : ∀ w, (callFunc fn cap).run Try.prog w = .ok (.enter fn cap) w) (X : World → Prop)
    (hd : ∀ w1, Dev w1 F g st1 → Chg F (opW w) w1 → Calls Try.prog fn cap w1 fun e w2 => e = .returned (.int .i64 code) ∧ Dev w2 (Ext F w1 w2) g st2 ∧ Chg G w1 w2 ∧ X w2)
    (hX : ∀ w2 v, w.heap.size < w2.heap.size → X w2 → X (w2.setCell ⟨w.heap.size, 0, none⟩ v)) :
    Calls Try.prog 38 #[.pointer (some ⟨g, 0, none⟩), .int .i64 k, .func (.func fn) #[] cap] w fun e w' => e = .returned (.int .i64 code) ∧ Dev w' (Ext F w w') g st2 ∧ Chg G w w' ∧ X w' := by
  have hd0 : Dev (opW w) F g st := h.keep (by rw [opW_size]; omega) (fun b hb => Below.heap_alloc _ _ _ (h.lt b hb))
  have hcc : ∀ w2, Chg G (opW w) w2 → ∃ x, w2.cell? ⟨w.heap.size, 0, none⟩ = some x ∧ w2.frozen? ⟨w.heap.size, 0, none⟩ = false := fun w2 hc => by
    have hkeep := hc.block w.heap.size (by rw [opW_size]; omega) (fun e => Nat.lt_irrefl _ (hG _ e))
    have hblk : Blk (opW w) w.heap.size 25 #[.int .i64 0] := Blk.new w _ _
    have hblk2 := hblk.keep hkeep
    exact ⟨.int .i64 0, hblk2.cell 0, hblk2.frozen 0⟩
  refine (operate_ok g k fn cap w hen (fun w1 => Dev w1 F g st1 ∧ Chg F (opW w) w1) (fun c w2 => c = code ∧ (∃ w1, Dev w2 (Ext F w1 w2) g st2 ∧ (opW w).heap.size ≤ w1.heap.size) ∧ Chg G (opW w) w2 ∧ X w2) (hb (opW w) hd0) ?_ (fun c w2 h2 => hcc w2 h2.2.2.1)).mono ?_
  · rintro w1 ⟨h1, hc1⟩
    refine (hd w1 h1 hc1).mono ?_
    rintro e w2 ⟨rfl, h2, hc2, hx2⟩
    exact ⟨code, rfl, rfl, ⟨w1, h2, hc1.size⟩, (hc1.mono hFG).then_ hc2, hx2⟩
  · rintro e w' ⟨c, w2, rfl, ⟨rfl, ⟨w1, h2, hz1⟩, hc2, hx2⟩, rfl⟩
    have hz2 := hc2.size
    rw [opW_size] at hz1 hz2
    have hne : ∀ i, Ext F w1 w2 i → i ≠ w.heap.size := fun i hi e => by
      rcases hi with hi | hi
      · have := h.lt i hi; omega
      · omega
    refine ⟨rfl, (h2.keep (by simp) (fun b hb => Below.heap_setCell _ _ _ _ (by simpa using hne b hb))).mono (fun b hb => ?_) (ext_lt h.lt (by simp; omega)), ?_, hX w2 _ (by omega) hx2⟩
    · rcases hb with hb | hb
      · exact .inl hb
      · exact .inr ⟨by omega, by simpa using hb.2⟩
    · have c0 : Chg G w (opW w) := (Chg.refl G w).alloc _
      exact (c0.then_ hc2).setCell (.inr (Nat.le_refl _)) _
theorem dev_hit {w : World} {F : Nat → Prop} {g : Nat} {st st1 : PSt} (h : Dev w F g st) (k : Int)
    (hb : ∀ w, Dev w F g st → Calls Try.prog 48 #[.pointer (some ⟨g, 0, none⟩), .int .i64 k] w fun e w' => e = .panicked [{ v := theFault, recovered := false }] ∧ Dev w' F g st1 ∧ Chg F w w')
    (fn : Nat) (cap : Array Value) :
    Calls Try.prog 38 #[.pointer (some ⟨g, 0, none⟩), .int .i64 k, .func (.func fn) #[] cap] w fun e w' => e = .returned (.int .i64 6) ∧ Dev w' F g st1 ∧ Chg F w w' := by
  have hd0 : Dev (opW w) F g st := h.keep (by rw [opW_size]; omega) (fun b hb => Below.heap_alloc _ _ _ (h.lt b hb))
  have hcc : ∀ w2, Chg F (opW w) w2 → ∃ x, w2.cell? ⟨w.heap.size, 0, none⟩ = some x ∧ w2.frozen? ⟨w.heap.size, 0, none⟩ = false := fun w2 hc => by
    have hkeep := hc.block w.heap.size (by rw [opW_size]; omega) (fun e => Nat.lt_irrefl _ (h.lt _ e))
    have hblk : Blk (opW w) w.heap.size 25 #[.int .i64 0] := Blk.new w _ _
    have hblk2 := hblk.keep hkeep
    exact ⟨.int .i64 0, hblk2.cell 0, hblk2.frozen 0⟩
  refine (operate_hit g k fn cap w (fun w1 => Dev w1 F g st1 ∧ Chg F (opW w) w1) (hb (opW w) hd0) (fun w2 h2 => hcc w2 h2.2)).mono ?_
  rintro e w' ⟨w2, rfl, ⟨h2, hc2⟩, rfl⟩
  have hz2 := hc2.size
  rw [opW_size] at hz2
  have c0 : Chg F w (opW w) := (Chg.refl F w).alloc _
  refine ⟨rfl, h2.keep (by simp) (fun b hb => ?_), ((c0.then_ hc2).alloc _).setCell (.inr (Nat.le_refl _)) _⟩
  have := h.lt b hb
  rw [Below.heap_setCell _ _ _ _ (show b ≠ w.heap.size by omega), Below.heap_alloc _ _ _ (h2.lt b hb)]

end Go.Proofs.Ytdengokonaljpaa
