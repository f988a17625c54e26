/- Several maps beside each other, each in blocks of its own. -/
import Derived.Test.YtfiafgmlbejboaaRunc
namespace Go.Proofs.Ytfiafgmlbejboaa
open Go.RowKit

/-- The maps ms (where each lies, and what it says), beside the foreign blocks O. -/
structure Maps (Rep : World → Nat → (Nat → Prop) → List Bool → Prop) (O : Nat → Prop) (w : World) (ms : List (Nat × List Bool)) : Prop where
  old : ∀ b, O b → b < w.heap.size
  has : ∃ X : Nat → Nat → Prop, (∀ (i g : Nat) (F : List Bool), ms[i]? = some (g, F) → Rep w g (X i) F) ∧ (∀ i b, X i b → ¬ O b ∧ b < w.heap.size) ∧ ∀ i j b, X i b → X j b → i = j
section
variable {Rep : World → Nat → (Nat → Prop) → List Bool → Prop} {O O' : Nat → Prop} {w w' : World} {ms : List (Nat × List Bool)} {i g : Nat} {F F' : List Bool}
theorem Maps.none (h : ∀ b, O b → b < w.heap.size) : Maps Rep O w [] := ⟨h, fun _ _ => False, fun i g F h => by simp at h, fun _ _ h => h.elim, fun _ _ _ h => h.elim⟩
theorem Maps.keep (hC : RunsC Rep) (h : Maps Rep O w ms) (hc : Chg O w w') : Maps Rep O w' ms := by
  obtain ⟨X, h1, h2, h3⟩ := h.has
  exact ⟨fun b hb => Nat.lt_of_lt_of_le (h.old b hb) hc.size, X, fun i g F hi => hC.keep (h1 i g F hi) fun b hb => hc.block b (h2 i b hb).2 (h2 i b hb).1, fun i b hb => ⟨(h2 i b hb).1, Nat.lt_of_lt_of_le (h2 i b hb).2 hc.size⟩, h3⟩
theorem Maps.below (hC : RunsC Rep) (h : Maps Rep O w ms) (hb : Below w.heap.size w w') : Maps Rep O w' ms := h.keep hC (Chg.of_below O hb)
theorem Maps.foreign (hC : RunsC Rep) (h : Maps Rep O w ms) (hb : Below w.heap.size w w') (hO : ∀ b, O' b → (O b ∨ w.heap.size ≤ b) ∧ b < w'.heap.size) : Maps Rep O' w' ms := by
  obtain ⟨X, h1, h2, h3⟩ := h.has
  refine ⟨fun b hb => (hO b hb).2, X, fun i g F hi => hC.keep (h1 i g F hi) fun b hX => hb.block b (h2 i b hX).2, fun i b hX => ⟨fun ho => ?_, Nat.lt_of_lt_of_le (h2 i b hX).2 hb.size⟩, h3⟩
  have := h2 i b hX
  rcases (hO b ho).1 with e | e
  · exact this.1 e
  · omega
theorem Maps.add (hC : RunsC Rep) (h : Maps Rep O w ms) {X : Nat → Prop} (hr : Rep w' g X F) (hx : ∀ b, X b → w.heap.size ≤ b) (hb : Below w.heap.size w w') : Maps Rep O w' (ms ++ [(g, F)]) := by
  obtain ⟨Y, h1, h2, h3⟩ := h.has
  refine ⟨fun b ho => Nat.lt_of_lt_of_le (h.old b ho) hb.size, fun j => if j = ms.length then X else Y j, fun j g' F'' hj => ?_, fun j b hj => ?_, fun j k b hj hk => ?_⟩
  · by_cases he : j = ms.length
    · subst he
      simp only [if_true]
      simp at hj
      obtain ⟨rfl, rfl⟩ := hj
      exact hr
    · simp only [if_neg he]
      have hlt : j < ms.length := by
        have := (List.getElem?_eq_some_iff.1 hj).1
        simp at this
        omega
      rw [List.getElem?_append_left hlt] at hj
      exact hC.keep (h1 j _ _ hj) fun b hX => hb.block b (h2 j b hX).2
  · by_cases he : j = ms.length
    · simp only [if_pos he] at hj
      have := hx b hj
      exact ⟨fun ho => by have := h.old b ho; omega, hC.lt hr b hj⟩
    · simp only [if_neg he] at hj
      exact ⟨(h2 j b hj).1, Nat.lt_of_lt_of_le (h2 j b hj).2 hb.size⟩
  · by_cases he : j = ms.length <;> by_cases hk' : k = ms.length
    · omega
    · simp only [if_pos he] at hj
      simp only [if_neg hk'] at hk
      have := hx b hj
      have := (h2 k b hk).2
      omega
    · simp only [if_neg he] at hj
      simp only [if_pos hk'] at hk
      have := hx b hk
      have := (h2 j b hj).2
      omega
    · simp only [if_neg he] at hj
      simp only [if_neg hk'] at hk
      exact h3 j k b hj hk
theorem Maps.op (hC : RunsC Rep) (h : Maps Rep O w ms) (hi : ms[i]? = some (g, F)) {f : Nat} {args : Array Value} {Q : Ending → Prop} (P : ∀ X, Rep w g X F → Calls Try.prog f args w fun e w' => Q e ∧ OpR Rep g X F' w w') :
    Calls Try.prog f args w fun e w' => Q e ∧ Maps Rep O w' (ms.set i (g, F')) ∧ Chg (fun b => ¬ O b) w w' := by
  obtain ⟨X, h1, h2, h3⟩ := h.has
  refine (P (X i) (h1 i g F hi)).mono ?_
  rintro e w' ⟨hq, X', hr, hx, hc⟩
  refine ⟨hq, ⟨fun b ho => Nat.lt_of_lt_of_le (h.old b ho) hc.size, fun j => if j = i then X' else X j, fun j g' F'' hj => ?_, fun j b hj => ?_, fun j k b hj hk => ?_⟩, hc.mono fun b hb => (h2 i b hb).1⟩
  · by_cases he : j = i
    · subst he
      simp only [if_true]
      rw [List.getElem?_set_self (List.getElem?_eq_some_iff.1 hi).1] at hj
      injection hj with hj
      injection hj with e1 e2
      subst e1 e2
      exact hr
    · simp only [if_neg he]
      rw [List.getElem?_set_ne (Ne.symm he)] at hj
      exact hC.keep (h1 j _ _ hj) fun b hX => hc.block b (h2 j b hX).2 fun hXi => he (h3 j i b hX hXi)
  · by_cases he : j = i
    · simp only [if_pos he] at hj
      refine ⟨fun ho => ?_, hC.lt hr b hj⟩
      rcases hx b hj with hb | hb
      · exact (h2 i b hb).1 ho
      · have := h.old b ho; omega
    · simp only [if_neg he] at hj
      exact ⟨(h2 j b hj).1, Nat.lt_of_lt_of_le (h2 j b hj).2 hc.size⟩
  · have key : ∀ j, j ≠ i → X' b → X j b → False := fun j hne hb hj => by
      rcases hx b hb with hb | hb
      · exact hne (h3 j i b hj hb)
      · have := (h2 j b hj).2; omega
    by_cases he : j = i <;> by_cases hk' : k = i
    · omega
    · simp only [if_pos he] at hj
      simp only [if_neg hk'] at hk
      exact (key k hk' hj hk).elim
    · simp only [if_neg he] at hj
      simp only [if_pos hk'] at hk
      exact (key j he hk hj).elim
    · simp only [if_neg he] at hj
      simp only [if_neg hk'] at hk
      exact h3 j k b hj hk
theorem new_at (hC : RunsC Rep) (h : Maps Rep O w ms) (n : Int) (hn : I64 n) : Calls Try.prog 13 #[.int .i64 n] w fun e w' => ∃ g, e = .returned (.pointer (some ⟨g, 0, none⟩)) ∧ Maps Rep O w' (ms ++ [(g, Rn.new n)]) ∧ Below w.heap.size w w' :=
  (hC.new n w hn).mono fun _ _ ⟨g, _, h1, h2, h3, h4⟩ => ⟨g, h1, h.add hC h2 h3 h4, h4⟩
theorem copy_at (hC : RunsC Rep) (h : Maps Rep O w ms) (hi : ms[i]? = some (g, F)) : Calls Try.prog 22 #[.pointer (some ⟨g, 0, none⟩)] w fun e w' => ∃ g', e = .returned (.pointer (some ⟨g', 0, none⟩)) ∧ Maps Rep O w' (ms ++ [(g', F)]) ∧ Below w.heap.size w w' := by
  obtain ⟨X, h1, _⟩ := h.has
  exact (hC.copy (h1 i g F hi)).mono fun _ _ ⟨g', _, e1, e2, e3, e4⟩ => ⟨g', e1, h.add hC e2 e3 e4, e4⟩
theorem take_at (hC : RunsC Rep) (h : Maps Rep O w ms) (hi : ms[i]? = some (g, F)) (n : Int) (hn : I64 n) : Calls Try.prog 15 #[.pointer (some ⟨g, 0, none⟩), .int .i64 n] w fun e w' => e = .returned (.tuple #[.int .i64 ((Rn.take F n).1 : Int), .bool (Rn.take F n).2.1]) ∧ Maps Rep O w' (ms.set i (g, (Rn.take F n).2.2)) ∧ Chg (fun b => ¬ O b) w w' :=
  h.op hC hi fun _ hr => hC.take hr n hn
theorem mark_at (hC : RunsC Rep) (h : Maps Rep O w ms) (hi : ms[i]? = some (g, F)) (a n : Int) (ha : I64 a) (hn : I64 n) : Calls Try.prog 17 #[.pointer (some ⟨g, 0, none⟩), .int .i64 a, .int .i64 n] w fun e w' => e = .returned (.bool (Rn.mark F a n).1) ∧ Maps Rep O w' (ms.set i (g, (Rn.mark F a n).2)) ∧ Chg (fun b => ¬ O b) w w' :=
  h.op hC hi fun _ hr => hC.mark hr a n ha hn
theorem give_at (hC : RunsC Rep) (h : Maps Rep O w ms) (hi : ms[i]? = some (g, F)) (a n : Int) (ha : I64 a) (hn : I64 n) : Calls Try.prog 19 #[.pointer (some ⟨g, 0, none⟩), .int .i64 a, .int .i64 n] w fun e w' => e = .returned (.bool (Rn.give F a n).1) ∧ Maps Rep O w' (ms.set i (g, (Rn.give F a n).2)) ∧ Chg (fun b => ¬ O b) w w' :=
  h.op hC hi fun _ hr => hC.give hr a n ha hn
theorem free_at (hC : RunsC Rep) (h : Maps Rep O w ms) (hi : ms[i]? = some (g, F)) : Calls Try.prog 23 #[.pointer (some ⟨g, 0, none⟩)] w fun e w' => e = .returned (.int .i64 (Rn.freeN F : Int)) ∧ Maps Rep O w' ms ∧ Below w.heap.size w w' := by
  obtain ⟨X, h1, _⟩ := h.has
  exact (hC.free (h1 i g F hi)).mono fun _ _ ⟨e1, e2⟩ => ⟨e1, h.below hC e2, e2⟩
theorem great_at (hC : RunsC Rep) (h : Maps Rep O w ms) (hi : ms[i]? = some (g, F)) : Calls Try.prog 25 #[.pointer (some ⟨g, 0, none⟩)] w fun e w' => e = .returned (.int .i64 (Rn.greatest F : Int)) ∧ Maps Rep O w' ms ∧ Below w.heap.size w w' := by
  obtain ⟨X, h1, _⟩ := h.has
  exact (hC.greatest (h1 i g F hi)).mono fun _ _ ⟨e1, e2⟩ => ⟨e1, h.below hC e2, e2⟩
theorem list_at (hC : RunsC Rep) (h : Maps Rep O w ms) (hi : ms[i]? = some (g, F)) : Calls Try.prog 24 #[.pointer (some ⟨g, 0, none⟩)] w fun e w' => ∃ v, e = .returned v ∧ OwnR w' w.heap.size v (Rn.list F) ∧ Maps Rep O w' ms ∧ Below w.heap.size w w' := by
  obtain ⟨X, h1, _⟩ := h.has
  exact (hC.list (h1 i g F hi)).mono fun _ _ ⟨v, e1, e2, e3⟩ => ⟨v, e1, e2, h.below hC e3, e3⟩
/-- Of the blocks below B none is theirs. -/
theorem Maps.old_below {B : Nat} (h : Chg (fun b => ¬ O b) w w') (hB : B ≤ w.heap.size) (hO : ∀ b, b < B → O b) : Below B w w' :=
  h.below hB fun b hb => Nat.le_of_not_lt fun e => hb (hO b e)
end
end Go.Proofs.Ytfiafgmlbejboaa
