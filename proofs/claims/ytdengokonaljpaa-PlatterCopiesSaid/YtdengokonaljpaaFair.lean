/- Counts and lengths stay small, whatever is done. -/
import Derived.Test.YtdengokonaljpaaDo2
namespace Go.Proofs.Ytdengokonaljpaa
open Go.RowKit Go.Maps

theorem Fair.more {st : PSt} {N M : Nat} (h : Fair st N) (hN : N ≤ M) : Fair st M :=
  ⟨fun k hk => ⟨Nat.le_trans (h.o k hk).1 hN, Nat.le_trans (h.o k hk).2 hN⟩, Nat.le_trans h.c hN, h.q, h.b, h.z⟩
theorem Fair.count {st : PSt} {N : Nat} (h : Fair st N) {k : Nat} (hk : k ≠ 0) : Fair (st.count k) (N + 1) := by
  refine ⟨fun j hj => ?_, Nat.le_succ_of_le h.c, h.q, h.b, ?_⟩
  · have := h.o j hj
    simp only [PSt.count, bump]
    constructor <;> split <;> omega
  · simp only [PSt.count, bump]
    rw [if_neg (Ne.symm hk)]; exact h.z
theorem Fair.put {st : PSt} {N : Nat} (h : Fair st N) {k : Nat} (hk : k ≠ 0) (n : Nat) (l : List Nat) : Fair ((st.count k).put n l) (N + 1) :=
  ⟨fun j hj => (h.count hk).o j hj, by have := h.c; simp only [PSt.put, PSt.count, List.length_append, List.length_singleton]; omega, h.q, h.b, (h.count hk).z⟩
theorem Fair.deed {st : PSt} {N : Nat} (h : Fair st N) (x : Deed) (hq : x.fl.length ≤ 20) : Fair (st.deed x) (N + 1) := by
  unfold PSt.deed
  split
  · unfold PSt.write
    split
    · exact h.count (by decide)
    · split
      · exact h.count (by decide)
      · exact h.put (by decide) _ _
  split
  · exact h.count (by decide)
  split
  · unfold PSt.sync
    split
    · exact h.count (by decide)
    · exact ⟨fun j hj => (h.count (k := 3) (by decide)).o j hj, Nat.zero_le _, h.q, by show 0 < (applied st _ _).length ∧ (applied st _ _).length ≤ 8192; rw [applied_length]; exact h.b, (h.count (k := 3) (by decide)).z⟩
  split
  · exact ⟨fun j hj => (h.more (Nat.le_succ N)).o j hj, Nat.zero_le _, Nat.zero_le _, by show 0 < (applied st _ _).length ∧ (applied st _ _).length ≤ 8192; rw [applied_length]; exact h.b, h.z⟩
  split
  · exact ⟨fun j hj => ⟨((h.more (Nat.le_succ N)).o j hj).1, Nat.zero_le _⟩, Nat.le_succ_of_le h.c, hq, h.b, h.z⟩
  split
  · unfold PSt.rot
    split
    · exact ⟨fun j hj => (h.more (Nat.le_succ N)).o j hj, Nat.le_succ_of_le h.c, h.q, by show 0 < (st.blocks.set _ _).length ∧ (st.blocks.set _ _).length ≤ 8192; rw [List.length_set]; exact h.b, h.z⟩
    · exact h.more (Nat.le_succ N)
  · exact h.more (Nat.le_succ N)
theorem fair_new {n : Nat} (h1 : 0 < n) (h2 : n ≤ 8192) : Fair (newSt n) 0 :=
  ⟨fun _ _ => ⟨Nat.le_refl _, Nat.le_refl _⟩, Nat.le_refl _, Nat.zero_le _, by simp [newSt]; omega, rfl⟩

/-- Behind the first i of them. -/
def deeds (st : PSt) (l : List Deed) : Nat → PSt
  | 0 => st
  | i + 1 => match l[i]? with
    | some x => (deeds st l i).deed x
    | none => deeds st l i
theorem deeds_next {st : PSt} {l : List Deed} {i : Nat} (h : i < l.length) : deeds st l (i + 1) = (deeds st l i).deed l[i] := by
  rw [deeds, List.getElem?_eq_getElem h]
end Go.Proofs.Ytdengokonaljpaa
