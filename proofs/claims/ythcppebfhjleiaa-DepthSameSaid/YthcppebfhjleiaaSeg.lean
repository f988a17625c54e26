/- Plain Lean: a row in blocks, each of them in order. -/
import Derived.Test.YthcppebfhjleiaaSymC
namespace Go.Proofs.Ythcppebfhjleiaa
open Go.RowKit Go.Shelf Go.Lib Go.Sort

section
variable {α : Type}
/-- Block q of width m. -/
def seg (m q : Nat) (l : List α) : List α := (l.drop (q * m)).take m
theorem seg_two (m k : Nat) (l : List α) : seg (2 * m) k l = seg m (2 * k) l ++ seg m (2 * k + 1) l := by
  unfold seg
  rw [show 2 * m = m + m by omega, List.take_add, List.drop_drop, show k * (m + m) = 2 * k * m by rw [← Nat.two_mul, Nat.mul_comm 2 k, Nat.mul_assoc], show 2 * k * m + m = (2 * k + 1) * m by rw [Nat.add_mul, Nat.one_mul]]
theorem seg_before {m q : Nat} {P : List α} (R R' : List α) (h : (q + 1) * m ≤ P.length) : seg m q (P ++ R) = seg m q (P ++ R') := by
  rw [Nat.add_mul, Nat.one_mul] at h
  unfold seg
  rw [List.drop_append_of_le_length (by omega), List.drop_append_of_le_length (by omega), List.take_append_of_le_length (by rw [List.length_drop]; omega), List.take_append_of_le_length (by rw [List.length_drop]; omega)]
theorem seg_behind {m q : Nat} {P P' : List α} (S : List α) (h : P.length ≤ q * m) (hp : P.length = P'.length) : seg m q (P ++ S) = seg m q (P' ++ S) := by
  unfold seg
  rw [List.drop_append, List.drop_append, List.drop_eq_nil_of_le h, hp, show List.drop (q * m) P' = [] from List.drop_eq_nil_of_le (by omega)]
theorem seg_here {m q : Nat} {P Z : List α} (S : List α) (h : P.length = q * m) (hz : Z.length = m ∨ (Z.length ≤ m ∧ S = [])) : seg m q (P ++ (Z ++ S)) = Z := by
  unfold seg
  rw [← h, List.drop_left]
  rcases hz with hz | ⟨hz, rfl⟩
  · rw [← hz, List.take_left]
  · rw [List.append_nil, List.take_of_length_le hz]
theorem seg_none {m q : Nat} {l : List α} (h : l.length ≤ q * m) : seg m q l = [] := by
  unfold seg; rw [List.drop_eq_nil_of_le h, List.take_nil]
theorem seg_len (m q : Nat) (l : List α) : (seg m q l).length = min m (l.length - q * m) := by unfold seg; rw [List.length_take, List.length_drop]
end

/-- Block q is in order, of those that stood there. -/
def InOrder (c : Fin 256 → Int) (X D : List (Fin 256)) (m q : Nat) : Prop := (seg m q D).Perm (seg m q X) ∧ (seg m q D).Pairwise (Tot c)
section
variable {c : Fin 256 → Int} {X D : List (Fin 256)}
/-- What merging two blocks is told. -/
theorem two_blocks (hX : X.Pairwise (fun x y => x.val < y.val)) {m k : Nat} (h1 : InOrder c X D m (2 * k)) (h2 : InOrder c X D m (2 * k + 1)) : ∀ x ∈ seg m (2 * k) D, ∀ y ∈ seg m (2 * k + 1) D, x.val < y.val := by
  intro x hx y hy
  have hs : (seg m (2 * k) X ++ seg m (2 * k + 1) X).Pairwise (fun x y : Fin 256 => x.val < y.val) := by
    rw [← seg_two]; exact hX.sublist ((List.take_sublist _ _).trans (List.drop_sublist _ _))
  exact (List.pairwise_append.1 hs).2.2 x (h1.1.mem_iff.1 hx) y (h2.1.mem_iff.1 hy)
/-- Blocks of twice the width up to k, of the width from 2 * k on. -/
structure Mix (c : Fin 256 → Int) (X : List (Fin 256)) (m k : Nat) (D : List (Fin 256)) : Prop where
  len : D.length = X.length
  done : ∀ q, q < k → InOrder c X D (2 * m) q
  todo : ∀ q, 2 * k ≤ q → InOrder c X D m q
theorem Mix.parts {m k : Nat} (D : List (Fin 256)) (h : 2 * k * m ≤ D.length) : ∃ P S : List (Fin 256), D = P ++ ((seg m (2 * k) D ++ seg m (2 * k + 1) D) ++ S) ∧ P.length = 2 * k * m ∧ S.length = D.length - 2 * k * m - 2 * m := by
  refine ⟨D.take (2 * k * m), D.drop (2 * k * m + 2 * m), ?_, by rw [List.length_take]; omega, by rw [List.length_drop]; omega⟩
  rw [← seg_two]
  have e : k * (2 * m) = 2 * k * m := by rw [Nat.mul_comm 2 k, Nat.mul_assoc]
  unfold seg
  rw [e, ← List.drop_drop, List.take_append_drop, List.take_append_drop]
theorem Mix.next {m k : Nat} (h : Mix c X m k D) {P Z S : List (Fin 256)} (hD : D = P ++ ((seg m (2 * k) D ++ seg m (2 * k + 1) D) ++ S)) (hP : P.length = 2 * k * m) (hZ : Z.Perm (seg m (2 * k) D ++ seg m (2 * k + 1) D)) (hp : Z.Pairwise (Tot c)) (hz : Z.length = 2 * m ∨ Z.length ≤ 2 * m ∧ S = []) : Mix c X m (k + 1) (P ++ (Z ++ S)) := by
  have e : k * (2 * m) = 2 * k * m := by rw [Nat.mul_comm 2 k, Nat.mul_assoc]
  have hlen : (P ++ (Z ++ S)).length = X.length := by
    rw [← h.len]; conv => rhs; rw [hD]
    simp only [List.length_append, hZ.length_eq]
  refine ⟨hlen, fun q hq => ?_, fun q hq => ?_⟩
  · rcases Nat.lt_or_ge q k with hk | hk
    · have e1 : seg (2 * m) q (P ++ (Z ++ S)) = seg (2 * m) q D := by
        conv => rhs; rw [hD]
        exact seg_before _ _ (by rw [hP, ← e]; exact Nat.mul_le_mul_right _ hk)
      unfold InOrder
      rw [e1]; exact h.done q hk
    · obtain rfl : q = k := by omega
      have e1 : seg (2 * m) q (P ++ (Z ++ S)) = Z := seg_here S (by rw [hP, e]) hz
      unfold InOrder
      rw [e1, seg_two]
      exact ⟨hZ.trans ((h.todo (2 * q) (Nat.le_refl _)).1.append (h.todo (2 * q + 1) (by omega)).1), hp⟩
  · rcases hz with hz | ⟨hz, rfl⟩
    · have e1 : seg m q (P ++ (Z ++ S)) = seg m q D := by
        conv => rhs; rw [hD]
        rw [← List.append_assoc, ← List.append_assoc]
        refine seg_behind S ?_ (by simp only [List.length_append, hZ.length_eq])
        rw [List.length_append, hP, hz, show 2 * k * m + 2 * m = 2 * (k + 1) * m by rw [Nat.mul_add, Nat.add_mul]]
        exact Nat.mul_le_mul_right _ hq
      unfold InOrder
      rw [e1]; exact h.todo q (by omega)
    · have h2 : (P ++ (Z ++ ([] : List (Fin 256)))).length ≤ q * m := by
        simp only [List.length_append, List.length_nil, hP]
        have : 2 * (k + 1) * m ≤ q * m := Nat.mul_le_mul_right _ hq
        rw [Nat.mul_add, Nat.add_mul] at this
        omega
      unfold InOrder
      rw [seg_none h2, seg_none (by rw [← hlen]; exact h2)]
      exact ⟨List.Perm.refl _, List.Pairwise.nil⟩
/-- All blocks merged. -/
theorem Mix.all {m k : Nat} (h : Mix c X m k D) (hk : X.length ≤ k * (2 * m)) : Mix c X (2 * m) 0 D :=
  ⟨h.len, fun q hq => absurd hq (Nat.not_lt_zero _), fun q _ => by
    rcases Nat.lt_or_ge q k with h1 | h1
    · exact h.done q h1
    · have h2 : X.length ≤ q * (2 * m) := Nat.le_trans hk (Nat.mul_le_mul_right _ h1)
      unfold InOrder
      rw [seg_none (by rw [h.len]; exact h2), seg_none h2]
      exact ⟨List.Perm.refl _, List.Pairwise.nil⟩⟩
theorem Mix.end_ {m : Nat} (h : Mix c X m 0 D) (hm : X.length ≤ m) : D.Perm X ∧ D.Pairwise (Tot c) := by
  have := h.todo 0 (Nat.le_refl _)
  unfold InOrder seg at this
  rw [Nat.zero_mul, List.drop_zero, List.drop_zero, List.take_of_length_le (by rw [h.len]; exact hm), List.take_of_length_le hm] at this
  exact this
/-- The first blocks: those up to k are in order, the others as they were. -/
structure Fst20 (c : Fin 256 → Int) (X : List (Fin 256)) (k : Nat) (D : List (Fin 256)) : Prop where
  len : D.length = X.length
  done : ∀ q, q < k → InOrder c X D 20 q
  rest : D.drop (k * 20) = X.drop (k * 20)
theorem Fst20.parts {k : Nat} (h : Fst20 c X k D) : D = D.take (k * 20) ++ (seg 20 k X ++ D.drop (k * 20 + 20)) := by
  unfold seg
  rw [← h.rest, ← List.drop_drop, List.take_append_drop, List.take_append_drop]
theorem Fst20.next {k : Nat} (h : Fst20 c X k D) (hk : k * 20 ≤ D.length) {Z : List (Fin 256)} (hZ : Z.Perm (seg 20 k X)) (hp : Z.Pairwise (Tot c)) : Fst20 c X (k + 1) (D.take (k * 20) ++ (Z ++ D.drop (k * 20 + 20))) := by
  have hl : (D.take (k * 20)).length = k * 20 := by rw [List.length_take]; omega
  have hlen := h.len
  have hs := seg_len 20 k X
  have hzl := hZ.length_eq
  refine ⟨?_, fun q hq => ?_, ?_⟩
  · simp only [List.length_append, List.length_drop, hl]; omega
  · rcases Nat.lt_or_ge q k with h1 | h1
    · have e1 : seg 20 q (D.take (k * 20) ++ (Z ++ D.drop (k * 20 + 20))) = seg 20 q D := by
        conv => rhs; rw [h.parts]
        exact seg_before _ _ (by rw [hl]; exact Nat.mul_le_mul_right _ h1)
      unfold InOrder
      rw [e1]; exact h.done q h1
    · obtain rfl : q = k := by omega
      have e1 : seg 20 q (D.take (q * 20) ++ (Z ++ D.drop (q * 20 + 20))) = Z := seg_here _ hl (by
        rcases Nat.lt_or_ge (q * 20 + 20) X.length with h2 | h2
        · exact .inl (by omega)
        · exact .inr ⟨by omega, List.drop_eq_nil_of_le (by omega)⟩)
      unfold InOrder
      rw [e1]; exact ⟨hZ, hp⟩
  · rw [show (k + 1) * 20 = k * 20 + 20 by omega]
    have hr := h.rest
    rcases Nat.lt_or_ge (k * 20 + 20) X.length with h2 | h2
    · rw [← List.append_assoc, List.drop_left' (by rw [List.length_append, hl]; omega), ← List.drop_drop, hr, List.drop_drop]
    · rw [List.drop_eq_nil_of_le (by simp only [List.length_append, List.length_drop, hl]; omega), List.drop_eq_nil_of_le h2]
theorem Fst20.all {k : Nat} (h : Fst20 c X k D) (hk : X.length ≤ k * 20) : Mix c X 20 0 D :=
  ⟨h.len, fun q hq => absurd hq (Nat.not_lt_zero _), fun q _ => by
    rcases Nat.lt_or_ge q k with h1 | h1
    · exact h.done q h1
    · have h2 : X.length ≤ q * 20 := Nat.le_trans hk (Nat.mul_le_mul_right _ h1)
      unfold InOrder
      rw [seg_none (by rw [h.len]; exact h2), seg_none h2]
      exact ⟨List.Perm.refl _, List.Pairwise.nil⟩⟩
theorem first20 (c : Fin 256 → Int) (X : List (Fin 256)) : Fst20 c X 0 X := ⟨rfl, fun _ hq => absurd hq (Nat.not_lt_zero _), rfl⟩
end
end Go.Proofs.Ythcppebfhjleiaa
