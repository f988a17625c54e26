/- Rows that are being sorted, as lists: a swap, and what a walk wants at one. -/
import Derived.Test.YthcppebfhjleiaaChecked
import Derived.Shelf.SlSortCmp.Insertion1
import Derived.WalkKit
import Derived.Lib.Hide
import Derived.BigRegion
namespace Go.Proofs.Ythcppebfhjleiaa
open Go.RowKit Go.Shelf Go.Lib Go.Sort

/-- A byte value as an int. -/
def encF (x : Fin 256) : Value := .int .i64 ((x.val : Nat) : Int)
theorem encF_one : OneCell encF := fun _ => rfl

section
variable {α : Type} [Inhabited α]
theorem arr_at (P : List α) (u : α) (S : List α) : (P ++ u :: S).toArray[P.length]! = u := by simp
theorem arr_at' {L P S : List α} {u : α} {k : Nat} (h : L = P ++ u :: S) (hk : P.length = k) : L.toArray[k]! = u := by
  subst h; subst hk; exact arr_at P u S
theorem swp_list (P : List α) (u : α) (M : List α) (v : α) (S : List α) : swp (P ++ u :: (M ++ v :: S)).toArray P.length (P.length + 1 + M.length) = (P ++ v :: (M ++ u :: S)).toArray := by
  unfold swp
  have h1 : (P ++ u :: (M ++ v :: S)).toArray[P.length]! = u := arr_at _ _ _
  have h2 : (P ++ u :: (M ++ v :: S)).toArray[P.length + 1 + M.length]! = v := arr_at' (P := P ++ u :: M) (S := S) (by simp) (by simp; omega)
  rw [h1, h2, List.setIfInBounds_toArray, List.setIfInBounds_toArray]
  congr 1
  rw [List.set_append_right _ _ (Nat.le_refl _), Nat.sub_self, List.set_cons_zero, List.set_append_right _ _ (by omega), show P.length + 1 + M.length - P.length = M.length + 1 by omega, List.set_cons_succ, List.set_append_right _ _ (Nat.le_refl _), Nat.sub_self, List.set_cons_zero]
theorem swp_list' (P : List α) (u : α) (M : List α) (v : α) (S : List α) : swp (P ++ u :: (M ++ v :: S)).toArray (P.length + 1 + M.length) P.length = (P ++ v :: (M ++ u :: S)).toArray := by
  refine Eq.trans ?_ (swp_list P u M v S)
  unfold swp
  have h1 : (P ++ u :: (M ++ v :: S)).toArray[P.length]! = u := arr_at _ _ _
  have h2 : (P ++ u :: (M ++ v :: S)).toArray[P.length + 1 + M.length]! = v := arr_at' (P := P ++ u :: M) (S := S) (by simp) (by simp; omega)
  rw [h1, h2]
  exact (Array.setIfInBounds_comm _ _ (by omega))
theorem swp_is {L P M S : List α} {u v : α} {i j : Nat} (h : L = P ++ u :: (M ++ v :: S)) (hi : P.length = i) (hj : i + 1 + M.length = j) : swp L.toArray i j = (P ++ v :: (M ++ u :: S)).toArray := by
  subst h; subst hi; subst hj; exact swp_list P u M v S
theorem swp_is' {L P M S : List α} {u v : α} {i j : Nat} (h : L = P ++ u :: (M ++ v :: S)) (hi : P.length = i) (hj : i + 1 + M.length = j) : swp L.toArray j i = (P ++ v :: (M ++ u :: S)).toArray := by
  subst h; subst hi; subst hj; exact swp_list' P u M v S
omit [Inhabited α] in
theorem take_snoc' {l : List α} {i : Nat} (h : i < l.length) : l.take (i + 1) = l.take i ++ [l[i]] := by
  rw [List.take_add_one, List.getElem?_eq_getElem h]; rfl
end

/-- The row of byte values, of N elements, in a world of the sort's. -/
def Sl1 (w0 : World) (blk : Nat) (L : List (Fin 256)) (W : World) : Prop := SW encF w0 blk 0 L.toArray W
structure Srt (w0 : World) (blk N : Nat) : Prop where
  row : ∃ d0 : Array (Fin 256), d0.size = N ∧ Row1 encF w0 blk 0 d0
  small : N ≤ 256
section
variable {w0 W : World} {blk N : Nat} {L : List (Fin 256)}
theorem Sl1.at_ (h : Sl1 w0 blk L W) (s : Srt w0 blk N) (hL : L.length = N) {i : Nat} {u : Fin 256} (hi : i < N) (hu : L.toArray[i]! = u) : W.cell? ⟨blk, i, none⟩ = some (encF u) := by
  obtain ⟨d0, hd, R⟩ := s.row
  have := SW.c1 h R (by simp; omega) i (by simp; omega)
  rw [hu, Nat.zero_add] at this
  exact this
theorem Sl1.frz (h : Sl1 w0 blk L W) (s : Srt w0 blk N) (hL : L.length = N) {i : Nat} (hi : i < N) : W.frozen? ⟨blk, i, none⟩ = false := by
  obtain ⟨d0, hd, R⟩ := s.row
  have := SW.f1 h R (by simp; omega) i (by simp; omega)
  rw [Nat.zero_add] at this
  exact this
theorem Sl1.c2 (h : Sl1 w0 blk L W) (s : Srt w0 blk N) (hL : L.length = N) {i j : Nat} (hi : i < N) (hj : j < N) (v : Value) : ∃ u, (W.setCell ⟨blk, i, none⟩ v).cell? ⟨blk, j, none⟩ = some u := by
  obtain ⟨d0, hd, R⟩ := s.row
  have := SW.c2 h R (by simp; omega) i j (by simp; omega) (by simp; omega) v
  rwa [Nat.zero_add, Nat.zero_add] at this
theorem Sl1.swapped (h : Sl1 w0 blk L W) (s : Srt w0 blk N) (hL : L.length = N) {i j : Nat} (hi : i < N) (hj : j < N) {L' : List (Fin 256)} (hs : swp L.toArray i j = L'.toArray) {x y : Fin 256} (hx : L.toArray[i]! = x) (hy : L.toArray[j]! = y) :
    Sl1 w0 blk L' ((W.setCell ⟨blk, i, none⟩ (encF y)).setCell ⟨blk, j, none⟩ (encF x)).drew := by
  obtain ⟨d0, hd, R⟩ := s.row
  have := SW.swapped h R i j (by simp; omega) (by simp; omega)
  rw [hs, hx, hy, Nat.zero_add, Nat.zero_add] at this
  exact this
theorem Sl1.drew (h : Sl1 w0 blk L W) : Sl1 w0 blk L W.drew := SW.drew h
end
end Go.Proofs.Ythcppebfhjleiaa
