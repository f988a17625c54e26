/- The document's Table, walked: the lengths as runs. -/
import Derived.Test.YtnkgcibdibgmjaaWpl
import Derived.Test.YtnkgcibdibgmjaaRunpw2
namespace Go.Proofs.Ytnkgcibdibgmjaa
open Go.RowKit

/-- The runs of the lengths up to i. -/
structure Runs (l : List Int) (i : Nat) (rs : List (Nat × Nat)) : Prop where
  fits : ∀ r ∈ rs, r.1 ≤ 11 ∧ 1 ≤ r.2 ∧ r.2 ≤ 16
  are : Wd.runsL rs = l.take i
theorem Runs.next {l : List Int} {i x n : Nat} {rs : List (Nat × Nat)} (h : Runs l i rs) (hx : x ≤ 11) (h1 : 1 ≤ n) (h16 : n ≤ 16) (hl : i + n ≤ l.length) (ha : ∀ j, j < n → l.getD (i + j) 0 = (x : Int)) : Runs l (i + n) (rs ++ [(x, n)]) := by
  refine ⟨fun r hr => ?_, ?_⟩
  · rcases List.mem_append.mp hr with hr | hr
    · exact h.fits r hr
    · rw [List.mem_singleton] at hr; subst hr; exact ⟨hx, h1, h16⟩
  · have e : Wd.runsL (rs ++ [(x, n)]) = Wd.runsL rs ++ List.replicate n (x : Int) := by unfold Wd.runsL; rw [List.flatMap_append]; simp
    rw [e, h.are, List.take_add]
    congr 1
    refine List.ext_getElem (by rw [List.length_replicate, List.length_take, List.length_drop]; omega) fun j hj1 hj2 => ?_
    rw [List.length_replicate] at hj1
    have := ha j hj1
    rw [List.getD_eq_getElem?_getD, List.getElem?_eq_getElem (by omega)] at this
    rw [List.getElem_replicate, List.getElem_take, List.getElem_drop]
    exact this.symm
theorem runsB_snoc (rs : List (Nat × Nat)) (x n : Nat) : Wd.runsB (rs ++ [(x, n)]) = Wd.runsB rs ++ [x * 16 + (n - 1)] := by unfold Wd.runsB; rw [List.map_append]; rfl
theorem ortbl {x n : Nat} (hx : x ≤ 11) (h1 : 1 ≤ n) (h16 : n ≤ 16) : bits BinOp.or IntKind.i64 ((x : Int) * 16) ((n : Int) - 1) = ((x * 16 + (n - 1) : Nat) : Int) := by
  have e1 : (x : Int) * 16 = ((x * 16 : Nat) : Int) := by omega
  have e2 : (n : Int) - 1 = ((n - 1 : Nat) : Int) := by omega
  rw [e1, e2]
  obtain ⟨m, hm⟩ : ∃ m, n - 1 = m := ⟨_, rfl⟩
  have hm16 : m < 16 := by omega
  rw [hm]
  have h : ∀ x, x < 12 → ∀ m, m < 16 → bits BinOp.or IntKind.i64 ((x * 16 : Nat) : Int) ((m : Nat) : Int) = ((x * 16 + m : Nat) : Int) := by decide +kernel
  exact h x (by omega) m hm16

end Go.Proofs.Ytnkgcibdibgmjaa
