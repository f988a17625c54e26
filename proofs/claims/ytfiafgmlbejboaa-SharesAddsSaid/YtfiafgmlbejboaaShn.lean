/- Reference counts with deferred freeing: what the runs in use are (plain Lean, no program). -/
import Derived.Test.YtfiafgmlbejboaaRn
namespace Go.Proofs.Ytfiafgmlbejboaa.Sh

/-- A run, and how often it is used (0: it is late): (first block, blocks, uses). -/
abbrev U := Nat × Nat × Nat
def idx (l : List U) (a : Int) : Option Nat := l.findIdx? fun u => decide ((u.1 : Int) = a)
def idxV (l : List U) (a : Int) : Int := match idx l a with | none => -1 | some k => (k : Int)
/-- How many runs lie below a block. -/
def below (l : List U) (a : Nat) : Nat := (l.takeWhile fun u => decide (u.1 < a)).length
def ins (l : List U) (a n : Nat) : List U := l.take (below l a) ++ [(a, n, 1)] ++ l.drop (below l a)
def add (l : List U) (a n : Int) : Bool × List U := if n < 1 ∨ a < 0 ∨ 0 ≤ idxV l a then (false, l) else (true, ins l a.toNat n.toNat)
def at_ (l : List U) (k : Nat) : U := l.getD k (0, 0, 0)
def setU (l : List U) (k m : Nat) : List U := l.set k ((at_ l k).1, (at_ l k).2.1, m)
/-- One use more, or less. -/
def change (l : List U) (a : Int) (more : Bool) : Bool × List U :=
  match idx l a with
  | none => (false, l)
  | some k => if (at_ l k).2.2 = 0 then (false, l) else (true, setU l k (if more = true then (at_ l k).2.2 + 1 else (at_ l k).2.2 - 1))
def uses (l : List U) (a : Int) : Nat := match idx l a with | none => 0 | some k => (at_ l k).2.2
def isLate (u : U) : Bool := u.2.2 == 0
def lst (late : Bool) (l : List U) : List (Nat × Nat) := (l.filter fun u => isLate u == late).map fun u => (u.1, u.2.1)
def giveAll (F : List Bool) (l : List U) : List Bool := l.foldl (fun F u => (Rn.give F (u.1 : Int) (u.2.1 : Int)).2) F
def blocks (l : List U) : Nat := (l.map fun u => u.2.1).sum
def lates (l : List U) : List U := l.filter isLate
def used (l : List U) : List U := l.filter fun u => !isLate u
/-- Those that the older row does not know. -/
def news (l was : List U) : List U := l.filter fun u => !was.any fun o => decide (o.1 = u.1)

theorem idx_some {l : List U} {a : Int} {k : Nat} (h : idx l a = some k) : k < l.length ∧ ((at_ l k).1 : Int) = a := by
  unfold idx at h
  obtain ⟨hk, hp, -⟩ := List.findIdx?_eq_some_iff_getElem.1 h
  refine ⟨hk, ?_⟩
  unfold at_
  rw [List.getD_eq_getElem?_getD, List.getElem?_eq_getElem hk]
  simpa using hp
theorem idx_here {l : List U} {a : Int} {k : Nat} (hk : k < l.length) (h : ((at_ l k).1 : Int) = a) (hb : ∀ j, j < k → ((at_ l j).1 : Int) ≠ a) : idx l a = some k := by
  unfold idx
  refine List.findIdx?_eq_some_iff_getElem.2 ⟨hk, ?_, fun j hj => ?_⟩
  · unfold at_ at h
    rw [List.getD_eq_getElem?_getD, List.getElem?_eq_getElem hk] at h
    simpa using h
  · have := hb j hj
    unfold at_ at this
    rw [List.getD_eq_getElem?_getD, List.getElem?_eq_getElem (by omega)] at this
    simpa using this
theorem idx_none {l : List U} {a : Int} (h : ∀ j, j < l.length → ((at_ l j).1 : Int) ≠ a) : idx l a = none := by
  unfold idx
  rw [List.findIdx?_eq_none_iff]
  intro u hu
  obtain ⟨i, hi, rfl⟩ := List.mem_iff_getElem.1 hu
  have := h i hi
  unfold at_ at this
  rw [List.getD_eq_getElem?_getD, List.getElem?_eq_getElem hi] at this
  simpa using this
theorem idxV_lt (l : List U) (a : Int) : idxV l a < l.length := by
  unfold idxV
  cases h : idx l a with
  | none => show (-1 : Int) < _; omega
  | some k => have := (idx_some h).1; show (k : Int) < _; omega
theorem below_le (l : List U) (a : Nat) : below l a ≤ l.length := (List.takeWhile_sublist _).length_le
/-- The first that does not lie below. -/
theorem below_here {l : List U} {a k : Nat} (hk : k ≤ l.length) (hb : ∀ j, j < k → (at_ l j).1 < a) (hs : k < l.length → ¬ (at_ l k).1 < a) : below l a = k := by
  induction l generalizing k with
  | nil => have : k = 0 := by simpa using hk
           subst this; rfl
  | cons u l ih =>
    unfold below
    cases k with
    | zero =>
      have := hs (by simp)
      have h2 : ¬ u.1 < a := this
      rw [List.takeWhile_cons, if_neg (by simpa using h2)]
      rfl
    | succ k =>
      have h1 : u.1 < a := hb 0 (by omega)
      rw [List.takeWhile_cons, if_pos (by simpa using h1), List.length_cons]
      have := ih (k := k) (by simpa using hk) (fun j hj => hb (j + 1) (by omega)) (fun h => hs (by simpa using h))
      unfold below at this
      rw [this]
theorem setU_len (l : List U) (k m : Nat) : (setU l k m).length = l.length := by unfold setU; rw [List.length_set]
theorem ins_len (l : List U) (a n : Nat) : (ins l a n).length = l.length + 1 := by
  unfold ins
  have := below_le l a
  rw [List.length_append, List.length_append, List.length_take, List.length_drop, List.length_singleton]
  omega
end Go.Proofs.Ytfiafgmlbejboaa.Sh
