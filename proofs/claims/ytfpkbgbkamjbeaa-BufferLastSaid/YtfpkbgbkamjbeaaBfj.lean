/- BufferLast, walked. -/
import Derived.Test.YtfpkbgbkamjbeaaBfl
namespace Go.Proofs.Ytfpkbgbkamjbeaa
open Go.RowKit Go.Maps

section
variable (l : List Nat)
/-- What was done last to each sector, behind j rounds: 0 nothing, -1 a trim, i + 1 the write of round i. -/
def lastF : Nat → Nat → Int
  | 0, _ => 0
  | j + 1, s => if s = l.getD j 0 % 32 then (if l.getD j 0 / 32 % 2 = 1 then -1 else (j : Int) + 1) else lastF j s
def manyF (j : Nat) : Nat := (List.range 32).countP fun s => decide (lastF l j s ≠ 0)
theorem manyF_le (j : Nat) : manyF l j ≤ 32 := by
  have := List.countP_le_length (p := fun s => decide (lastF l j s ≠ 0)) (l := List.range 32)
  rw [List.length_range] at this
  exact this
theorem count_turn (f g : Nat → Bool) (s0 : Nat) (h : ∀ s, s ≠ s0 → g s = f s) (hf : f s0 = false) (hg : g s0 = true) : ∀ n, (List.range n).countP g = (List.range n).countP f + if s0 < n then 1 else 0
  | 0 => rfl
  | n + 1 => by
    rw [List.range_succ, List.countP_append, List.countP_append, count_turn f g s0 h hf hg n]
    simp only [List.countP_cons, List.countP_nil, Nat.zero_add]
    by_cases e : n = s0
    · subst e
      rw [hf, hg]
      simp
    · rw [h n e]
      by_cases h1 : s0 < n
      · have h2 : s0 < n + 1 := by omega
        simp only [h1, h2, if_true]; omega
      · have h2 : ¬ s0 < n + 1 := by omega
        simp only [h1, h2, if_false]; omega
theorem lastF_new (j : Nat) : lastF l (j + 1) (l.getD j 0 % 32) ≠ 0 := by
  rw [lastF, if_pos rfl]
  split <;> omega
theorem manyF_step (j : Nat) : manyF l (j + 1) = if lastF l j (l.getD j 0 % 32) = 0 then manyF l j + 1 else manyF l j := by
  have hlt : l.getD j 0 % 32 < 32 := Nat.mod_lt _ (by decide)
  by_cases h : lastF l j (l.getD j 0 % 32) = 0
  · rw [if_pos h]
    have := count_turn (fun s => decide (lastF l j s ≠ 0)) (fun s => decide (lastF l (j + 1) s ≠ 0)) (l.getD j 0 % 32) (fun s hs => by simp only [lastF, if_neg hs]) (by show decide (lastF l j (l.getD j 0 % 32) ≠ 0) = false; rw [h]; rfl) (decide_eq_true (lastF_new l j)) 32
    rw [if_pos hlt] at this
    exact this
  · rw [if_neg h]
    unfold manyF
    congr 1
    funext s
    by_cases e : s = l.getD j 0 % 32
    · subst e
      rw [decide_eq_true (lastF_new l j), decide_eq_true h]
    · simp only [lastF, if_neg e]
theorem lastF_range (j s : Nat) : lastF l j s = 0 ∨ lastF l j s = -1 ∨ ∃ i, i < j ∧ lastF l j s = (i : Int) + 1 := by
  induction j with
  | zero => exact .inl rfl
  | succ j ih =>
    rw [lastF]
    split
    · split
      · exact .inr (.inl rfl)
      · exact .inr (.inr ⟨j, Nat.lt_succ_self _, rfl⟩)
    · rcases ih with h | h | ⟨i, hi, h⟩
      · exact .inl h
      · exact .inr (.inl h)
      · exact .inr (.inr ⟨i, by omega, h⟩)
/-- A sector that bears a round's number. -/
def nb (i : Nat) : List Nat := zb.set 5 i
theorem nb_len (i : Nat) : (nb i).length = 128 := by rw [nb, List.length_set, zb_len]
theorem nb_lt {i : Nat} (h : i < 256) : ∀ x ∈ nb i, x < 256 := fun x hx => by
  rcases List.mem_or_eq_of_mem_set hx with h1 | h1
  · exact zb_lt x h1
  · omega
theorem nb_five (i : Nat) : (byts (nb i))[5]? = some (.int .u8 (i : Int)) := by
  unfold byts nb
  rw [List.getElem?_map, List.getElem?_set_self (by rw [zb_len]; decide)]
  rfl
/-- What is pending by then. -/
def lastP (x : Int) : Option (Option (List Nat)) := if x = 0 then none else if x = -1 then some none else some (some (nb (x - 1).toNat))
def stL (j : Nat) : Pend := fun y => if 0 ≤ y ∧ y < 32 then lastP (lastF l j y.toNat) else none
theorem stL_at (j s : Nat) (h : s < 32) : stL l j (s : Int) = lastP (lastF l j s) := by
  unfold stL
  rw [if_pos (by omega), Int.toNat_natCast]
theorem lastP_some (x : Int) : (lastP x).isSome = decide (x ≠ 0) := by
  unfold lastP
  by_cases h : x = 0
  · simp [h]
  · by_cases h1 : x = -1
    · simp [h1]
    · simp [h, h1]
theorem stL_zero : stL l 0 = fun _ => none := by
  funext y
  unfold stL
  split <;> rfl
theorem stL_step (j : Nat) (o : Option (List Nat)) (h : lastP (lastF l (j + 1) (l.getD j 0 % 32)) = some o) : setP (stL l j) ((l.getD j 0 % 32 : Nat) : Int) o = stL l (j + 1) := by
  have hlt : l.getD j 0 % 32 < 32 := Nat.mod_lt _ (by decide)
  funext y
  unfold setP
  by_cases e : y = ((l.getD j 0 % 32 : Nat) : Int)
  · rw [if_pos e, e, stL_at l (j + 1) _ hlt, h]
  · rw [if_neg e]
    unfold stL
    by_cases h1 : 0 ≤ y ∧ y < 32
    · rw [if_pos h1, if_pos h1, lastF, if_neg (by omega)]
    · rw [if_neg h1, if_neg h1]
theorem more_step (j : Nat) : more (stL l j) (manyF l j) ((l.getD j 0 % 32 : Nat) : Int) = manyF l (j + 1) := by
  have hlt : l.getD j 0 % 32 < 32 := Nat.mod_lt _ (by decide)
  rw [more, stL_at l j _ hlt, lastP_some, manyF_step]
  by_cases h : lastF l j (l.getD j 0 % 32) = 0
  · rw [if_pos h, h]; rfl
  · rw [if_neg h, decide_eq_true h]; rfl
def lastC (j : Nat) : Array Value := ((List.range 32).map fun s => Value.int .i64 (lastF l j s)).toArray
theorem lastC_get (j s : Nat) (h : s < 32) : (lastC l j)[s]? = some (.int .i64 (lastF l j s)) := by
  unfold lastC
  rw [List.getElem?_toArray, List.getElem?_map, List.getElem?_range h]
  rfl
theorem lastC_set (j : Nat) (x : Int) (h : lastF l (j + 1) (l.getD j 0 % 32) = x) : (lastC l j).setIfInBounds (l.getD j 0 % 32) (.int .i64 x) = lastC l (j + 1) := by
  apply Array.ext_getElem?
  intro s
  rw [Array.getElem?_setIfInBounds]
  by_cases hs : s < 32
  · rw [lastC_get l (j + 1) s hs]
    by_cases e : l.getD j 0 % 32 = s
    · rw [if_pos e, if_pos (by simp [lastC]; exact Nat.mod_lt _ (by decide)), ← e, h]
    · rw [if_neg e, lastC_get l j s hs, lastF, if_neg (Ne.symm e)]
  · have hn : ∀ k, (lastC l k)[s]? = none := fun k => by simp [lastC]; omega
    have hlt : l.getD j 0 % 32 < 32 := Nat.mod_lt _ (by decide)
    rw [if_neg (by omega), hn, hn]
theorem lastC_zero : lastC l 0 = (List.replicate 32 (Value.int .i64 0)).toArray := by
  unfold lastC
  congr 1
end
end Go.Proofs.Ytfpkbgbkamjbeaa
