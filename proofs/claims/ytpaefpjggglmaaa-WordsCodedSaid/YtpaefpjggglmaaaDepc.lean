/- What the program's Kraft, Cost and Lengths are held to (as hypotheses, to be met by its walks); the statements' own check that the program is awake. -/
import Derived.Test.YtpaefpjggglmaaaCounts
namespace Go.Proofs.Ytpaefpjggglmaaa
open Go.RowKit

def KraftC : Prop := ∀ (w : World) (l : List Int), l.length = 256 → Calls Try.prog 32 #[.agg (ints l)] w fun e w' => e = .returned (.tuple #[.int .i64 ((kraftV l).1 : Int), .bool (kraftV l).2]) ∧ Below w.heap.size w w'
def LengthsC (F : List Int → List Int × Bool) : Prop := ∀ (w : World) (c : List Int), c.length = 256 → Calls Try.prog 17 #[.agg (ints c)] w fun e w' => e = .returned (.tuple #[.agg (ints (F c).1), .bool (F c).2]) ∧ Below w.heap.size w w'
/-- How many counts are greater than nought. -/
def used (c : List Int) : Nat := c.countP fun x => decide (0 < x)
structure LensOk (F : List Int → List Int × Bool) : Prop where
  len : ∀ c : List Int, c.length = 256 → (F c).1.length = 256
  bad : ∀ c : List Int, c.length = 256 → c.any cbad = true → F c = (List.replicate 256 0, false)
  ok : ∀ c : List Int, c.length = 256 → c.any cbad = false → (F c).2 = true
  pos : ∀ c : List Int, c.length = 256 → c.any cbad = false → ∀ i, i < 256 → (0 < (F c).1.getD i 0 ↔ 0 < c.getD i 0)
  rng : ∀ c : List Int, c.length = 256 → c.any cbad = false → ∀ i, i < 256 → 0 ≤ (F c).1.getD i 0 ∧ (F c).1.getD i 0 ≤ 11
  one : ∀ c : List Int, c.length = 256 → c.any cbad = false → used c = 1 → ksum (F c).1 = 1024
  full : ∀ c : List Int, c.length = 256 → c.any cbad = false → 2 ≤ used c → ksum (F c).1 = 2048
  mono : ∀ c : List Int, c.length = 256 → c.any cbad = false → ∀ i j, i < 256 → j < 256 → 0 < c.getD j 0 → c.getD j 0 < c.getD i 0 → (F c).1.getD i 0 ≤ (F c).1.getD j 0

/-- The counts of the check. -/
def cN (n : Nat) : List Int := ((List.replicate n (0 : Int)).set 97 1).set 98 5
def cA : List Int := cN 256
theorem cA_len : cA.length = 256 := by decide +kernel
theorem cA_ok : cA.any cbad = false := by decide +kernel
theorem cA_used : used cA = 2 := by decide +kernel
theorem cN_at {n i : Nat} (h : i < n) : (cN n).getD i 0 = if i = 97 then 1 else if i = 98 then 5 else 0 := by
  unfold cN
  rw [List.getD_eq_getElem?_getD, List.getElem?_set, List.getElem?_set, List.getElem?_replicate, List.length_set, List.length_replicate]
  by_cases h1 : i = 98
  · subst h1; simp [h]
  · by_cases h2 : i = 97
    · subst h2; simp [h]
    · simp [h1, h2, h, Ne.symm h1, Ne.symm h2]
theorem cA_at {i : Nat} (h : i < 256) : cA.getD i 0 = if i = 97 then 1 else if i = 98 then 5 else 0 := cN_at h
/-- A sum over lengths where all but two are nought. -/
theorem ksum_two : ∀ {l : List Int} {a b : Nat}, a < b → b < l.length → (∀ i, i < l.length → i ≠ a → i ≠ b → kterm (l.getD i 0) = 0) → ksum l = kterm (l.getD a 0) + kterm (l.getD b 0) := by
  intro l a b hab hb h
  have e : ∀ k, k ≤ l.length → ksum (l.take k) = (if a < k then kterm (l.getD a 0) else 0) + (if b < k then kterm (l.getD b 0) else 0) := by
    intro k
    induction k with
    | zero => intro _; simp [ksum]
    | succ k ih =>
      intro hk
      rw [ksum_next (by omega), ih (by omega)]
      by_cases h1 : k = a
      · subst h1
        rw [if_neg (by omega), if_neg (by omega), if_pos (by omega), if_neg (by omega)]; omega
      · by_cases h2 : k = b
        · subst h2
          rw [if_pos (by omega), if_neg (by omega), if_pos (by omega), if_pos (by omega)]; omega
        · rw [h k (by omega) h1 h2]
          by_cases h3 : a < k
          · rw [if_pos h3, if_pos (show a < k + 1 by omega)]
            by_cases h4 : b < k
            · rw [if_pos h4, if_pos (show b < k + 1 by omega)]; omega
            · rw [if_neg h4, if_neg (show ¬ b < k + 1 by omega)]
          · rw [if_neg h3, if_neg (show ¬ a < k + 1 by omega), if_neg (show ¬ b < k by omega), if_neg (show ¬ b < k + 1 by omega)]
  have := e l.length (Nat.le_refl _)
  rw [List.take_length, if_pos (by omega), if_pos (by omega)] at this
  exact this
theorem kterm_half (x : Int) : kterm x ≤ 1024 := by
  unfold kterm
  split
  · exact Nat.pow_le_pow_right (n := 2) (show 0 < 2 by decide) (show 11 - x.toNat ≤ 10 by omega)
  · decide
theorem kterm_is {x : Int} (h0 : 0 ≤ x) (h1 : x ≤ 11) (h : kterm x = 1024) : x = 1 := by
  obtain ⟨n, rfl⟩ : ∃ n : Nat, x = n := ⟨x.toNat, by omega⟩
  have hn : n ≤ 11 := by omega
  unfold kterm at h
  rw [Int.toNat_natCast] at h
  have : n = 0 ∨ n = 1 ∨ n = 2 ∨ n = 3 ∨ n = 4 ∨ n = 5 ∨ n = 6 ∨ n = 7 ∨ n = 8 ∨ n = 9 ∨ n = 10 ∨ n = 11 := by omega
  rcases this with rfl | rfl | rfl | rfl | rfl | rfl | rfl | rfl | rfl | rfl | rfl | rfl <;> first | rfl | (simp at h)
section
variable {F : List Int → List Int × Bool}
theorem lens_kraft (hF : LensOk F) {c : List Int} (hc : c.length = 256) (hb : c.any cbad = false) : kraftV (F c).1 = (ksum (F c).1, true) := by
  unfold kraftV
  rw [if_neg]
  intro h
  rw [List.any_eq_true] at h
  obtain ⟨x, hx, hk⟩ := h
  obtain ⟨i, hi, rfl⟩ := List.mem_iff_getElem.1 hx
  have := hF.rng c hc hb i (by rw [hF.len c hc] at hi; exact hi)
  rw [List.getD_eq_getElem?_getD, List.getElem?_eq_getElem hi] at this
  simp only [Option.getD_some] at this
  unfold kbad at hk
  simp at hk
  omega
theorem awake_lens (hF : LensOk F) : (F cA).1.getD 97 0 = 1 ∧ (F cA).1.getD 98 0 = 1 ∧ (kraftV (F cA).1) = (2048, true) ∧ costV cA (F cA).1 = 6 := by
  have hl := hF.len cA cA_len
  have hz : ∀ i, i < 256 → i ≠ 97 → i ≠ 98 → (F cA).1.getD i 0 = 0 := fun i hi h1 h2 => by
    have hp := hF.pos cA cA_len cA_ok i hi
    rw [cA_at hi, if_neg h1, if_neg h2] at hp
    have := hF.rng cA cA_len cA_ok i hi
    omega
  have hfull := hF.full cA cA_len cA_ok (by rw [cA_used]; exact Nat.le_refl _)
  have hs := ksum_two (l := (F cA).1) (a := 97) (b := 98) (by decide) (by omega) (fun i hi h1 h2 => by rw [hz i (by omega) h1 h2]; rfl)
  have r1 := hF.rng cA cA_len cA_ok 97 (by decide)
  have r2 := hF.rng cA cA_len cA_ok 98 (by decide)
  have k1 := kterm_half ((F cA).1.getD 97 0)
  have k2 := kterm_half ((F cA).1.getD 98 0)
  have e1 := kterm_is r1.1 r1.2 (by omega)
  have e2 := kterm_is r2.1 r2.2 (by omega)
  have hk : kraftV (F cA).1 = (2048, true) := by rw [lens_kraft hF cA_len cA_ok, hfull]
  refine ⟨e1, e2, hk, ?_⟩
  unfold costV
  rw [hk, if_pos ⟨rfl, cA_ok⟩]
  have e : ∀ k, k ≤ 256 → csum cA (F cA).1 k = (if 97 < k then 1 else 0) + (if 98 < k then 5 else 0) := by
    intro k
    induction k with
    | zero => intro _; rfl
    | succ k ih =>
      intro hk'
      unfold csum
      have hcb : cbad (cA.getD k 0) ≠ true := fun h => by
        rw [cA_at (by omega)] at h
        unfold cbad at h
        split at h
        · simp at h
        · split at h <;> simp at h
      rw [if_neg hcb, ih (by omega), cA_at (by omega)]
      by_cases h1 : k = 97
      · subst h1; rw [e1]; simp
      · by_cases h2 : k = 98
        · subst h2; rw [e2]; simp
        · rw [if_neg h1, if_neg h2]
          by_cases h3 : 97 < k
          · rw [if_pos h3, if_pos (show 97 < k + 1 by omega)]
            by_cases h4 : 98 < k
            · rw [if_pos h4, if_pos (show 98 < k + 1 by omega)]; omega
            · omega
          · rw [if_neg h3, if_neg (show ¬ 97 < k + 1 by omega), if_neg (show ¬ 98 < k by omega), if_neg (show ¬ 98 < k + 1 by omega)]; omega
  have := e 256 (Nat.le_refl _)
  rw [this]; rfl
end

end Go.Proofs.Ytpaefpjggglmaaa
