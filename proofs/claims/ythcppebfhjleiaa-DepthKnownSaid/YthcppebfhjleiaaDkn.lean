/- The lengths of the counts of DepthKnown and DepthSame (no walk). -/
import Derived.Test.YthcppebfhjleiaaDlens
namespace Go.Proofs.Ythcppebfhjleiaa
open Go.RowKit

def sumN (f : Nat → Int) : Nat → Int
  | 0 => 0
  | k + 1 => sumN f k + f k
theorem sumN_three {f : Nat → Int} {a b c n : Nat} (hab : a < b) (hbc : b < c) (hcn : c < n) (h : ∀ i, i < n → i ≠ a → i ≠ b → i ≠ c → f i = 0) : sumN f n = f a + f b + f c := by
  have e : ∀ k, k ≤ n → sumN f k = (if a < k then f a else 0) + (if b < k then f b else 0) + (if c < k then f c else 0) := by
    intro k
    induction k with
    | zero => intro _; simp [sumN]
    | succ k ih =>
      intro hk
      rw [sumN, ih (by omega)]
      by_cases h1 : k = a
      · subst h1; rw [if_neg (by omega), if_neg (by omega), if_neg (by omega), if_pos (by omega), if_neg (by omega), if_neg (by omega)]; omega
      by_cases h2 : k = b
      · subst h2; rw [if_pos (by omega), if_neg (by omega), if_neg (by omega), if_pos (by omega), if_pos (by omega), if_neg (by omega)]; omega
      by_cases h3 : k = c
      · subst h3; rw [if_pos (by omega), if_pos (by omega), if_neg (by omega), if_pos (by omega), if_pos (by omega), if_pos (by omega)]; omega
      rw [h k (by omega) h1 h2 h3, Int.add_zero]
      have e1 : (a < k) = (a < k + 1) := propext ⟨fun h => by omega, fun h => by omega⟩
      have e2 : (b < k) = (b < k + 1) := propext ⟨fun h => by omega, fun h => by omega⟩
      have e3 : (c < k) = (c < k + 1) := propext ⟨fun h => by omega, fun h => by omega⟩
      simp only [e1, e2, e3]
  rw [e n (Nat.le_refl _), if_pos (by omega), if_pos (by omega), if_pos (by omega)]
theorem sumN_one {f : Nat → Int} {a n : Nat} (han : a < n) (h : ∀ i, i < n → i ≠ a → f i = 0) : sumN f n = f a := by
  have e : ∀ k, k ≤ n → sumN f k = (if a < k then f a else 0) := by
    intro k
    induction k with
    | zero => intro _; simp [sumN]
    | succ k ih =>
      intro hk
      rw [sumN, ih (by omega)]
      by_cases h1 : k = a
      · subst h1; rw [if_neg (by omega), if_pos (by omega)]; omega
      · rw [h k (by omega) h1, Int.add_zero]
        have e1 : (a < k) = (a < k + 1) := propext ⟨fun h => by omega, fun h => by omega⟩
        simp only [e1]
  rw [e n (Nat.le_refl _), if_pos han]
theorem ksum_sumN (l : List Int) : ∀ k, k ≤ l.length → ((ksum (l.take k) : Nat) : Int) = sumN (fun i => ((kterm (l.getD i 0) : Nat) : Int)) k
  | 0, _ => by simp [sumN, ksum]
  | k + 1, h => by
    rw [ksum_next (by omega), sumN, ← ksum_sumN l k (by omega)]
    omega
theorem ksum_is (l : List Int) : ((ksum l : Nat) : Int) = sumN (fun i => ((kterm (l.getD i 0) : Nat) : Int)) l.length := by
  rw [← ksum_sumN l l.length (Nat.le_refl _), List.take_length]
theorem csum_sumN {c l : List Int} (hc : c.length = 256) (h : c.any cbad = false) : ∀ k, k ≤ 256 → csum c l k = sumN (fun i => c.getD i 0 * l.getD i 0) k
  | 0, _ => rfl
  | k + 1, hk => by
    have hb : cbad (c.getD k 0) ≠ true := fun hb => by
      rw [List.any_eq_false] at h
      exact h (c.getD k 0) (by rw [List.getD_eq_getElem?_getD, List.getElem?_eq_getElem (by omega)]; exact List.getElem_mem _) hb
    rw [csum, if_neg hb, csum_sumN hc h k (by omega), sumN]
section
variable {F : List Int → List Int × Bool}
theorem lens_zero (hF : LensOk F) {c : List Int} (hc : c.length = 256) (hb : c.any cbad = false) {i : Nat} (hi : i < 256) (h0 : c.getD i 0 = 0) : (F c).1.getD i 0 = 0 := by
  have hp := hF.pos c hc hb i hi
  have hr := hF.rng c hc hb i hi
  rw [h0] at hp
  omega

/-- One byte. -/
def cOne : List Int := (List.replicate 256 (0 : Int)).set 120 7
theorem cOne_len : cOne.length = 256 := by decide +kernel
theorem cOne_ok : cOne.any cbad = false := by decide +kernel
theorem cOne_used : used cOne = 1 := by decide +kernel
theorem cOne_at : ∀ i, i < 256 → i ≠ 120 → cOne.getD i 0 = 0 := by decide +kernel
theorem one_len (hF : LensOk F) : (F cOne).1.getD 120 0 = 1 := by
  have hl := hF.len cOne cOne_len
  have hk := hF.one cOne cOne_len cOne_ok cOne_used
  have hs := ksum_is (F cOne).1
  rw [hl, sumN_one (a := 120) (by decide) (fun i hi hne => by rw [lens_zero hF cOne_len cOne_ok hi (cOne_at i hi hne)]; rfl)] at hs
  have hr := hF.rng cOne cOne_len cOne_ok 120 (by decide)
  exact kterm_is hr.1 hr.2 (by omega)
/-- Three bytes. -/
def cThree : List Int := (((List.replicate 256 (0 : Int)).set 97 4).set 98 2).set 99 1
theorem cThree_len : cThree.length = 256 := by decide +kernel
theorem cThree_ok : cThree.any cbad = false := by decide +kernel
theorem cThree_used : used cThree = 3 := by decide +kernel
theorem cThree_at : ∀ i, i < 256 → i ≠ 97 → i ≠ 98 → i ≠ 99 → cThree.getD i 0 = 0 := by decide +kernel
theorem cThree_vals : cThree.getD 97 0 = 4 ∧ cThree.getD 98 0 = 2 ∧ cThree.getD 99 0 = 1 := by decide +kernel
theorem kterm_nat (n : Nat) : kterm (n : Int) = if 0 < n then 2 ^ (11 - n) else 0 := by
  unfold kterm
  rw [Int.toNat_natCast]
  by_cases h : 0 < n
  · rw [if_pos h, if_pos (by omega)]
  · rw [if_neg h, if_neg (by omega)]
theorem three_only {a b c : Nat} (ha : a < 12) (hb : b < 12) (hc : c < 12) (h1 : a ≤ b) (h2 : b ≤ c) (h0 : 0 < a) (h : kterm ((a : Nat) : Int) + kterm ((b : Nat) : Int) + kterm ((c : Nat) : Int) = 2048) : a = 1 ∧ b = 2 ∧ c = 2 := by
  have all : ∀ a b c : Fin 12, (a.val ≤ b.val ∧ b.val ≤ c.val ∧ 0 < a.val ∧ kterm ((a.val : Nat) : Int) + kterm ((b.val : Nat) : Int) + kterm ((c.val : Nat) : Int) = 2048) → (a.val = 1 ∧ b.val = 2 ∧ c.val = 2) := by decide +kernel
  exact all ⟨a, ha⟩ ⟨b, hb⟩ ⟨c, hc⟩ ⟨h1, h2, h0, h⟩
theorem three_len (hF : LensOk F) : (F cThree).1.getD 97 0 = 1 ∧ (F cThree).1.getD 98 0 = 2 ∧ (F cThree).1.getD 99 0 = 2 ∧ costV cThree (F cThree).1 = 10 := by
  have hl := hF.len cThree cThree_len
  have hz : ∀ i, i < 256 → i ≠ 97 → i ≠ 98 → i ≠ 99 → (F cThree).1.getD i 0 = 0 := fun i hi h1 h2 h3 => lens_zero hF cThree_len cThree_ok hi (cThree_at i hi h1 h2 h3)
  have hk := hF.full cThree cThree_len cThree_ok (by rw [cThree_used]; decide)
  have hs := ksum_is (F cThree).1
  rw [hl, sumN_three (a := 97) (b := 98) (c := 99) (by decide) (by decide) (by decide) (fun i hi h1 h2 h3 => by rw [hz i hi h1 h2 h3]; rfl)] at hs
  obtain ⟨v1, v2, v3⟩ := cThree_vals
  have r1 := hF.rng cThree cThree_len cThree_ok 97 (by decide)
  have r2 := hF.rng cThree cThree_len cThree_ok 98 (by decide)
  have r3 := hF.rng cThree cThree_len cThree_ok 99 (by decide)
  have p1 := (hF.pos cThree cThree_len cThree_ok 97 (by decide)).2 (by rw [v1]; decide)
  have m1 := hF.mono cThree cThree_len cThree_ok 97 98 (by decide) (by decide) (by rw [v2]; decide) (by rw [v1, v2]; decide)
  have m2 := hF.mono cThree cThree_len cThree_ok 98 99 (by decide) (by decide) (by rw [v3]; decide) (by rw [v2, v3]; decide)
  have hc := csum_sumN (l := (F cThree).1) cThree_len cThree_ok 256 (Nat.le_refl _)
  rw [sumN_three (a := 97) (b := 98) (c := 99) (by decide) (by decide) (by decide) (fun i hi h1 h2 h3 => by rw [hz i hi h1 h2 h3, Int.mul_zero]), v1, v2, v3] at hc
  have hkv := lens_kraft hF cThree_len cThree_ok
  have hcost : costV cThree (F cThree).1 = csum cThree (F cThree).1 256 := by unfold costV; rw [hkv, if_pos ⟨rfl, cThree_ok⟩]
  obtain ⟨a, ha⟩ : ∃ a : Nat, (F cThree).1.getD 97 0 = a := ⟨((F cThree).1.getD 97 0).toNat, by omega⟩
  obtain ⟨b, hb⟩ : ∃ b : Nat, (F cThree).1.getD 98 0 = b := ⟨((F cThree).1.getD 98 0).toNat, by omega⟩
  obtain ⟨c, hc'⟩ : ∃ c : Nat, (F cThree).1.getD 99 0 = c := ⟨((F cThree).1.getD 99 0).toNat, by omega⟩
  rw [ha, hb, hc'] at hs hc
  rw [ha] at r1 p1 m1 ⊢
  rw [hb] at r2 m1 m2 ⊢
  rw [hc'] at r3 m2 ⊢
  obtain ⟨rfl, rfl, rfl⟩ := three_only (a := a) (b := b) (c := c) (by omega) (by omega) (by omega) (by omega) (by omega) (by omega) (by omega)
  refine ⟨rfl, rfl, rfl, ?_⟩
  rw [hcost, hc]; rfl
/-- Counts each of which is the sum of two others. -/
def fibP : Nat → Nat × Nat
  | 0 => (1, 1)
  | k + 1 => ((fibP k).2, (fibP k).1 + (fibP k).2)
theorem fib_le : ∀ k, k ≤ 24 → (fibP k).1 ≤ 200000 ∧ (fibP k).2 ≤ 200000 := by decide +kernel
def cDeep : Nat → List Int
  | 0 => List.replicate 256 0
  | k + 1 => (cDeep k).set k ((fibP k).1 : Nat)
theorem cDeep_len : ∀ k, (cDeep k).length = 256
  | 0 => List.length_replicate
  | k + 1 => by rw [cDeep, List.length_set]; exact cDeep_len k
theorem cDeep_ok : (cDeep 24).any cbad = false := by decide +kernel
theorem cDeep_used : used (cDeep 24) = 24 := by decide +kernel
theorem deep_len (hF : LensOk F) : kraftV (F (cDeep 24)).1 = (2048, true) := by
  rw [lens_kraft hF (cDeep_len 24) cDeep_ok, hF.full _ (cDeep_len 24) cDeep_ok (by rw [cDeep_used]; decide)]
/-- A length that may not be. -/
def cBad : List Int := (List.replicate 256 (0 : Int)).set 3 12
theorem cBad_len : cBad.length = 256 := by decide +kernel
theorem bad_kraft : kraftV cBad = (0, false) := by decide +kernel
end
end Go.Proofs.Ythcppebfhjleiaa
