/- The document's Cost. -/
import Derived.Test.YtpaefpjggglmaaaRkraft
namespace Go.Proofs.Ytpaefpjggglmaaa
open Go.RowKit

def cbad (x : Int) : Bool := decide (x < 0) || decide (1048576 < x)
/-- What the loop has added up: counts that may not be are left out. -/
def csum (c l : List Int) : Nat → Int
  | 0 => 0
  | k + 1 => if cbad (c.getD k 0) then csum c l k else csum c l k + c.getD k 0 * l.getD k 0
def costV (c l : List Int) : Int := if (kraftV l).2 = true ∧ c.any cbad = false then csum c l 256 else 0
theorem cbad_next {l : List Int} {i : Nat} (h : i < l.length) : (l.take (i + 1)).any cbad = ((l.take i).any cbad || cbad (l.getD i 0)) := by
  rw [take_snoc h, List.any_append]; simp

theorem kraft_each {l : List Int} (h : (kraftV l).2 = true) {k : Nat} (hk : k < l.length) : 0 ≤ l.getD k 0 ∧ l.getD k 0 ≤ 11 := by
  have hn : kbad (l.getD k 0) ≠ true := fun hb => by
    have := kbad_one hk hb
    unfold kraftV at h
    rw [if_pos this] at h
    exact absurd h (by decide)
  generalize l.getD k 0 = x at *
  unfold kbad at hn
  simp at hn
  omega
theorem cbad_no {x : Int} (h : ¬ cbad x = true) : 0 ≤ x ∧ x ≤ 1048576 := by
  unfold cbad at h
  simp at h
  omega
theorem csum_bound {c l : List Int} (hl : l.length = 256) (h : (kraftV l).2 = true) : ∀ k, k ≤ 256 → 0 ≤ csum c l k ∧ csum c l k ≤ k * 11534336
  | 0, _ => by simp [csum]
  | k + 1, hk => by
    have ih := csum_bound (c := c) hl h k (by omega)
    have hb := kraft_each h (k := k) (by omega)
    unfold csum
    split
    · omega
    · rename_i hc
      have hc' := cbad_no hc
      obtain ⟨n, hn⟩ : ∃ n : Nat, l.getD k 0 = n := ⟨(l.getD k 0).toNat, by omega⟩
      obtain ⟨m, hm⟩ : ∃ m : Nat, c.getD k 0 = m := ⟨(c.getD k 0).toNat, by omega⟩
      rw [hn] at hb ⊢
      rw [hm] at hc' ⊢
      have h1 : m * n ≤ 1048576 * 11 := Nat.mul_le_mul (by omega) (by omega)
      have h2 : (m : Int) * (n : Int) = ((m * n : Nat) : Int) := by simp
      rw [h2]
      omega

end Go.Proofs.Ytpaefpjggglmaaa
