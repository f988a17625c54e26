/- Numbers in groups of seven bits: writing and reading them, as plain mathematics. -/
namespace Go.Proofs.Ytlcchefiicalpaa.Vint

/-- The bytes of a number. -/
def vint (x : Nat) : List Nat := if x < 128 then [x] else (x % 128 + 128) :: vint (x / 128)
termination_by x
decreasing_by omega

theorem vint_low {x : Nat} (h : x < 128) : vint x = [x] := by rw [vint, if_pos h]
theorem vint_high {x : Nat} (h : 128 ≤ x) : vint x = (x % 128 + 128) :: vint (x / 128) := by rw [vint, if_neg (by omega)]
theorem vint_byte (x : Nat) : ∀ d ∈ vint x, d < 256 := by
  induction x using Nat.strongRecOn with
  | ind x ih =>
    by_cases h : x < 128
    · rw [vint_low h]; intro d hd; simp at hd; omega
    · rw [vint_high (by omega)]
      intro d hd
      rcases List.mem_cons.1 hd with rfl | hd
      · omega
      · exact ih (x / 128) (by omega) d hd
theorem vint_pos (x : Nat) : 0 < (vint x).length := by
  by_cases h : x < 128
  · rw [vint_low h]; simp
  · rw [vint_high (by omega)]; simp
theorem vint_len {x : Nat} (h : x < 268435456) : (vint x).length ≤ 4 := by
  by_cases h1 : x < 128
  · rw [vint_low h1]; simp
  rw [vint_high (by omega)]
  by_cases h2 : x / 128 < 128
  · rw [vint_low h2]; simp
  rw [vint_high (by omega)]
  by_cases h3 : x / 128 / 128 < 128
  · rw [vint_low h3]; simp
  rw [vint_high (by omega), vint_low (by omega)]
  simp

/-- Reading: k groups are read, x is their number; r groups may still come. Value, bytes, error (2 short, 4 form). -/
def numF : Nat → Nat → Nat → List Nat → Nat × Nat × Nat
  | 0, _, _, _ => (0, 0, 4)
  | _ + 1, _, _, [] => (0, 0, 2)
  | r + 1, k, x, d :: l =>
    if 128 ≤ d then numF r (k + 1) (x + d % 128 * 2 ^ (7 * k)) l
    else if d = 0 ∧ 0 < k then (0, 0, 4)
    else (x + d % 128 * 2 ^ (7 * k), k + 1, 0)
def num (l : List Nat) : Nat × Nat × Nat := numF 4 0 0 l

theorem numF_err : ∀ {r k x : Nat} {l : List Nat}, (numF r k x l).2.2 ≠ 0 → (numF r k x l).1 = 0 ∧ (numF r k x l).2.1 = 0
  | 0, _, _, _, _ => ⟨rfl, rfl⟩
  | _ + 1, _, _, [], _ => ⟨rfl, rfl⟩
  | r + 1, k, x, d :: l, h => by
    unfold numF at h ⊢
    by_cases h1 : 128 ≤ d
    · rw [if_pos h1] at h ⊢; exact numF_err h
    · rw [if_neg h1] at h ⊢
      by_cases h2 : d = 0 ∧ 0 < k
      · rw [if_pos h2]; exact ⟨rfl, rfl⟩
      · rw [if_neg h2] at h; simp at h
theorem numF_code : ∀ {r k x : Nat} {l : List Nat}, (numF r k x l).2.2 = 0 ∨ (numF r k x l).2.2 = 2 ∨ (numF r k x l).2.2 = 4
  | 0, _, _, _ => .inr (.inr rfl)
  | _ + 1, _, _, [] => .inr (.inl rfl)
  | r + 1, k, x, d :: l => by
    unfold numF
    by_cases h1 : 128 ≤ d
    · rw [if_pos h1]; exact numF_code
    · rw [if_neg h1]
      by_cases h2 : d = 0 ∧ 0 < k
      · rw [if_pos h2]; exact .inr (.inr rfl)
      · rw [if_neg h2]; exact .inl rfl
theorem numF_size : ∀ {r k x : Nat} {l : List Nat}, (numF r k x l).2.2 = 0 → k < (numF r k x l).2.1 ∧ (numF r k x l).2.1 ≤ k + l.length ∧ (numF r k x l).2.1 ≤ k + r
  | 0, _, _, _, h => by simp [numF] at h
  | _ + 1, _, _, [], h => by simp [numF] at h
  | r + 1, k, x, d :: l, h => by
    unfold numF at h ⊢
    by_cases h1 : 128 ≤ d
    · rw [if_pos h1] at h ⊢
      have := numF_size h
      simp
      omega
    · rw [if_neg h1] at h ⊢
      by_cases h2 : d = 0 ∧ 0 < k
      · rw [if_pos h2] at h; simp at h
      · rw [if_neg h2]; simp
theorem numF_lt : ∀ {r k x : Nat} {l : List Nat}, x < 2 ^ (7 * k) → (numF r k x l).1 < 2 ^ (7 * (k + r))
  | 0, k, x, _, h => Nat.pow_pos (by decide)
  | _ + 1, _, _, [], _ => Nat.pow_pos (by decide)
  | r + 1, k, x, d :: l, h => by
    have hp : 2 ^ (7 * (k + 1)) = 2 ^ (7 * k) * 128 := by rw [show 7 * (k + 1) = 7 * k + 7 by omega, Nat.pow_add]
    have hd : d % 128 < 128 := Nat.mod_lt _ (by decide)
    have hx : x + d % 128 * 2 ^ (7 * k) < 2 ^ (7 * (k + 1)) := by
      rw [hp]
      have : d % 128 * 2 ^ (7 * k) ≤ 127 * 2 ^ (7 * k) := Nat.mul_le_mul_right _ (by omega)
      omega
    unfold numF
    by_cases h1 : 128 ≤ d
    · rw [if_pos h1]
      have := numF_lt (r := r) (l := l) hx
      rwa [show k + 1 + r = k + (r + 1) by omega] at this
    · rw [if_neg h1]
      by_cases h2 : d = 0 ∧ 0 < k
      · rw [if_pos h2]; exact Nat.pow_pos (by decide)
      · rw [if_neg h2]
        exact Nat.lt_of_lt_of_le hx (Nat.pow_le_pow_right (by decide) (by omega))
theorem num_lt (l : List Nat) : (num l).1 < 268435456 := numF_lt (r := 4) (k := 0) (x := 0) (l := l) (by decide)

/-- What was written is read, whatever follows. -/
theorem numF_vint : ∀ {r k x y : Nat} (l : List Nat), y < 2 ^ (7 * r) → 0 < r → (0 < k → 0 < y) → numF r k x (vint y ++ l) = (x + y * 2 ^ (7 * k), k + (vint y).length, 0)
  | 0, _, _, _, _, _, h0, _ => absurd h0 (by decide)
  | r + 1, k, x, y, l, h, _, hk => by
    have hp : 2 ^ (7 * (r + 1)) = 2 ^ (7 * r) * 128 := by rw [show 7 * (r + 1) = 7 * r + 7 by omega, Nat.pow_add]
    have hq : 2 ^ (7 * (k + 1)) = 2 ^ (7 * k) * 128 := by rw [show 7 * (k + 1) = 7 * k + 7 by omega, Nat.pow_add]
    by_cases h1 : y < 128
    · rw [vint_low h1]
      simp only [List.cons_append, List.nil_append, numF]
      rw [if_neg (by omega), if_neg (by omega), Nat.mod_eq_of_lt h1]
      simp
    · have hr : 0 < r := by
        rcases Nat.eq_zero_or_pos r with rfl | h2
        · simp at h; omega
        · exact h2
      rw [vint_high (by omega)]
      simp only [List.cons_append, numF]
      rw [if_pos (by omega), numF_vint (r := r) (y := y / 128) l (by omega) hr (by omega), Nat.add_mod_right, Nat.mod_mod, hq]
      have e : x + y % 128 * 2 ^ (7 * k) + y / 128 * (2 ^ (7 * k) * 128) = x + y * 2 ^ (7 * k) := by
        have := Nat.mod_add_div y 128
        calc x + y % 128 * 2 ^ (7 * k) + y / 128 * (2 ^ (7 * k) * 128) = x + (y % 128 + 128 * (y / 128)) * 2 ^ (7 * k) := by
              rw [Nat.add_mul, Nat.add_assoc, Nat.mul_comm (2 ^ (7 * k)) 128, ← Nat.mul_assoc, Nat.mul_comm (y / 128) 128]
          _ = _ := by rw [this]
      rw [e]
      simp
      omega
theorem num_vint {y : Nat} (l : List Nat) (h : y < 268435456) : num (vint y ++ l) = (y, (vint y).length, 0) := by
  have := numF_vint (r := 4) (k := 0) (x := 0) l (show y < 2 ^ (7 * 4) by simpa using h) (by decide) (by omega)
  simpa [num] using this

end Go.Proofs.Ytlcchefiicalpaa.Vint
