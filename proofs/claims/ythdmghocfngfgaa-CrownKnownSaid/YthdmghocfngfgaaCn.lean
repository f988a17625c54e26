/- The superblock, plain: whether a crown is valid, its bytes, what bytes say, which of two blocks counts. -/
import Derived.Test.YthdmghocfngfgaaLe0
import Derived.Test.YthdmghocfngfgaaUpd
import Derived.Test.YthdmghocfngfgaaCrc
import Derived.Test.YthdmghocfngfgaaFixw
namespace Go.Proofs.Ythdmghocfngfgaa.Cn
open Crc Flt

/-- A crown: generation, blocks, sectors, the gain's bits, place, blocks and generation of the root's frame, height. -/
structure C where
  gen : Int
  bl : Int
  se : Int
  gain : Nat
  at_ : Int
  n : Int
  kg : Int
  ht : Int

/-- Whether it is valid. -/
def Ok (c : C) : Prop := 1 ≤ c.gen ∧ c.gen ≤ 268435455 ∧ 64 ≤ c.bl ∧ c.bl ≤ 8192 ∧ 1 ≤ c.se ∧ c.se ≤ 512 ∧ fixB c.gain = c.gain ∧ 0 ≤ c.ht ∧ c.ht ≤ 5 ∧ 0 ≤ c.kg ∧ c.kg ≤ c.gen ∧ 1 ≤ c.n ∧ c.n ≤ 128 ∧ 2 ≤ c.at_ ∧ c.at_ ≤ c.bl - c.n
instance (c : C) : Decidable (Ok c) := by unfold Ok; infer_instance
def okB (c : C) : Bool := decide (Ok c)

/-- Eight bytes of a number, the lowest first. -/
def le8 (x : Nat) : List Nat := le4 x ++ le4 (x / 4294967296)
def g8 (l : List Nat) (k : Nat) : Nat := g4 l k + g4 l (k + 4) * 4294967296

/-- All but the sum. -/
def body (c : C) : List Nat := [192, 158] ++ (le4 c.gen.toNat ++ (le4 c.bl.toNat ++ (le4 c.se.toNat ++ (le4 c.at_.toNat ++ (le4 c.n.toNat ++ (le4 c.kg.toNat ++ (le4 c.ht.toNat ++ (le8 c.gain ++ List.replicate 22 0))))))))
def enc (c : C) : List Nat := body c ++ le4 (sum (body c))

/-- What bytes say. -/
def fields (l : List Nat) : C := ⟨g4 l 2, g4 l 6, g4 l 10, g8 l 30, g4 l 14, g4 l 18, g4 l 22, g4 l 26⟩
/-- Why they are no crown. -/
def decE (l : List Nat) : Nat :=
  if l.length ≠ 64 then 1 else if g4 l 60 ≠ sum (l.take 60) then 5
  else if l.getD 0 0 = 192 ∧ l.getD 1 0 = 158 ∧ Ok (fields l) ∧ blankB ((l.drop 38).take 22) = true then 0 else 4
def blank (l : List Nat) : Bool := decide (l.length = 64) && blankB l

/-- The current crown: which block's (0, 1), or why none. -/
def chooseE (a b : List Nat) : Nat × Nat :=
  if blank a = true ∧ blank b = true then (0, 8)
  else if blank b = true ∧ decE a = 0 ∧ (fields a).gen = 1 then (0, 0)
  else if blank a = true ∧ decE b = 0 ∧ (fields b).gen = 1 then (1, 0)
  else if decE a ≠ 0 ∨ decE b ≠ 0 then (0, 5)
  else if (fields a).gen = (fields b).gen then (0, 4)
  else if (fields b).gen < (fields a).gen then (0, 0) else (1, 0)

theorem le8_len (x : Nat) : (le8 x).length = 8 := rfl
theorem le8_lt (x : Nat) : ∀ c ∈ le8 x, c < 256 := by
  intro c hc
  rcases List.mem_append.1 hc with h | h
  · exact le4_lt _ c h
  · exact le4_lt _ c h
theorem body_len (c : C) : (body c).length = 60 := by
  unfold body
  simp only [List.length_append, le4_len, le8_len, List.length_replicate, List.length_cons, List.length_nil]
theorem body_lt (c : C) : ∀ x ∈ body c, x < 256 := by
  intro x hx
  unfold body at hx
  simp only [List.mem_append, List.mem_replicate, List.mem_cons, List.not_mem_nil, or_false] at hx
  rcases hx with (h | h) | h | h | h | h | h | h | h | h | ⟨_, h⟩
  · omega
  · omega
  all_goals first
    | exact le4_lt _ _ h
    | exact le8_lt _ _ h
    | omega
theorem enc_len (c : C) : (enc c).length = 64 := by unfold enc; rw [List.length_append, body_len, le4_len]
theorem enc_lt (c : C) : ∀ x ∈ enc c, x < 256 := by
  intro x hx
  rcases List.mem_append.1 hx with h | h
  · exact body_lt c x h
  · exact le4_lt _ x h
theorem enc_take (c : C) : (enc c).take 60 = body c := by
  unfold enc
  rw [← body_len c, List.take_left']
  rfl
theorem sum_lt (l : List Nat) : sum l < 4294967296 := more_lt (by decide) l
theorem g4_at {x : Nat} (h : x < 4294967296) {a b : List Nat} {k : Nat} (hk : k = a.length) : g4 (a ++ (le4 x ++ b)) k = x := by
  subst hk; exact g4_le h a b
theorem enc_sum (c : C) : g4 (enc c) 60 = sum ((enc c).take 60) := by
  rw [enc_take]
  have := g4_at (sum_lt (body c)) (a := body c) (b := []) (k := 60) (body_len c).symm
  rwa [List.append_nil] at this
theorem enc_num {c : C} {x : Nat} (hx : x < 4294967296) {a b : List Nat} {k : Nat} (h : enc c = a ++ (le4 x ++ b)) (hk : k = a.length) : g4 (enc c) k = x := by
  rw [h]; exact g4_at hx hk
theorem g8_at {x : Nat} (h : x < 18446744073709551616) {a b : List Nat} {k : Nat} (hk : k = a.length) : g8 (a ++ (le8 x ++ b)) k = x := by
  unfold g8 le8
  have h1 : g4 (a ++ ((le4 x ++ le4 (x / 4294967296)) ++ b)) k = x % 4294967296 := by
    have e : le4 x = le4 (x % 4294967296) := by unfold le4; congr 1; omega; congr 1; omega; congr 1; omega; congr 1; omega
    rw [List.append_assoc, e]
    exact g4_at (Nat.mod_lt _ (by decide)) hk
  have h2 : g4 (a ++ ((le4 x ++ le4 (x / 4294967296)) ++ b)) (k + 4) = x / 4294967296 := by
    rw [List.append_assoc, ← List.append_assoc a]
    exact g4_at (by omega) (by rw [List.length_append, le4_len, hk])
  rw [h1, h2]
  omega

theorem fields_enc {c : C} (h : Ok c) (hg : c.gain < 18446744073709551616) : fields (enc c) = c := by
  obtain ⟨a1, a2, a3, a4, a5, a6, a7, a8, a9, b1, b2, b3, b4, b5, b6⟩ := h
  have e : enc c = body c ++ le4 (sum (body c)) := rfl
  generalize le4 (sum (body c)) = s at e
  unfold body at e
  have f1 : ((g4 (enc c) 2 : Nat) : Int) = c.gen := by
    have : g4 (enc c) 2 = c.gen.toNat % 256 + c.gen.toNat / 256 % 256 * 256 + c.gen.toNat / 65536 % 256 * 65536 + c.gen.toNat / 16777216 % 256 * 16777216 := by rw [e]; rfl
    rw [this]
    omega
  have f2 : ((g4 (enc c) 6 : Nat) : Int) = c.bl := by
    have : g4 (enc c) 6 = c.bl.toNat % 256 + c.bl.toNat / 256 % 256 * 256 + c.bl.toNat / 65536 % 256 * 65536 + c.bl.toNat / 16777216 % 256 * 16777216 := by rw [e]; rfl
    rw [this]
    omega
  have f3 : ((g4 (enc c) 10 : Nat) : Int) = c.se := by
    have : g4 (enc c) 10 = c.se.toNat % 256 + c.se.toNat / 256 % 256 * 256 + c.se.toNat / 65536 % 256 * 65536 + c.se.toNat / 16777216 % 256 * 16777216 := by rw [e]; rfl
    rw [this]
    omega
  have f4 : ((g4 (enc c) 14 : Nat) : Int) = c.at_ := by
    have : g4 (enc c) 14 = c.at_.toNat % 256 + c.at_.toNat / 256 % 256 * 256 + c.at_.toNat / 65536 % 256 * 65536 + c.at_.toNat / 16777216 % 256 * 16777216 := by rw [e]; rfl
    rw [this]
    omega
  have f5 : ((g4 (enc c) 18 : Nat) : Int) = c.n := by
    have : g4 (enc c) 18 = c.n.toNat % 256 + c.n.toNat / 256 % 256 * 256 + c.n.toNat / 65536 % 256 * 65536 + c.n.toNat / 16777216 % 256 * 16777216 := by rw [e]; rfl
    rw [this]
    omega
  have f6 : ((g4 (enc c) 22 : Nat) : Int) = c.kg := by
    have : g4 (enc c) 22 = c.kg.toNat % 256 + c.kg.toNat / 256 % 256 * 256 + c.kg.toNat / 65536 % 256 * 65536 + c.kg.toNat / 16777216 % 256 * 16777216 := by rw [e]; rfl
    rw [this]
    omega
  have f7 : ((g4 (enc c) 26 : Nat) : Int) = c.ht := by
    have : g4 (enc c) 26 = c.ht.toNat % 256 + c.ht.toNat / 256 % 256 * 256 + c.ht.toNat / 65536 % 256 * 65536 + c.ht.toNat / 16777216 % 256 * 16777216 := by rw [e]; rfl
    rw [this]
    omega
  have f8 : g8 (enc c) 30 = c.gain := by
    have h1 : g4 (enc c) 30 = c.gain % 256 + c.gain / 256 % 256 * 256 + c.gain / 65536 % 256 * 65536 + c.gain / 16777216 % 256 * 16777216 := by rw [e]; rfl
    have h2 : g4 (enc c) 34 = c.gain / 4294967296 % 256 + c.gain / 4294967296 / 256 % 256 * 256 + c.gain / 4294967296 / 65536 % 256 * 65536 + c.gain / 4294967296 / 16777216 % 256 * 16777216 := by rw [e]; rfl
    unfold g8
    rw [h1, h2]
    omega
  unfold fields
  rw [f1, f2, f3, f4, f5, f6, f7, f8]
theorem enc_head (c : C) : (enc c).getD 0 0 = 192 ∧ (enc c).getD 1 0 = 158 := ⟨rfl, rfl⟩
theorem enc_rest (c : C) : ((enc c).drop 38).take 22 = List.replicate 22 0 := by
  unfold enc body
  simp only [List.append_assoc]
  rfl
theorem dec_zero {l : List Nat} (h : decE l = 0) : l.length = 64 ∧ g4 l 60 = sum (l.take 60) ∧ l.getD 0 0 = 192 ∧ l.getD 1 0 = 158 ∧ Ok (fields l) ∧ blankB ((l.drop 38).take 22) = true := by
  unfold decE at h
  by_cases h1 : l.length ≠ 64
  · rw [if_pos h1] at h; exact absurd h (by decide)
  rw [if_neg h1] at h
  by_cases h2 : g4 l 60 ≠ sum (l.take 60)
  · rw [if_pos h2] at h; exact absurd h (by decide)
  rw [if_neg h2] at h
  by_cases h3 : l.getD 0 0 = 192 ∧ l.getD 1 0 = 158 ∧ Ok (fields l) ∧ blankB ((l.drop 38).take 22) = true
  · exact ⟨by omega, by omega, h3⟩
  · rw [if_neg h3] at h; exact absurd h (by decide)
theorem dec_enc {c : C} (h : Ok c) (hg : c.gain < 18446744073709551616) : decE (enc c) = 0 := by
  unfold decE
  rw [if_neg (by rw [enc_len]; simp), if_neg (by rw [enc_sum]; simp), if_pos ⟨(enc_head c).1, (enc_head c).2, by rw [fields_enc h hg]; exact h, by rw [enc_rest]; decide⟩]
theorem enc_blank (c : C) : blank (enc c) = false := by
  unfold blank
  have : blankB (enc c) = false := by
    unfold blankB enc body
    simp
  rw [this, Bool.and_false]
theorem blank_zeros : blank (List.replicate 64 0) = true := by decide
theorem dec_zeros : decE (List.replicate 64 0) ≠ 0 := fun h => absurd (dec_zero h).2.2.1 (by decide)
theorem dec_len {l : List Nat} (h : decE l = 0) : l.length = 64 := (dec_zero h).1
theorem dec_ok {l : List Nat} (h : decE l = 0) : Ok (fields l) := (dec_zero h).2.2.2.2.1
/-- A blank block is no crown. -/
theorem dec_blank {l : List Nat} (h : blank l = true) : decE l ≠ 0 := by
  intro h0
  have h1 : l.getD 0 0 = 192 := (dec_zero h0).2.2.1
  have h2 : blankB l = true := by
    unfold blank at h
    simp only [Bool.and_eq_true] at h
    exact h.2
  cases l with
  | nil => simp at h1
  | cons x r =>
    unfold blankB at h2
    simp at h1 h2
    omega
theorem blank_len {l : List Nat} (h : blank l = true) : l.length = 64 := by
  unfold blank at h
  simp only [Bool.and_eq_true, decide_eq_true_eq] at h
  exact h.1
theorem gain_lt {l : List Nat} (hl : ∀ x ∈ l, x < 256) : (fields l).gain < 18446744073709551616 := by
  have h1 := g4_lt hl 30
  have h2 := g4_lt hl (30 + 4)
  unfold fields g8
  simp only
  omega
/-- A crown changed within four bytes, ahead of its sum or in it. -/
theorem enc_upd {c : C} {k m : Nat} (hk : k ≤ 56 ∨ k = 60) (h0 : 0 < m) (hm : m < 4294967296) : decE (upd (enc c) k m 4) = 5 := by
  have hlen : (upd (enc c) k m 4).length = 64 := by rw [upd_length, enc_len]
  unfold decE
  rw [if_neg (by rw [hlen]; simp), if_pos]
  have hb := body_len c
  rcases hk with hk | hk
  · unfold enc
    rw [upd_left _ _ _ _ (by omega), List.take_left' (by rw [upd_length, hb])]
    have h1 := g4_at (sum_lt (body c)) (a := upd (body c) k m 4) (b := []) (k := 60) (by rw [upd_length, hb])
    rw [List.append_nil] at h1
    rw [h1]
    exact upd_ne (body_lt c) (by omega) h0 hm
  · have e : k = (body c).length + 0 := by omega
    unfold enc
    rw [e, upd_right _ _ _ _ (by rw [le4_len]; decide), List.take_left' hb]
    intro h
    have h2 := sum_lt (body c)
    generalize sum (body c) = s at *
    have hu := upd_parts [] [] (s % 256) (s / 256 % 256) (s / 65536 % 256) (s / 16777216 % 256) m
    simp only [List.nil_append, List.append_nil, List.length_nil] at hu
    rw [show le4 s = [s % 256, s / 256 % 256, s / 65536 % 256, s / 16777216 % 256] from rfl, hu] at h
    have g : ∀ (L : List Nat) (i : Nat), (body c ++ L).getD (60 + i) 0 = L.getD i 0 := fun L i => by rw [← hb]; exact getD_at
    have g0 : ∀ L : List Nat, (body c ++ L).getD 60 0 = L.getD 0 0 := fun L => g L 0
    unfold g4 at h
    rw [g0, g, g, g] at h
    simp only [List.getD_cons_zero, List.getD_cons_succ] at h
    have b0 : s % 256 ^^^ m / 2 ^ 0 % 256 < 256 := Nat.xor_lt_two_pow (n := 8) (by omega) (by omega)
    have b1 : s / 256 % 256 ^^^ m / 2 ^ 8 % 256 < 256 := Nat.xor_lt_two_pow (n := 8) (by omega) (by omega)
    have b2 : s / 65536 % 256 ^^^ m / 2 ^ 16 % 256 < 256 := Nat.xor_lt_two_pow (n := 8) (by omega) (by omega)
    have b3 : s / 16777216 % 256 ^^^ m / 2 ^ 24 % 256 < 256 := Nat.xor_lt_two_pow (n := 8) (by omega) (by omega)
    have key : ∀ a b : Nat, a ^^^ b = a → b = 0 := fun a b h => by
      have : a ^^^ (a ^^^ b) = a ^^^ a := by rw [h]
      rwa [← Nat.xor_assoc, Nat.xor_self, Nat.zero_xor] at this
    have c0 : s % 256 ^^^ m / 2 ^ 0 % 256 = s % 256 := by omega
    have c1 : s / 256 % 256 ^^^ m / 2 ^ 8 % 256 = s / 256 % 256 := by omega
    have c2 : s / 65536 % 256 ^^^ m / 2 ^ 16 % 256 = s / 65536 % 256 := by omega
    have c3 : s / 16777216 % 256 ^^^ m / 2 ^ 24 % 256 = s / 16777216 % 256 := by omega
    have d0 := key _ _ c0
    have d1 := key _ _ c1
    have d2 := key _ _ c2
    have d3 := key _ _ c3
    omega
end Go.Proofs.Ythdmghocfngfgaa.Cn
