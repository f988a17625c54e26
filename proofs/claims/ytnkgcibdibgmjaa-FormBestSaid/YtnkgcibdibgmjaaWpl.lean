/- Canonical codes: no word begins with another; what is written so is read so (no walk). Words packed into bytes and read again; a byte behind, a bit that fills up, a byte less are told (no walk). The bytes of a code and its words, read: as they were; one byte more, a bit that fills up, one byte less (no walk). What Unpack says of a code's table and of words behind it: all of it, more, less, another bit (no walk). The program's code as lists: the bytes of each length, a word found by its number; which codes are allowed (no walk). -/
import Derived.Test.YtnkgcibdibgmjaaRunpw
namespace Go.Proofs.Ytnkgcibdibgmjaa.Wd
open Go.RowKit

/-- The Kraft sum of the lengths up to n. -/
def kn (n : Nat) (x : Int) : Nat := if 0 < x ∧ x ≤ (n : Int) then 2 ^ (11 - x.toNat) else 0
def ksn (n : Nat) (l : List Int) : Nat := (l.map (kn n)).sum
theorem kn_step (n : Nat) (x : Int) : kn (n + 1) x = kn n x + if x == ((n + 1 : Nat) : Int) then 2 ^ (10 - n) else 0 := by
  unfold kn
  by_cases h : x = ((n + 1 : Nat) : Int)
  · subst h
    have e : (((n + 1 : Nat) : Int) == ((n + 1 : Nat) : Int)) = true := by simp
    rw [e, if_pos ⟨by omega, by omega⟩, if_neg (by omega), if_pos rfl, Int.toNat_natCast, show 11 - (n + 1) = 10 - n by omega, Nat.zero_add]
  · have e : (x == ((n + 1 : Nat) : Int)) = false := by rw [beq_eq_false_iff_ne]; exact h
    rw [e]
    by_cases h2 : 0 < x ∧ x ≤ (n : Int)
    · rw [if_pos h2, if_pos ⟨h2.1, by omega⟩]; rfl
    · rw [if_neg h2, if_neg (by omega)]; rfl
theorem ksn_step (n : Nat) : ∀ l : List Int, ksn (n + 1) l = ksn n l + (l.countP fun x => x == ((n + 1 : Nat) : Int)) * 2 ^ (10 - n)
  | [] => by simp [ksn]
  | x :: l => by
    have ih := ksn_step n l
    unfold ksn at *
    rw [List.map_cons, List.sum_cons, List.map_cons, List.sum_cons, ih, kn_step, List.countP_cons]
    by_cases h : (x == ((n + 1 : Nat) : Int)) = true
    · rw [if_pos h, if_pos h, Nat.add_mul, Nat.one_mul]; omega
    · rw [if_neg h, if_neg h]; simp only [Nat.add_zero]; omega
theorem sum_noughts : ∀ l : List Int, 0 + (l.map fun _ => (0 : Nat)).sum = 0
  | [] => rfl
  | _ :: l => by rw [List.map_cons, List.sum_cons]; have := sum_noughts l; omega
theorem ksn_all {l : List Int} (h : ∀ x ∈ l, x ≤ 11) : ksn 11 l = ksum l := by
  unfold ksn ksum
  congr 1
  refine List.map_congr_left fun x hx => ?_
  have := h x hx
  unfold kn kterm
  by_cases h0 : 0 < x
  · rw [if_pos ⟨h0, by omega⟩, if_pos h0]
  · rw [if_neg (by omega), if_neg h0]
theorem cnt_full {l : List Int} (hl : l.length = 256) (n : Nat) : cnt l n 256 = l.countP fun x => x == (n : Int) := by
  unfold cnt
  rw [List.take_of_length_le (by omega)]
/-- The words up to length n take their share. -/
theorem first_ksn {l : List Int} (hl : l.length = 256) : ∀ n, n ≤ 10 → (first l n + cnt l (n + 1) 256) * 2 ^ (10 - n) = ksn (n + 1) l
  | 0, _ => by
    have h0 : ksn 0 l = 0 := by
      unfold ksn
      have : ∀ x : Int, kn 0 x = 0 := fun x => by unfold kn; rw [if_neg (by omega)]
      rw [show l.map (kn 0) = l.map fun _ => 0 from List.map_congr_left fun x _ => this x]
      have := sum_noughts l
      omega
    rw [ksn_step, h0, first, cnt_full hl]; simp
  | n + 1, hn => by
    have ih := first_ksn hl n (by omega)
    rw [ksn_step (n + 1), ← ih, first, ← cnt_full hl, Nat.add_mul, Nat.mul_assoc, ← Nat.pow_succ', show (10 - (n + 1)).succ = 10 - n by omega]
theorem first_top {l : List Int} (hl : l.length = 256) (hr : ∀ x ∈ l, x ≤ 11) (hk : ksum l ≤ 2048) : ∀ n, n ≤ 10 → first l n + cnt l (n + 1) 256 ≤ 2 ^ (n + 1) := by
  intro n hn
  have h1 := first_ksn hl n hn
  have h2 : ∀ m, n + 1 ≤ m → m ≤ 11 → ksn (n + 1) l ≤ ksn m l := by
    intro m hm
    induction m with
    | zero => omega
    | succ m ih =>
      intro hm11
      by_cases he : n + 1 = m + 1
      · rw [he]; exact Nat.le_refl _
      · have h := ih (by omega) (by omega)
        have e := ksn_step m l
        rw [e]
        exact Nat.le_trans h (Nat.le_add_right (ksn m l) _)
  have h3 := h2 11 (by omega) (by omega)
  rw [ksn_all hr, ← h1] at h3
  have h4 : (first l n + cnt l (n + 1) 256) * 2 ^ (10 - n) ≤ 2 ^ (n + 1) * 2 ^ (10 - n) := by
    rw [← Nat.pow_add, show n + 1 + (10 - n) = 11 by omega]
    omega
  exact Nat.le_of_mul_le_mul_right h4 (Nat.pow_pos (by decide))
theorem cnt_mono (l : List Int) (n : Nat) : ∀ {i j : Nat}, i ≤ j → cnt l n i ≤ cnt l n j := by
  intro i j h
  unfold cnt
  exact List.Sublist.countP_le (List.take_sublist_take_left h)
theorem cnt_lt {l : List Int} {n i j : Nat} (hi : i < l.length) (h : l.getD i 0 = (n : Int)) (hij : i < j) : cnt l n i < cnt l n j := by
  have h1 := cnt_hit hi h
  have h2 := cnt_mono l n (show i + 1 ≤ j from hij)
  omega
/-- Longer words begin behind the shorter ones. -/
theorem first_far (l : List Int) (a : Nat) : ∀ d, (first l a + cnt l (a + 1) 256) * 2 ^ (d + 1) ≤ first l (a + d + 1)
  | 0 => by rw [Nat.zero_add, Nat.pow_one]; exact Nat.le_refl _
  | d + 1 => by
    have ih := first_far l a d
    rw [show a + (d + 1) + 1 = (a + d + 1) + 1 by omega, first, Nat.pow_succ, ← Nat.mul_assoc]
    exact Nat.mul_le_mul_right 2 (Nat.le_trans ih (Nat.le_add_right _ _))
/-- The bits of a word, the first one first. -/
def wb (v : Nat) : Nat → List Nat
  | 0 => []
  | m + 1 => (v / 2 ^ m % 2) :: wb v m
theorem div_next (v m : Nat) : v / 2 ^ (m + 1) * 2 + v / 2 ^ m % 2 = v / 2 ^ m := by
  have : v / 2 ^ (m + 1) = v / 2 ^ m / 2 := by rw [Nat.pow_succ, Nat.div_div_eq_div_mul]
  rw [this]; omega
section
variable {l : List Int}
theorem code_at {i n : Nat} (hi : i < 256) (hn : l.getD i 0 = (n : Int)) (h1 : 1 ≤ n) (h11 : n ≤ 11) : (codes l).getD i 0 = ((first l (n - 1) + cnt l n i : Nat) : Int) := by
  unfold codes
  rw [asg_at _ _ _ hi, hn, if_pos ⟨by omega, .inl (by omega)⟩]
  unfold codeV
  rw [hn, Int.toNat_natCast]
theorem code_lt (hl : l.length = 256) {i n : Nat} (hi : i < 256) (hn : l.getD i 0 = (n : Int)) : first l (n - 1) + cnt l n i < first l (n - 1) + cnt l n 256 := by
  have := cnt_lt (l := l) (by omega) hn hi
  omega
theorem find_word (hl : l.length = 256) {i n : Nat} (hi : i < 256) (hn : l.getD i 0 = (n : Int)) (h1 : 1 ≤ n) (h11 : n ≤ 11) : findS l (codes l) n (first l (n - 1) + cnt l n i) = some i := by
  rw [findS_is]
  have hno : ∀ j, j ≤ i → findK l (codes l) n (first l (n - 1) + cnt l n i) j = none := by
    intro j
    induction j with
    | zero => intro _; rfl
    | succ j ih =>
      intro hj
      refine findK_miss (ih (by omega)) ?_
      unfold hit
      by_cases hjn : l.getD j 0 = (n : Int)
      · rw [code_at (by omega) hjn h1 h11]
        have := cnt_lt (l := l) (by omega) hjn (show j < i by omega)
        have e : ((((first l (n - 1) + cnt l n j : Nat)) : Int) == ((first l (n - 1) + cnt l n i : Nat) : Int)) = false := by rw [beq_eq_false_iff_ne]; omega
        rw [e, Bool.and_false]
      · have e : (l.getD j 0 == (n : Int)) = false := by rw [beq_eq_false_iff_ne]; exact hjn
        rw [e, Bool.false_and]
  refine findK_hit (hno i (Nat.le_refl _)) ?_ 256 hi
  unfold hit
  rw [code_at hi hn h1 h11, hn]
  simp
theorem find_none (hl : l.length = 256) {k word : Nat} (hk : 1 ≤ k) (hk11 : k ≤ 11) (h : first l (k - 1) + cnt l k 256 ≤ word) : findS l (codes l) k word = none := by
  rw [findS_is]
  have hno : ∀ j, j ≤ 256 → findK l (codes l) k word j = none := by
    intro j
    induction j with
    | zero => intro _; rfl
    | succ j ih =>
      intro hj
      refine findK_miss (ih (by omega)) ?_
      unfold hit
      by_cases hjn : l.getD j 0 = (k : Int)
      · rw [code_at (by omega) hjn hk hk11]
        have := code_lt hl (i := j) (by omega) hjn
        have e : ((((first l (k - 1) + cnt l k j : Nat)) : Int) == ((word : Nat) : Int)) = false := by rw [beq_eq_false_iff_ne]; omega
        rw [e, Bool.and_false]
      · have e : (l.getD j 0 == (k : Int)) = false := by rw [beq_eq_false_iff_ne]; exact hjn
        rw [e, Bool.false_and]
  exact hno 256 (Nat.le_refl _)
/-- A word is read. -/
theorem rdW_word (hl : l.length = 256) {i n U : Nat} (hi : i < 256) (hn : l.getD i 0 = (n : Int)) (h11 : n ≤ 11) (hU : U = 1 → n = 1) (rest : List Nat) :
    ∀ (m k : Nat), k + m = n → 1 ≤ k → rdW l (codes l) U (12 - k) k ((first l (n - 1) + cnt l n i) / 2 ^ (m + 1)) (wb (first l (n - 1) + cnt l n i) (m + 1) ++ rest) = (0, i, rest)
  | 0, k, hk, hk1 => by
    obtain rfl : k = n := by omega
    obtain ⟨f, hf⟩ : ∃ f, 12 - k = f + 1 := ⟨11 - k, by omega⟩
    rw [hf, wb, List.cons_append, rdW, div_next, Nat.pow_zero, Nat.div_one, find_word hl hi hn hk1 h11]
    rfl
  | m + 1, k, hk, hk1 => by
    obtain ⟨f, hf⟩ : ∃ f, 12 - k = f + 1 := ⟨11 - k, by omega⟩
    have ih := rdW_word hl hi hn h11 hU rest m (k + 1) (by omega) (by omega)
    rw [hf, wb, List.cons_append, rdW, div_next]
    have hfar := first_far l (k - 1) m
    rw [show k - 1 + 1 = k by omega, show k - 1 + m + 1 = n - 1 by omega] at hfar
    have hge : first l (k - 1) + cnt l k 256 ≤ (first l (n - 1) + cnt l n i) / 2 ^ (m + 1) := by
      rw [Nat.le_div_iff_mul_le (Nat.pow_pos (by decide))]
      exact Nat.le_trans hfar (Nat.le_add_right _ _)
    rw [find_none hl hk1 (by omega) hge]
    simp only
    rw [if_neg (by intro h; have := hU h; omega), show f = 12 - (k + 1) by omega]
    exact ih
end
end Go.Proofs.Ytnkgcibdibgmjaa.Wd

namespace Go.Proofs.Ytnkgcibdibgmjaa.Wd
open Go.RowKit

/-- The number that bits say, the first one the highest. -/
def num (bs : List Nat) : Nat := bs.foldl (fun a b => a * 2 + b) 0
theorem num_snoc (l : List Nat) (b : Nat) : num (l ++ [b]) = num l * 2 + b := by unfold num; rw [List.foldl_append]; rfl
theorem num_noughts (l : List Nat) : ∀ k, num (l ++ List.replicate k 0) = num l * 2 ^ k
  | 0 => by simp
  | k + 1 => by rw [List.replicate_succ', ← List.append_assoc, num_snoc, num_noughts l k, Nat.pow_succ, Nat.mul_assoc, Nat.add_zero]
theorem num_lt : ∀ l : List Nat, (∀ x ∈ l, x < 2) → num l < 2 ^ l.length := by
  intro l
  suffices h : ∀ l : List Nat, ∀ a n, a < 2 ^ n → (∀ x ∈ l, x < 2) → l.foldl (fun a b => a * 2 + b) a < 2 ^ (n + l.length) from fun hl => by
    have := h l 0 0 (by decide) hl
    rwa [Nat.zero_add] at this
  intro l
  induction l with
  | nil => intro a n ha _; exact ha
  | cons x l ih =>
    intro a n ha hx
    have hx0 := hx x (List.mem_cons_self ..)
    have := ih (a * 2 + x) (n + 1) (by rw [Nat.pow_succ]; omega) (fun y hy => hx y (List.mem_cons_of_mem _ hy))
    rw [List.foldl_cons, List.length_cons, show n + (l.length + 1) = n + 1 + l.length by omega]
    exact this
theorem bits8_num {l : List Nat} (h : l.length = 8) (hb : ∀ x ∈ l, x < 2) : bits8 (num l) = l := by
  match l, h with
  | [a, b, c, d, e, f, g, i], _ =>
    have ha := hb a (by simp)
    have h1 := hb b (by simp)
    have h2 := hb c (by simp)
    have h3 := hb d (by simp)
    have h4 := hb e (by simp)
    have h5 := hb f (by simp)
    have h6 := hb g (by simp)
    have h7 := hb i (by simp)
    clear hb
    have e0 : num [a, b, c, d, e, f, g, i] = a * 128 + b * 64 + c * 32 + d * 16 + e * 8 + f * 4 + g * 2 + i := by
      unfold num
      simp only [List.foldl_cons, List.foldl_nil]
      omega
    rw [e0]
    unfold bits8
    simp only [List.cons.injEq, and_true]
    refine ⟨?_, ?_, ?_, ?_, ?_, ?_, ?_, ?_⟩ <;> omega
theorem bitsB_snoc (l : List Nat) (x : Nat) : bitsB (l ++ [x]) = bitsB l ++ bits8 x := by unfold bitsB; rw [List.flatMap_append]; simp
theorem bits8_len (x : Nat) : (bits8 x).length = 8 := rfl
theorem bitsB_len : ∀ l : List Nat, (bitsB l).length = 8 * l.length
  | [] => rfl
  | x :: l => by
    have ih := bitsB_len l
    unfold bitsB at *
    rw [List.flatMap_cons, List.length_append, ih, bits8_len, List.length_cons]; omega
/-- What is written so far: whole bytes and the bits of the next one. -/
def push (s : List Nat × List Nat) (b : Nat) : List Nat × List Nat := if s.2.length = 7 then (s.1 ++ [num (s.2 ++ [b])], []) else (s.1, s.2 ++ [b])
def fin (s : List Nat × List Nat) : List Nat := if s.2.length = 0 then s.1 else s.1 ++ [num s.2 * 2 ^ (8 - s.2.length)]
/-- The state behind the bits so far. -/
structure Pk (bs : List Nat) (s : List Nat × List Nat) : Prop where
  bits : bitsB s.1 ++ s.2 = bs
  few : s.2.length ≤ 7
  two : ∀ x ∈ s.2, x < 2
theorem Pk.push {bs : List Nat} {s : List Nat × List Nat} (h : Pk bs s) {b : Nat} (hb : b < 2) : Pk (bs ++ [b]) (push s b) := by
  have h2 : ∀ x ∈ s.2 ++ [b], x < 2 := by
    intro x hx
    rcases List.mem_append.mp hx with hx | hx
    · exact h.two x hx
    · rw [List.mem_singleton] at hx; subst hx; exact hb
  unfold Wd.push
  by_cases h7 : s.2.length = 7
  · rw [if_pos h7]
    refine ⟨?_, by simp, by simp⟩
    rw [List.append_nil, bitsB_snoc, bits8_num (by rw [List.length_append, h7]; rfl) h2, ← List.append_assoc, h.bits]
  · rw [if_neg h7]
    refine ⟨?_, ?_, h2⟩
    · rw [← List.append_assoc, h.bits]
    · have := h.few
      rw [List.length_append, List.length_singleton]; omega
theorem Pk.pushes {bs : List Nat} {s : List Nat × List Nat} (h : Pk bs s) : ∀ {l : List Nat}, (∀ x ∈ l, x < 2) → Pk (bs ++ l) (l.foldl Wd.push s) := by
  intro l
  induction l generalizing bs s with
  | nil => intro _; rw [List.append_nil]; exact h
  | cons x l ih =>
    intro hl
    have := ih (h.push (hl x (List.mem_cons_self ..))) (fun y hy => hl y (List.mem_cons_of_mem _ hy))
    rw [List.append_assoc] at this
    exact this
theorem Pk.none : Pk [] ([], []) := ⟨rfl, by decide, by simp⟩
theorem Pk.len {bs : List Nat} {s : List Nat × List Nat} (h : Pk bs s) : s.2.length = bs.length % 8 := by
  have := congrArg List.length h.bits
  rw [List.length_append, bitsB_len] at this
  have := h.few
  omega
/-- The whole bytes read again: the bits, filled up with noughts. -/
theorem Pk.fin {bs : List Nat} {s : List Nat × List Nat} (h : Pk bs s) : bitsB (Wd.fin s) = bs ++ List.replicate ((8 - bs.length % 8) % 8) 0 := by
  have hl := h.len
  unfold Wd.fin
  by_cases h0 : s.2.length = 0
  · rw [if_pos h0]
    have e := h.bits
    rw [List.length_eq_zero_iff.mp h0, List.append_nil] at e
    rw [e, ← hl, h0]; simp
  · rw [if_neg h0]
    have := h.few
    have h2 : ∀ x ∈ s.2 ++ List.replicate (8 - s.2.length) 0, x < 2 := by
      intro x hx
      rcases List.mem_append.mp hx with hx | hx
      · exact h.two x hx
      · rw [(List.mem_replicate.mp hx).2]; decide
    rw [bitsB_snoc, ← num_noughts, bits8_num (by rw [List.length_append, List.length_replicate]; omega) h2, ← List.append_assoc, h.bits, ← hl,
      show (8 - s.2.length) % 8 = 8 - s.2.length by omega]
/-- Bits packed. -/
def packB (bs : List Nat) : List Nat := fin (bs.foldl push ([], []))
theorem packB_bits {bs : List Nat} (h : ∀ x ∈ bs, x < 2) : bitsB (packB bs) = bs ++ List.replicate ((8 - bs.length % 8) % 8) 0 := by
  have := (Pk.none.pushes h).fin
  rwa [List.nil_append] at this

theorem wb_two (v : Nat) : ∀ m, ∀ x ∈ wb v m, x < 2
  | 0 => by simp [wb]
  | m + 1 => by
    intro x hx
    rw [wb, List.mem_cons] at hx
    rcases hx with rfl | hx
    · exact Nat.mod_lt _ (by decide)
    · exact wb_two v m x hx
theorem wb_len (v : Nat) : ∀ m, (wb v m).length = m
  | 0 => rfl
  | m + 1 => by rw [wb, List.length_cons, wb_len v m]
/-- The word of a byte. -/
def wordOf (l : List Int) (i : Nat) : List Nat := wb (codeV l i) (l.getD i 0).toNat
/-- A byte that has a word in a code that can be read: lengths up to 11, Kraft's sum, a lone word of one bit. -/
structure Has (l : List Int) (i : Nat) : Prop where
  lt : i < 256
  one : 1 ≤ l.getD i 0
  most : l.getD i 0 ≤ 11
section
variable {l : List Int} (hl : l.length = 256) (hr : ∀ x ∈ l, x ≤ 11) (hk : ksum l ≤ 2048)
include hl hr hk
theorem code_top {i : Nat} (h : Has l i) : codeV l i < 2 ^ (l.getD i 0).toNat := by
  obtain ⟨n, hn⟩ : ∃ n : Nat, l.getD i 0 = (n : Int) := ⟨(l.getD i 0).toNat, by have := h.one; omega⟩
  have h1 := h.one
  have h2 := h.most
  rw [hn] at h1 h2
  have h3 := code_lt hl h.lt hn
  have h4 := first_top hl hr hk (n - 1) (by omega)
  rw [show n - 1 + 1 = n by omega] at h4
  unfold codeV
  rw [hn, Int.toNat_natCast]
  omega
theorem rdW_of {i U : Nat} (h : Has l i) (hU : U = 1 → l.getD i 0 = 1) (rest : List Nat) : rdW l (codes l) U 11 1 0 (wordOf l i ++ rest) = (0, i, rest) := by
  obtain ⟨n, hn⟩ : ∃ n : Nat, l.getD i 0 = (n : Int) := ⟨(l.getD i 0).toNat, by have := h.one; omega⟩
  have ht := code_top hl hr hk h
  have h1 := h.one
  have h2 := h.most
  have hw := rdW_word (U := U) hl h.lt hn (by omega) (by intro hu; have := hU hu; omega) rest (n - 1) 1 (by omega) (by decide)
  unfold wordOf codeV at *
  rw [hn, Int.toNat_natCast] at *
  rw [show n - 1 + 1 = n by omega, Nat.div_eq_of_lt ht] at hw
  exact hw
/-- Words are read, one behind the other. -/
theorem rdAll_words {U : Nat} (hU0 : U ≠ 0) (rest : List Nat) : ∀ (ss acc : List Nat), (∀ i ∈ ss, Has l i ∧ (U = 1 → l.getD i 0 = 1)) → rdAll l (codes l) U ss.length (ss.flatMap (wordOf l) ++ rest) acc = (0, acc ++ ss, rest)
  | [], acc, _ => by simp [rdAll]
  | i :: ss, acc, h => by
    obtain ⟨hi, hu⟩ := h i (List.mem_cons_self ..)
    have ih := rdAll_words hU0 rest ss (acc ++ [i]) (fun j hj => h j (List.mem_cons_of_mem _ hj))
    rw [List.length_cons, rdAll, if_neg hU0, List.flatMap_cons, List.append_assoc, rdW_of hl hr hk hi hu, if_pos rfl, ih, List.append_assoc]
    rfl
end
end Go.Proofs.Ytnkgcibdibgmjaa.Wd

namespace Go.Proofs.Ytnkgcibdibgmjaa.Wd
open Go.RowKit

theorem findS_some {l w : List Int} {k word i : Nat} (h : findS l w k word = some i) : i < 256 ∧ l.getD i 0 = (k : Int) ∧ w.getD i 0 = (word : Int) := by
  unfold findS at h
  have hm := List.mem_of_find?_eq_some h
  have hp := List.find?_some h
  rw [List.mem_range] at hm
  rw [Bool.and_eq_true, beq_iff_eq, beq_iff_eq] at hp
  exact ⟨hm, hp.1, hp.2⟩
section
variable {l : List Int} (hl : l.length = 256)
include hl
/-- A word that is cut short. -/
theorem rdW_cut {i n U : Nat} (hi : i < 256) (hn : l.getD i 0 = (n : Int)) (h11 : n ≤ 11) (hU : U = 1 → n = 1) :
    ∀ (m k : Nat) (p q : List Nat), k + m = n → 1 ≤ k → p ++ q = wb (first l (n - 1) + cnt l n i) (m + 1) → q ≠ [] → (rdW l (codes l) U (12 - k) k ((first l (n - 1) + cnt l n i) / 2 ^ (m + 1)) p).1 = 2
  | m, k, [], q, hk, hk1, _, _ => by
    obtain ⟨f, hf⟩ : ∃ f, 12 - k = f + 1 := ⟨11 - k, by omega⟩
    rw [hf, rdW]
  | 0, k, x :: p, q, hk, hk1, hpq, hq => by
    rw [wb, wb, List.cons_append, List.cons.injEq] at hpq
    exact absurd (List.append_eq_nil_iff.mp hpq.2).2 hq
  | m + 1, k, x :: p, q, hk, hk1, hpq, hq => by
    rw [wb, List.cons_append, List.cons.injEq] at hpq
    obtain ⟨f, hf⟩ : ∃ f, 12 - k = f + 1 := ⟨11 - k, by omega⟩
    have ih := rdW_cut hi hn h11 hU m (k + 1) p q (by omega) (by omega) hpq.2 hq
    rw [hf, hpq.1, rdW, div_next]
    have hfar := first_far l (k - 1) m
    rw [show k - 1 + 1 = k by omega, show k - 1 + m + 1 = n - 1 by omega] at hfar
    have hge : first l (k - 1) + cnt l k 256 ≤ (first l (n - 1) + cnt l n i) / 2 ^ (m + 1) := by
      rw [Nat.le_div_iff_mul_le (Nat.pow_pos (by decide))]
      exact Nat.le_trans hfar (Nat.le_add_right _ _)
    rw [find_none hl hk1 (by omega) hge]
    simp only
    rw [if_neg (by intro h; have := hU h; omega), show f = 12 - (k + 1) by omega]
    exact ih
variable (hr : ∀ x ∈ l, x ≤ 11) (hk : ksum l ≤ 2048)
include hr hk
theorem rdW_short {i U : Nat} (h : Has l i) (hU : U = 1 → l.getD i 0 = 1) {p q : List Nat} (hpq : p ++ q = wordOf l i) (hq : q ≠ []) : (rdW l (codes l) U 11 1 0 p).1 = 2 := by
  obtain ⟨n, hn⟩ : ∃ n : Nat, l.getD i 0 = (n : Int) := ⟨(l.getD i 0).toNat, by have := h.one; omega⟩
  have ht := code_top hl hr hk h
  have h1 := h.one
  have h2 := h.most
  unfold wordOf codeV at hpq
  unfold codeV at ht
  rw [hn, Int.toNat_natCast] at hpq ht
  have hw := rdW_cut (U := U) hl h.lt hn (by omega) (by intro hu; have := hU hu; omega) (n - 1) 1 p q (by omega) (by decide) (by rw [show n - 1 + 1 = n by omega]; exact hpq) hq
  rw [show n - 1 + 1 = n by omega, Nat.div_eq_of_lt ht] at hw
  exact hw
/-- Words of which the end is missing. -/
theorem rdAll_short {U : Nat} (hU0 : U ≠ 0) : ∀ (ss acc p q : List Nat), (∀ i ∈ ss, Has l i ∧ (U = 1 → l.getD i 0 = 1)) → p ++ q = ss.flatMap (wordOf l) → q ≠ [] → (rdAll l (codes l) U ss.length p acc).1 = 2
  | [], acc, p, q, _, hpq, hq => absurd (List.append_eq_nil_iff.mp hpq).2 hq
  | i :: ss, acc, p, q, h, hpq, hq => by
    obtain ⟨hi, hu⟩ := h i (List.mem_cons_self ..)
    rw [List.flatMap_cons] at hpq
    rw [List.length_cons, rdAll, if_neg hU0]
    rcases List.append_eq_append_iff.mp hpq with ⟨r, hr1, hr2⟩ | ⟨r, hr1, hr2⟩
    · by_cases h0 : r = []
      · subst h0
        rw [List.append_nil] at hr1
        have h1 := rdW_of hl hr hk hi hu []
        rw [List.append_nil, hr1] at h1
        rw [h1, if_pos rfl]
        refine rdAll_short hU0 ss _ [] q (fun j hj => h j (List.mem_cons_of_mem _ hj)) ?_ hq
        rw [List.nil_append] at *
        exact hr2
      · have h1 := rdW_short hl hr hk hi hu hr1.symm h0
        rw [if_neg (by rw [h1]; decide)]
        exact h1
    · rw [hr1, rdW_of hl hr hk hi hu, if_pos rfl]
      exact rdAll_short hU0 ss _ r q (fun j hj => h j (List.mem_cons_of_mem _ hj)) hr2.symm hq
end
/-- The runs of a table. -/
def runsB (rs : List (Nat × Nat)) : List Nat := rs.map fun r => r.1 * 16 + (r.2 - 1)
def runsL (rs : List (Nat × Nat)) : List Int := rs.flatMap fun r => List.replicate r.2 ((r.1 : Nat) : Int)
theorem rdT_runs (rest : List Nat) : ∀ (rs : List (Nat × Nat)) (acc : List Int), (∀ r ∈ rs, r.1 ≤ 11 ∧ 1 ≤ r.2 ∧ r.2 ≤ 16) → (acc ++ runsL rs).length = 256 → rdT (runsB rs ++ rest) acc = (0, acc ++ runsL rs, rest)
  | [], acc, _, h => by
    unfold runsL runsB at *
    rw [List.flatMap_nil, List.append_nil] at *
    rw [List.map_nil, List.nil_append]
    cases rest with
    | nil => rw [rdT, if_pos h]
    | cons x r => rw [rdT, if_pos h]
  | r :: rs, acc, hrs, h => by
    obtain ⟨h1, h2, h3⟩ := hrs r (List.mem_cons_self ..)
    have e : runsL (r :: rs) = List.replicate r.2 ((r.1 : Nat) : Int) ++ runsL rs := by unfold runsL; rw [List.flatMap_cons]
    have hl := h
    rw [e, List.length_append, List.length_append, List.length_replicate] at hl
    rw [e, ← List.append_assoc] at h
    have ih := rdT_runs rest rs (acc ++ List.replicate r.2 ((r.1 : Nat) : Int)) (fun x hx => hrs x (List.mem_cons_of_mem _ hx)) h
    rw [e, ← List.append_assoc, ← ih]
    unfold runsB
    rw [List.map_cons, List.cons_append, rdT, if_neg (by omega), if_neg (by omega), show (r.1 * 16 + (r.2 - 1)) / 16 = r.1 by omega, show (r.1 * 16 + (r.2 - 1)) % 16 + 1 = r.2 by omega]
end Go.Proofs.Ytnkgcibdibgmjaa.Wd

namespace Go.Proofs.Ytnkgcibdibgmjaa.Wd
open Go.RowKit

def ks (l : List Int) (k : Nat) : Nat := ((l.take k).map kterm).sum
theorem ks_next {l : List Int} {k : Nat} (h : k < l.length) : ks l (k + 1) = ks l k + kterm (l.getD k 0) := by
  unfold ks
  rw [List.take_add_one, List.getElem?_eq_getElem h, List.map_append, List.sum_append, List.getD_eq_getElem?_getD, List.getElem?_eq_getElem h]
  simp
theorem used_none {l : List Int} : ∀ {k : Nat}, k ≤ l.length → usedN l k = 0 → ks l k = 0 ∧ ∀ j, j < k → ¬ 0 < l.getD j 0
  | 0, _, _ => ⟨rfl, by omega⟩
  | k + 1, hk, h => by
    rw [usedN] at h
    by_cases h0 : 0 < l.getD k 0
    · rw [if_pos h0] at h; omega
    · rw [if_neg h0] at h
      obtain ⟨h1, h2⟩ := used_none (by omega) h
      refine ⟨?_, fun j hj => ?_⟩
      · rw [ks_next (by omega), h1]; unfold kterm; rw [if_neg h0]
      · by_cases hjk : j = k
        · rw [hjk]; exact h0
        · exact h2 j (by omega)
theorem used_one {l : List Int} {i : Nat} (hi : 0 < l.getD i 0) : ∀ {k : Nat}, k ≤ l.length → i < k → usedN l k = 1 → ks l k = kterm (l.getD i 0) ∧ oneK l k = (l.getD i 0 == 1)
  | 0, _, h, _ => by omega
  | k + 1, hk, hik, h => by
    rw [usedN] at h
    rw [oneK, ks_next (by omega)]
    by_cases h0 : 0 < l.getD k 0
    · rw [if_pos h0] at h
      rw [if_pos h0]
      obtain ⟨h1, h2⟩ := used_none (l := l) (k := k) (by omega) (by omega)
      by_cases hk' : i = k
      · subst hk'; rw [h1]; exact ⟨Nat.zero_add _, rfl⟩
      · exact absurd hi (h2 i (by omega))
    · rw [if_neg h0] at h
      rw [if_neg h0]
      have hne : i ≠ k := fun e => h0 (e ▸ hi)
      obtain ⟨h1, h2⟩ := used_one hi (k := k) (by omega) (by omega) h
      refine ⟨?_, h2⟩
      rw [h1]; unfold kterm; rw [if_neg h0]; rfl
theorem ks_all {l : List Int} (h : l.length = 256) : ks l 256 = ksum l := by unfold ks ksum; rw [List.take_of_length_le (by omega)]
theorem not_bad {l : List Int} (h : badT l = false) : ksum l ≤ 2048 ∧ (ksum l = 2048 ∨ usedN l 256 = 0 ∨ usedN l 256 = 1 ∧ oneK l 256 = true) := by
  unfold badT at h
  simp only [Bool.or_eq_false_iff, Bool.and_eq_false_iff, decide_eq_false_iff_not, Bool.not_eq_false', Bool.or_eq_true, Bool.and_eq_true, beq_iff_eq] at h
  obtain ⟨h1, h2⟩ := h
  refine ⟨by omega, ?_⟩
  rcases h2 with h2 | h2
  · left; omega
  · right; exact h2
theorem used_has {l : List Int} (hl : l.length = 256) {i : Nat} (h : Has l i) (hb : badT l = false) : usedN l 256 ≠ 0 ∧ (usedN l 256 = 1 → l.getD i 0 = 1) := by
  have hp : 0 < l.getD i 0 := by have := h.one; omega
  refine ⟨fun h0 => (used_none (by omega) h0).2 i h.lt hp, fun h1 => ?_⟩
  obtain ⟨e1, e2⟩ := used_one hp (by omega) h.lt h1
  rw [ks_all hl] at e1
  obtain ⟨_, h3⟩ := not_bad hb
  rcases h3 with h3 | h3 | h3
  · rw [h3] at e1
    unfold kterm at e1
    rw [if_pos hp] at e1
    have hm := h.one
    have : 11 - (l.getD i 0).toNat ≤ 10 := by omega
    have := Nat.pow_le_pow_right (n := 2) (by decide) this
    omega
  · omega
  · rw [h3.2] at e2
    have := e2.symm
    rwa [beq_iff_eq] at this
/-- A code with its table: the runs are the lengths; it can be read. -/
structure Code (l : List Int) (rs : List (Nat × Nat)) : Prop where
  len : l.length = 256
  runs : runsL rs = l
  fits : ∀ r ∈ rs, r.1 ≤ 11 ∧ 1 ≤ r.2 ∧ r.2 ≤ 16
  good : badT l = false
theorem words_two (l : List Int) (ss : List Nat) : ∀ x ∈ ss.flatMap (wordOf l), x < 2 := by
  intro x hx
  obtain ⟨i, _, hx⟩ := List.mem_flatMap.mp hx
  exact wb_two _ _ x hx
section
variable {l : List Int} {rs : List (Nat × Nat)} (hc : Code l rs)
include hc
theorem Code.most : ∀ x ∈ l, x ≤ 11 := by
  intro x hx
  rw [← hc.runs] at hx
  unfold runsL at hx
  obtain ⟨r, hr, hx⟩ := List.mem_flatMap.mp hx
  rw [(List.mem_replicate.mp hx).2]
  have := (hc.fits r hr).1
  omega
theorem Code.table (rest : List Nat) : table (runsB rs ++ rest) = (0, l, rest) := by
  have h := rdT_runs rest rs [] hc.fits (by rw [List.nil_append, hc.runs]; exact hc.len)
  rw [List.nil_append, hc.runs] at h
  unfold Wd.table
  rw [h, if_pos rfl, if_neg (by rw [hc.good]; decide)]
theorem Code.unpack {n : Nat} (hn : n ≤ 4096) (rest : List Nat) : unpack (runsB rs ++ rest) (n : Int) = body l n (bitsB rest) := by
  unfold Wd.unpack
  rw [if_neg (by omega), hc.table, if_pos rfl, Int.toNat_natCast]
/-- Words and what is behind them. -/
theorem Code.words {ss : List Nat} (hs : ∀ i ∈ ss, Has l i) (hn : ss.length ≤ 4096) {c rest : List Nat} (h : bitsB c = ss.flatMap (wordOf l) ++ rest) : Wd.unpack (runsB rs ++ c) (ss.length : Int) = endV rest ss := by
  rw [hc.unpack hn, h]
  have e : rdAll l (codes l) (usedN l 256) ss.length (ss.flatMap (wordOf l) ++ rest) [] = (0, ss, rest) := by
    cases ss with
    | nil => rfl
    | cons i ss =>
      have h0 := (used_has hc.len (hs i (List.mem_cons_self ..)) hc.good).1
      have := rdAll_words hc.len hc.most (not_bad hc.good).1 h0 rest (i :: ss) [] (fun j hj => ⟨hs j hj, (used_has hc.len (hs j hj) hc.good).2⟩)
      rwa [List.nil_append] at this
  unfold body
  rw [e, if_pos rfl]
/-- Words of which the end is missing. -/
theorem Code.short {ss : List Nat} (hs : ∀ i ∈ ss, Has l i) (hn : ss.length ≤ 4096) {c q : List Nat} (h : bitsB c ++ q = ss.flatMap (wordOf l)) (hq : q ≠ []) : Wd.unpack (runsB rs ++ c) (ss.length : Int) = ([], 2) := by
  rw [hc.unpack hn]
  have e : (rdAll l (codes l) (usedN l 256) ss.length (bitsB c) []).1 = 2 := by
    cases ss with
    | nil => exact absurd (List.append_eq_nil_iff.mp h).2 hq
    | cons i ss =>
      have h0 := (used_has hc.len (hs i (List.mem_cons_self ..)) hc.good).1
      exact rdAll_short hc.len hc.most (not_bad hc.good).1 h0 (i :: ss) [] _ _ (fun j hj => ⟨hs j hj, (used_has hc.len (hs j hj) hc.good).2⟩) h hq
  unfold body
  rw [e, if_neg (by decide)]
/-- What was packed is read. -/
theorem Code.back {ss : List Nat} (hs : ∀ i ∈ ss, Has l i) (hn : ss.length ≤ 4096) : Wd.unpack (runsB rs ++ packB (ss.flatMap (wordOf l))) (ss.length : Int) = (ss, 0) := by
  rw [hc.words hs hn (packB_bits (words_two l ss))]
  unfold endV
  rw [if_neg (by rw [List.length_replicate]; omega), if_neg]
  rw [Bool.not_eq_true, List.any_eq_false]
  intro x hx
  rw [(List.mem_replicate.mp hx).2]; decide
/-- A byte behind. -/
theorem Code.long {ss : List Nat} (hs : ∀ i ∈ ss, Has l i) (hn : ss.length ≤ 4096) (x : Nat) : Wd.unpack (runsB rs ++ (packB (ss.flatMap (wordOf l)) ++ [x])) (ss.length : Int) = ([], 3) := by
  rw [hc.words hs hn (rest := List.replicate ((8 - (ss.flatMap (wordOf l)).length % 8) % 8) 0 ++ bits8 x) (by rw [bitsB_snoc, packB_bits (words_two l ss), List.append_assoc])]
  unfold endV
  rw [if_pos (by rw [List.length_append, bits8_len]; omega)]
/-- Another bit in the last byte. -/
theorem Code.form {ss : List Nat} (hs : ∀ i ∈ ss, Has l i) (hn : ss.length ≤ 4096) {c rest : List Nat} (h : bitsB c = ss.flatMap (wordOf l) ++ rest) (h8 : rest.length < 8) (h1 : 1 ∈ rest) : Wd.unpack (runsB rs ++ c) (ss.length : Int) = ([], 4) := by
  rw [hc.words hs hn h]
  unfold endV
  rw [if_neg (by omega), if_pos]
  rw [List.any_eq_true]
  exact ⟨1, h1, rfl⟩
end
end Go.Proofs.Ytnkgcibdibgmjaa.Wd

namespace Go.Proofs.Ytnkgcibdibgmjaa.Wd
open Go.RowKit

/-- The bytes of length n among the first k. -/
def vals (l : List Int) (n k : Nat) : List Nat := (List.range k).filter fun i => l.getD i 0 == (n : Int)
theorem vals_hit {l : List Int} {n k : Nat} (h : l.getD k 0 = (n : Int)) : vals l n (k + 1) = vals l n k ++ [k] := by
  have e : (l.getD k 0 == (n : Int)) = true := by rw [beq_iff_eq]; exact h
  unfold vals
  rw [List.range_succ, List.filter_append, List.filter_cons, if_pos e]; rfl
theorem vals_miss {l : List Int} {n k : Nat} (h : l.getD k 0 ≠ (n : Int)) : vals l n (k + 1) = vals l n k := by
  have e : ¬ (l.getD k 0 == (n : Int)) = true := by rw [beq_iff_eq]; exact h
  unfold vals
  rw [List.range_succ, List.filter_append, List.filter_cons, if_neg e]; simp
theorem vals_len {l : List Int} (n : Nat) : ∀ k, k ≤ l.length → (vals l n k).length = cnt l n k
  | 0, _ => by simp [vals, cnt]
  | k + 1, h => by
    have ih := vals_len n k (l := l) (by omega)
    by_cases hk : l.getD k 0 = (n : Int)
    · rw [vals_hit hk, List.length_append, ih, cnt_hit (by omega) hk]; rfl
    · rw [vals_miss hk, ih, cnt_miss (by omega) hk]
theorem vals_at {l : List Int} {n : Nat} : ∀ k, k ≤ l.length → ∀ i, i < (vals l n k).length → (vals l n k).getD i 0 < k ∧ l.getD ((vals l n k).getD i 0) 0 = (n : Int) ∧ cnt l n ((vals l n k).getD i 0) = i
  | 0, _, i, hi => by simp [vals] at hi
  | k + 1, h, i, hi => by
    have ih := vals_at (l := l) (n := n) k (by omega)
    by_cases hk : l.getD k 0 = (n : Int)
    · rw [vals_hit hk] at hi ⊢
      rw [List.length_append, List.length_singleton] at hi
      by_cases hlt : i < (vals l n k).length
      · rw [List.getD_eq_getElem?_getD, List.getElem?_append_left hlt, ← List.getD_eq_getElem?_getD]
        obtain ⟨a, b, c⟩ := ih i hlt
        exact ⟨by omega, b, c⟩
      · have he : i = (vals l n k).length := by omega
        have hg : (vals l n k ++ [k]).getD i 0 = k := by
          rw [List.getD_eq_getElem?_getD, List.getElem?_append_right (by omega), he, Nat.sub_self]; rfl
        rw [hg]
        exact ⟨by omega, hk, by rw [he, vals_len n k (by omega)]⟩
    · rw [vals_miss hk] at hi ⊢
      obtain ⟨a, b, c⟩ := ih i hi
      exact ⟨by omega, b, c⟩
theorem vals_lt {l : List Int} {n k : Nat} (hk : k ≤ 256) : ∀ x ∈ vals l n k, x < 256 := by
  intro x hx
  unfold vals at hx
  have := List.mem_range.1 (List.mem_filter.1 hx).1
  omega
/-- The program's values and first words. -/
def cv (l : List Int) (n k : Nat) : List Nat := if n = 0 then [] else vals l n k
def fv (l : List Int) (n : Nat) : Nat := if n = 0 then 0 else first l (n - 1)
theorem cv_lt {l : List Int} {n k : Nat} (hk : k ≤ 256) : ∀ x ∈ cv l n k, x < 256 := by
  unfold cv
  split
  · simp
  · exact vals_lt hk
theorem cv_len {l : List Int} {n k : Nat} (hk : k ≤ l.length) : (cv l n k).length = if n = 0 then 0 else cnt l n k := by
  unfold cv
  split
  · rfl
  · exact vals_len n k hk
theorem fv_next {l : List Int} (hl : l.length = 256) (n : Nat) : fv l (n + 1) = (fv l n + (cv l n 256).length) * 2 := by
  rw [cv_len (by omega)]
  unfold fv
  rw [if_neg (by omega), Nat.add_sub_cancel]
  cases n with
  | zero => rfl
  | succ n => rw [if_neg (by omega), if_neg (by omega), Nat.add_sub_cancel]; rfl

/-- A code that can be read. -/
structure Good (l : List Int) : Prop where
  len : l.length = 256
  rng : ∀ x ∈ l, 0 ≤ x ∧ x ≤ 11
  ok : badT l = false
theorem ks_ge {l : List Int} {i : Nat} : ∀ {k : Nat}, k ≤ l.length → i < k → kterm (l.getD i 0) ≤ ks l k
  | 0, _, h => by omega
  | k + 1, h, hi => by
    rw [ks_next (by omega)]
    by_cases he : i = k
    · subst he; omega
    · have := ks_ge (l := l) (i := i) (k := k) (by omega) (by omega)
      omega
theorem kterm_pos {x : Int} (h : 0 < x) : 1 ≤ kterm x := by
  unfold kterm
  rw [if_pos h]
  exact Nat.pow_pos (by decide)
theorem used_pos {l : List Int} : ∀ {k : Nat}, usedN l k ≠ 0 → ∃ i, i < k ∧ 0 < l.getD i 0
  | 0, h => absurd rfl h
  | k + 1, h => by
    by_cases h0 : 0 < l.getD k 0
    · exact ⟨k, by omega, h0⟩
    · rw [usedN, if_neg h0] at h
      obtain ⟨i, hi, hp⟩ := used_pos h
      exact ⟨i, by omega, hp⟩
theorem ks_zero {l : List Int} : ∀ {k : Nat}, k ≤ l.length → ks l k = 0 → usedN l k = 0 := by
  intro k hk h
  rcases Nat.eq_zero_or_pos (usedN l k) with h0 | h0
  · exact h0
  · obtain ⟨i, hi, hp⟩ := used_pos (l := l) (k := k) (by omega)
    have := ks_ge hk hi
    have := kterm_pos hp
    omega
theorem cnt_ks {l : List Int} : ∀ {k : Nat}, k ≤ l.length → cnt l 1 k * 1024 ≤ ks l k
  | 0, _ => by simp [cnt]
  | k + 1, h => by
    have ih := cnt_ks (l := l) (k := k) (by omega)
    rw [ks_next (by omega)]
    by_cases hk : l.getD k 0 = ((1 : Nat) : Int)
    · rw [cnt_hit (by omega) hk, hk, Nat.add_mul]
      have e : kterm ((1 : Nat) : Int) = 1024 := rfl
      rw [e, Nat.one_mul]
      exact Nat.add_le_add_right ih 1024
    · rw [cnt_miss (by omega) hk]; omega
/-- A lone word of one bit. -/
theorem lone {l : List Int} : ∀ {k : Nat}, k ≤ l.length → ks l k = 1024 → cnt l 1 k = 1 → usedN l k = 1 ∧ oneK l k = true
  | 0, _, h, _ => by simp [ks] at h
  | k + 1, h, hs, hc => by
    rw [ks_next (by omega)] at hs
    by_cases h0 : 0 < l.getD k 0
    · by_cases h1 : l.getD k 0 = ((1 : Nat) : Int)
      · rw [h1] at hs
        have e : kterm ((1 : Nat) : Int) = 1024 := rfl
        have hz := ks_zero (l := l) (k := k) (by omega) (by omega)
        rw [usedN, oneK, if_pos h0, if_pos h0, hz, h1]
        exact ⟨rfl, rfl⟩
      · rw [cnt_miss (by omega) h1] at hc
        have a := cnt_ks (l := l) (k := k) (by omega)
        have b := kterm_pos h0
        omega
    · have h1 : l.getD k 0 ≠ ((1 : Nat) : Int) := by omega
      have e : kterm (l.getD k 0) = 0 := by unfold kterm; rw [if_neg h0]
      rw [cnt_miss (by omega) h1] at hc
      rw [e] at hs
      have ih := lone (l := l) (k := k) (by omega) (by omega) hc
      rw [usedN, oneK, if_neg h0, if_neg h0]
      exact ih
theorem cnt_all {l : List Int} (hl : l.length = 256) : cnt l 1 256 * 1024 ≤ ksum l := by
  have := cnt_ks (l := l) (k := 256) (by omega)
  rwa [ks_all hl] at this
theorem lone_is {l : List Int} (hl : l.length = 256) (hu : usedN l 256 = 1) (ho : oneK l 256 = true) : ksum l = 1024 ∧ cnt l 1 256 = 1 := by
  obtain ⟨i, hi, hp⟩ := used_pos (l := l) (k := 256) (by omega)
  obtain ⟨h1, h2⟩ := used_one hp (k := 256) (by omega) hi hu
  rw [ho] at h2
  have e : l.getD i 0 = 1 := by rw [eq_comm, beq_iff_eq] at h2; exact h2
  rw [ks_all hl, e] at h1
  have hk : ksum l = 1024 := h1
  have a := cnt_all hl
  have b := cnt_lt (l := l) (n := 1) (i := i) (j := 256) (by omega) e hi
  exact ⟨hk, by omega⟩
theorem none_is {l : List Int} (hl : l.length = 256) (hu : usedN l 256 = 0) : ksum l = 0 := by
  have := (used_none (l := l) (k := 256) (by omega) hu).1
  rwa [ks_all hl] at this
/-- What allowed says. -/
theorem allowed_is {l : List Int} (hl : l.length = 256) : (ksum l = 0 ∨ ksum l = 2048 ∨ ksum l = 1024 ∧ cnt l 1 256 = 1) ↔ badT l = false := by
  constructor
  · rintro (h | h | ⟨h, hc⟩)
    · have hu := ks_zero (l := l) (k := 256) (by omega) (by rw [ks_all hl]; exact h)
      unfold badT
      rw [h, hu]; rfl
    · unfold badT
      rw [h]; rfl
    · obtain ⟨hu, ho⟩ := lone (l := l) (k := 256) (by omega) (by rw [ks_all hl]; exact h) hc
      unfold badT
      rw [h, hu, ho]; rfl
  · intro h
    rcases (not_bad h).2 with h | h | ⟨h, ho⟩
    · exact .inr (.inl h)
    · exact .inl (none_is hl h)
    · exact .inr (.inr (lone_is hl h ho))

/-- What is read from a word's bits on: the program's loop at n bits of the number v. -/
def hd (l : List Int) (U n v : Nat) (bs : List Nat) : Nat × Nat × List Nat :=
  if n = 0 then rdW l (codes l) U 11 1 0 bs else match findS l (codes l) n v with
    | some i => (0, i, bs)
    | none => if U = 1 then (4, 0, []) else rdW l (codes l) U (11 - n) (n + 1) v bs
def rdN (l : List Int) (bs : List Nat) : Nat × Nat × List Nat := if usedN l 256 = 0 then (4, 0, []) else rdW l (codes l) (usedN l 256) 11 1 0 bs
def hdN (l : List Int) (n v : Nat) (bs : List Nat) : Nat × Nat × List Nat := if usedN l 256 = 0 then (4, 0, []) else hd l (usedN l 256) n v bs
structure Nx (l : List Int) (n v : Nat) : Prop where
  ge : fv l n ≤ v
  lt : v < 2 ^ n
  most : n ≤ 11
  one : usedN l 256 = 1 → n ≤ 1
  none : usedN l 256 = 0 → n = 0
theorem Nx.start (l : List Int) : Nx l 0 0 := ⟨Nat.le_refl _, by decide, by decide, fun _ => by decide, fun _ => rfl⟩
theorem hdN_start (l : List Int) (bs : List Nat) : hdN l 0 0 bs = rdN l bs := rfl
theorem Good.le {l : List Int} (hg : Good l) : ∀ x ∈ l, x ≤ 11 := fun x hx => (hg.rng x hx).2
theorem nx_out {l : List Int} (hg : Good l) {n v : Nat} (h : Nx l n v) (hs : ksum l ≤ v * 2 ^ (11 - n)) (bs : List Nat) : hdN l n v bs = (4, 0, []) := by
  unfold hdN
  by_cases h0 : usedN l 256 = 0
  · rw [if_pos h0]
  rw [if_neg h0]
  rcases (not_bad hg.ok).2 with hk | hk | ⟨hk, ho⟩
  · have h1 : v * 2 ^ (11 - n) < 2 ^ n * 2 ^ (11 - n) := Nat.mul_lt_mul_of_pos_right h.lt (Nat.pow_pos (by decide))
    have hm := h.most
    rw [← Nat.pow_add, show n + (11 - n) = 11 by omega] at h1
    omega
  · exact absurd hk h0
  · obtain ⟨e1, e2⟩ := lone_is hg.len hk ho
    have hn := h.one hk
    have hlt := h.lt
    rcases (show n = 0 ∨ n = 1 by omega) with rfl | rfl
    · have : v = 0 := by omega
      subst this
      omega
    · have hv : v = 1 := by
        have : v < 2 := hlt
        have : 1024 ≤ v * 1024 := by rw [e1] at hs; exact hs
        omega
      subst hv
      unfold hd
      rw [if_neg (by decide), find_none hg.len (by decide) (by decide) (by rw [e2]; exact Nat.le_refl _), if_pos hk]
theorem nx_hit {l : List Int} (hg : Good l) {n v : Nat} (h : Nx l n v) (hc : v - fv l n < (cv l n 256).length) (bs : List Nat) : hdN l n v bs = (0, (cv l n 256).getD (v - fv l n) 0, bs) := by
  have hl := hg.len
  by_cases hn : n = 0
  · subst hn
    simp [cv] at hc
  have hge := h.ge
  have hm := h.most
  rw [cv, if_neg hn] at hc ⊢
  rw [fv, if_neg hn] at hc hge ⊢
  obtain ⟨a, b, c⟩ := vals_at (l := l) (n := n) 256 (by omega) _ hc
  have hf := find_word hl a b (by omega) hm
  rw [c, show first l (n - 1) + (v - first l (n - 1)) = v by omega] at hf
  have hu : usedN l 256 ≠ 0 := by
    intro hu
    exact (used_none (l := l) (k := 256) (by omega) hu).2 _ a (by rw [b]; omega)
  unfold hdN hd
  rw [if_neg hu, if_neg hn, hf]
theorem nx_more {l : List Int} (hg : Good l) {n v : Nat} (h : Nx l n v) (hs : v * 2 ^ (11 - n) < ksum l) (hc : ¬ v - fv l n < (cv l n 256).length) :
    n < 11 ∧ hdN l n v [] = (2, 0, []) ∧ ∀ b bs, b < 2 → Nx l (n + 1) (v * 2 + b) ∧ hdN l n v (b :: bs) = hdN l (n + 1) (v * 2 + b) bs := by
  have hl := hg.len
  have hge := h.ge
  have hlt := h.lt
  have hm := h.most
  have hu : usedN l 256 ≠ 0 := by
    intro hu
    have := none_is hl hu
    omega
  have hnx := fv_next hl n
  have hU : usedN l 256 = 1 → n = 0 := by
    intro h1
    have hn := h.one h1
    rcases (show n = 0 ∨ n = 1 by omega) with rfl | rfl
    · rfl
    · exfalso
      rcases (not_bad hg.ok).2 with hk | hk | ⟨hk, ho⟩
      · obtain ⟨i, hi, hp⟩ := used_pos hu
        have := (used_one hp (k := 256) (by omega) hi h1).1
        rw [ks_all hl, hk] at this
        unfold kterm at this
        rw [if_pos hp] at this
        have : 11 - (l.getD i 0).toNat ≤ 10 := by omega
        have := Nat.pow_le_pow_right (n := 2) (by decide) this
        omega
      · exact hu hk
      · obtain ⟨e1, e2⟩ := lone_is hl hk ho
        rw [cv_len (by omega), if_neg (by decide), e2] at hc
        have : v * 1024 < 1024 := by rw [e1] at hs; exact hs
        omega
  have hn11 : n < 11 := by
    rcases (show n < 11 ∨ n = 11 by omega) with h1 | h1
    · exact h1
    subst h1
    exfalso
    have hk : ksum l = 2048 := by
      rcases (not_bad hg.ok).2 with hk | hk | ⟨hk, ho⟩
      · exact hk
      · exact absurd hk hu
      · have := hU hk; omega
    have e := first_ksn hl 10 (by decide)
    rw [ksn_all hg.le, hk] at e
    rw [cv_len (by omega), if_neg (by decide)] at hc
    unfold fv at hc hge
    rw [if_neg (by decide)] at hc hge
    have e' : first l 10 + cnt l 11 256 = 2048 := by simpa using e
    have : v < 2048 := hlt
    have hc' : ¬ v - first l 10 < cnt l 11 256 := hc
    have hge' : first l 10 ≤ v := hge
    omega
  refine ⟨hn11, ?_, fun b bs hb => ⟨⟨?_, ?_, by omega, fun h1 => by have := hU h1; omega, fun h0 => absurd h0 hu⟩, ?_⟩⟩
  · unfold hdN hd
    rw [if_neg hu]
    by_cases hn : n = 0
    · rw [if_pos hn]; rfl
    · rw [cv_len (by omega), if_neg hn] at hc
      rw [fv, if_neg hn] at hc hge
      rw [if_neg hn, find_none hl (by omega) hm (by omega)]
      simp only
      rw [if_neg (fun h1 => hn (hU h1))]
      obtain ⟨f, hf⟩ : ∃ f, 11 - n = f + 1 := ⟨10 - n, by omega⟩
      rw [hf]; rfl
  · rw [hnx]; omega
  · rw [Nat.pow_succ]; omega
  · unfold hdN hd
    rw [if_neg hu, if_neg hu, if_neg (show ¬ n + 1 = 0 by omega)]
    by_cases hn : n = 0
    · subst hn
      have : v = 0 := by have : v < 1 := hlt; omega
      subst this
      rw [if_pos rfl, rdW]
      rfl
    · rw [cv_len (by omega), if_neg hn] at hc
      rw [fv, if_neg hn] at hc hge
      rw [if_neg hn, find_none hl (by omega) hm (by omega)]
      simp only
      rw [if_neg (fun h1 => hn (hU h1))]
      obtain ⟨f, hf⟩ : ∃ f, 11 - n = f + 1 := ⟨10 - n, by omega⟩
      rw [hf, rdW, show 11 - (n + 1) = f by omega]
      rfl
theorem hit_lt {l : List Int} {n v : Nat} (hc : v - fv l n < (cv l n 256).length) : (cv l n 256).getD (v - fv l n) 0 < 256 := by
  rw [List.getD_eq_getElem?_getD, List.getElem?_eq_getElem hc]
  exact cv_lt (Nat.le_refl _) _ (List.getElem_mem _)
/-- The loop of decode. -/
theorem rdAll_next (l : List Int) (n : Nat) (bs acc : List Nat) : rdAll l (codes l) (usedN l 256) (n + 1) bs acc = if (rdN l bs).1 = 0 then rdAll l (codes l) (usedN l 256) n (rdN l bs).2.2 (acc ++ [(rdN l bs).2.1]) else ((rdN l bs).1, [], []) := by
  rw [rdAll]
  unfold rdN
  by_cases h : usedN l 256 = 0
  · rw [if_pos h, if_pos h, if_neg (by decide)]
  · rw [if_neg h, if_neg h]

/-- The unread bits of a byte that has been begun. -/
theorem bit_next : ∀ B : Nat, B < 256 → ∀ k : Nat, k < 8 → (bits8 B).take (k + 1) = (B / 128) :: (bits8 (B * 2 % 256)).take k := by decide +kernel
theorem bit_low : ∀ B : Nat, B < 256 → ∀ k : Nat, k < 8 → B % 2 ^ (8 - (k + 1)) = 0 → B * 2 % 256 % 2 ^ (8 - k) = 0 := by decide +kernel
theorem bit_end : ∀ B : Nat, B < 256 → ∀ k : Nat, k < 8 → B % 2 ^ (8 - k) = 0 → ((bits8 B).take k).any (· == 1) = (B != 0) := by decide +kernel
end Go.Proofs.Ytnkgcibdibgmjaa.Wd
