/- The forms of bytes: what Open says, which form Best takes (no walk). The document's OpenForm. What the program's mould.Best and mould.Open are held to (as hypotheses, to be met by its walks); the statements' own check that the program is awake. -/
import Derived.Test.YtnkgcibdibgmjaaLzc
import Derived.Test.YtnkgcibdibgmjaaWc
import Derived.Test.YtnkgcibdibgmjaaFixw
import Derived.Deep.QuietTactic
namespace Go.Proofs.Ytnkgcibdibgmjaa
open Go.RowKit Flt

namespace Lz
/-- Read as another number of bytes, what was written is an error. -/
theorem unp_other (n : Nat) : ∀ (ss : List Seq) (l o : List Nat) (f : Nat), good ss o → o.length ≤ n → (run ss o ++ l).length ≠ n → (enc ss l).length ≤ f → ∃ E, E ≠ 0 ∧ unp n f (enc ss l) o = ([], E)
  | [], l, o, f, _, ho, hn, hf => by
    obtain ⟨f, rfl⟩ : ∃ g, f = g + 1 := ⟨f - 1, by have := enc_pos [] l; omega⟩
    have hn' : o.length + l.length ≠ n := by rw [run, List.length_append] at hn; exact hn
    have e : nib l.length * 16 / 16 = nib l.length := by omega
    unfold enc encLast unp
    simp only [e, added_ext]
    rw [if_neg (by omega), List.drop_length, List.take_length]
    simp only
    by_cases h1 : n - o.length < l.length
    · rw [if_pos h1]; exact ⟨3, by decide, rfl⟩
    · rw [if_neg h1, if_pos (by rw [List.length_append]; omega)]; exact ⟨2, by decide, rfl⟩
  | s :: ss, l, o, f, hg, ho, hn, hf => by
    obtain ⟨f, rfl⟩ : ∃ g, f = g + 1 := ⟨f - 1, by have := enc_pos (s :: ss) l; omega⟩
    obtain ⟨g1, g2, g3, g4⟩ := hg
    have hsr : (s.run o).length = o.length + s.lits.length + (s.many + 4) := by unfold Seq.run; rw [copyB_len, List.length_append]
    have n15 : nib s.many < 16 := by unfold nib; omega
    have e1 : (nib s.lits.length * 16 + nib s.many) / 16 = nib s.lits.length := by omega
    have e2 : (nib s.lits.length * 16 + nib s.many) % 16 = nib s.many := by omega
    have e3 : s.back % 256 + s.back / 256 * 256 = s.back := by omega
    unfold enc Seq.enc
    rw [List.cons_append, unp]
    simp only [e1, e2]
    rw [List.append_assoc, added_ext]
    simp only [List.append_assoc, List.cons_append, List.drop_left, List.take_left]
    rw [if_neg (by simp), added_ext]
    simp only [e3]
    have hol : (o ++ s.lits).length = o.length + s.lits.length := List.length_append
    by_cases h1 : n - o.length < s.lits.length
    · rw [if_pos h1]; exact ⟨3, by decide, rfl⟩
    rw [if_neg h1, if_neg (by omega)]
    by_cases h2 : n - (o ++ s.lits).length < s.many + 4
    · rw [if_pos h2]; exact ⟨3, by decide, rfl⟩
    rw [if_neg h2]
    refine unp_other n ss l (s.run o) f g4 (by omega) (by rw [run] at hn; exact hn) ?_
    unfold enc Seq.enc at hf
    simp only [List.cons_append, List.length_cons, List.length_append] at hf
    omega
theorem unpack_other (ss : List Seq) (l : List Nat) (hg : good ss []) (n : Int) (h : n ≠ ((run ss [] ++ l).length : Int)) : ∃ E, E ≠ 0 ∧ unpack (enc ss l) n = ([], E) := by
  unfold unpack
  by_cases h1 : n < 0 ∨ 4096 < n
  · rw [if_pos h1]; exact ⟨1, by decide, rfl⟩
  · rw [if_neg h1]
    exact unp_other n.toNat ss l [] _ hg (Nat.zero_le _) (by omega) (Nat.le_refl _)
theorem unpack_none (n : Int) : ∃ E, E ≠ 0 ∧ unpack [] n = ([], E) := by
  unfold unpack
  by_cases h1 : n < 0 ∨ 4096 < n
  · rw [if_pos h1]; exact ⟨1, by decide, rfl⟩
  · rw [if_neg h1, unp_nil]; exact ⟨2, by decide, rfl⟩
end Lz

namespace Wd
theorem rdAll_few (l w : List Int) (U : Nat) : ∀ (n : Nat) (bs acc : List Nat), (rdAll l w U n bs acc).2.1.length ≤ acc.length + n
  | 0, bs, acc => by simp [rdAll]
  | n + 1, bs, acc => by
    rw [rdAll]
    split
    · simp
    · split
      · have := rdAll_few l w U n (rdW l w U 11 1 0 bs).2.2 (acc ++ [(rdW l w U 11 1 0 bs).2.1])
        rw [List.length_append, List.length_singleton] at this
        omega
      · simp
theorem endV_few (bs acc : List Nat) : (endV bs acc).1.length ≤ acc.length := by
  unfold endV
  split
  · simp
  · split <;> simp
/-- No more bytes than asked for. -/
theorem unpack_few (b : List Nat) (n : Int) : (unpack b n).1.length ≤ 4096 := by
  unfold unpack
  split
  · simp
  · split
    · unfold body
      split
      · refine Nat.le_trans (endV_few _ _) ?_
        have := rdAll_few (table b).2.1 (codes (table b).2.1) (usedN (table b).2.1 256) n.toNat (bitsB (table b).2.2) []
        rw [List.length_nil] at this
        omega
      · simp
    · simp
end Wd

namespace Mo
/-- A number in two bytes. -/
def le2 (n : Nat) : List Nat := [n % 256, n / 256]
def both (P2 : List Nat → List Nat) (z : List Nat) : List Nat := le2 z.length ++ P2 z
/-- What Open says. -/
def open_ (k : Int) (l : List Nat) (n : Int) : List Nat × Nat :=
  if k < 0 ∨ 2 < k ∨ n < 0 ∨ 4096 < n then ([], 1)
  else if k = 0 then (if (l.length : Int) < n then ([], 2) else if n < (l.length : Int) then ([], 3) else (l, 0))
  else if k = 1 then Lz.unpack l n
  else if l.length < 2 then ([], 2)
  else if 4096 < l.getD 0 0 + l.getD 1 0 * 256 then ([], 3)
  else if (Wd.unpack (l.drop 2) ((l.getD 0 0 + l.getD 1 0 * 256 : Nat) : Int)).2 = 0 then Lz.unpack (Wd.unpack (l.drop 2) ((l.getD 0 0 + l.getD 1 0 * 256 : Nat) : Int)).1 n
  else ([], (Wd.unpack (l.drop 2) ((l.getD 0 0 + l.getD 1 0 * 256 : Nat) : Int)).2)
/-- What Best says. -/
def best (P1 P2 : List Nat → List Nat) (x : Nat) (b : List Nat) : Nat × List Nat :=
  if 4096 < b.length then (0, [])
  else if (P1 b).length ≤ 4096 ∧ (both P2 (P1 b)).length < (P1 b).length ∧ worthB x ((both P2 (P1 b)).length : Int) (b.length : Int) = true then (2, both P2 (P1 b))
  else if worthB x ((P1 b).length : Int) (b.length : Int) = true then (1, P1 b)
  else (0, b)
section
variable {P1 P2 : List Nat → List Nat} (h1 : PackOk P1) (h2 : WPackOk P2) {b : List Nat} (hb : ∀ x ∈ b, x < 256) (hl : b.length ≤ 4096)
theorem both_len (z : List Nat) : (both P2 z).length = (P2 z).length + 2 := by unfold both le2; rw [List.length_append]; simp; omega
theorem both_at (z : List Nat) : (both P2 z).getD 0 0 = z.length % 256 ∧ (both P2 z).getD 1 0 = z.length / 256 ∧ (both P2 z).drop 2 = P2 z := ⟨rfl, rfl, rfl⟩
/-- The three ways. -/
theorem best_cases (x : Nat) (hl : b.length ≤ 4096) : (best P1 P2 x b = (2, both P2 (P1 b)) ∧ (P1 b).length ≤ 4096 ∧ (both P2 (P1 b)).length < (P1 b).length ∧ worthB x ((both P2 (P1 b)).length : Int) (b.length : Int) = true) ∨
    (best P1 P2 x b = (1, P1 b) ∧ worthB x ((P1 b).length : Int) (b.length : Int) = true) ∨ best P1 P2 x b = (0, b) := by
  unfold best
  rw [if_neg (by omega)]
  by_cases c1 : (P1 b).length ≤ 4096 ∧ (both P2 (P1 b)).length < (P1 b).length ∧ worthB x ((both P2 (P1 b)).length : Int) (b.length : Int) = true
  · rw [if_pos c1]; exact .inl ⟨rfl, c1⟩
  · rw [if_neg c1]
    by_cases c2 : worthB x ((P1 b).length : Int) (b.length : Int) = true
    · rw [if_pos c2]; exact .inr (.inl ⟨rfl, c2⟩)
    · rw [if_neg c2]; exact .inr (.inr rfl)
include h1 in
theorem lz_lt (hb : ∀ x ∈ b, x < 256) (hl : b.length ≤ 4096) : ∃ ss r, P1 b = Lz.enc ss r ∧ Lz.good ss [] ∧ Lz.run ss [] ++ r = b := h1.seqs b hb hl
include h1 h2 hb hl in
/-- Opened as another number of bytes, a form is an error; as many, and it is as it was. -/
theorem open_best (hz : ∀ x ∈ P1 b, x < 256) (x : Nat) (n : Int) : (n = (b.length : Int) → open_ ((best P1 P2 x b).1 : Int) (best P1 P2 x b).2 n = (b, 0)) ∧
    (n ≠ (b.length : Int) → ∃ E, E ≠ 0 ∧ open_ ((best P1 P2 x b).1 : Int) (best P1 P2 x b).2 n = ([], E)) := by
  by_cases hn : n < 0 ∨ 4096 < n
  · refine ⟨fun e => by omega, fun _ => ⟨1, by decide, ?_⟩⟩
    unfold open_
    rw [if_pos (by omega)]
  obtain ⟨ss, r, e1, hg, hr⟩ := h1.seqs b hb hl
  have back : Lz.unpack (P1 b) (b.length : Int) = (b, 0) := pack_back h1 hb hl
  have other : n ≠ (b.length : Int) → ∃ E, E ≠ 0 ∧ Lz.unpack (P1 b) n = ([], E) := fun h => by
    rw [e1]; exact Lz.unpack_other ss r hg n (by rw [hr]; exact h)
  rcases best_cases (P1 := P1) (P2 := P2) (b := b) x hl with ⟨e, c1, c2, c3⟩ | ⟨e, c⟩ | e
  · have hw := h2.back (P1 b) hz c1
    have ho : open_ ((2 : Nat) : Int) (both P2 (P1 b)) n = Lz.unpack (P1 b) n := by
      obtain ⟨a1, a2, a3⟩ := both_at (P2 := P2) (P1 b)
      have em : (P1 b).length % 256 + (P1 b).length / 256 * 256 = (P1 b).length := by omega
      unfold open_
      rw [if_neg (by omega), if_neg (by decide), if_neg (by decide), if_neg (by rw [both_len]; omega), a1, a2, a3, em, if_neg (by omega), hw, if_pos rfl]
    rw [e]
    exact ⟨fun hh => by rw [ho, hh]; exact back, fun hh => by rw [ho]; exact other hh⟩
  · have ho : open_ ((1 : Nat) : Int) (P1 b) n = Lz.unpack (P1 b) n := by
      unfold open_
      rw [if_neg (by omega), if_neg (by decide), if_pos (show ((1 : Nat) : Int) = 1 from rfl)]
    rw [e]
    exact ⟨fun hh => by rw [ho, hh]; exact back, fun hh => by rw [ho]; exact other hh⟩
  · rw [e]
    have hk : ¬ (((0 : Nat) : Int) < 0 ∨ 2 < ((0 : Nat) : Int) ∨ n < 0 ∨ 4096 < n) := by omega
    refine ⟨fun hh => ?_, fun hh => ?_⟩
    · show open_ ((0 : Nat) : Int) b n = _
      unfold open_
      rw [if_neg hk, if_pos (show ((0 : Nat) : Int) = 0 from rfl), if_neg (by omega), if_neg (by omega)]
    · show ∃ E, E ≠ 0 ∧ open_ ((0 : Nat) : Int) b n = ([], E)
      unfold open_
      rw [if_neg hk, if_pos (show ((0 : Nat) : Int) = 0 from rfl)]
      by_cases c : (b.length : Int) < n
      · rw [if_pos c]; exact ⟨2, by decide, rfl⟩
      · rw [if_neg c, if_pos (by omega)]; exact ⟨3, by decide, rfl⟩
/-- Worth asks for less. -/
theorem worth_lt {x : Nat} {p r : Int} (h : worthB x p r = true) : p < r := by
  unfold worthB at h
  by_cases c : r ≤ p
  · rw [decide_eq_true c] at h; simp at h
  · omega
theorem best_len (x : Nat) (hl : b.length ≤ 4096) : (best P1 P2 x b).2.length ≤ b.length := by
  rcases best_cases (P1 := P1) (P2 := P2) (b := b) x hl with ⟨e, c1, c2, c3⟩ | ⟨e, c⟩ | e
  · rw [e]; have := worth_lt c3; show (both P2 (P1 b)).length ≤ _; omega
  · rw [e]; have := worth_lt c; show (P1 b).length ≤ _; omega
  · rw [e]; exact Nat.le_refl _
/-- A greater gain never makes it longer. -/
theorem best_mono {x y : Nat} (hx : x < 2 ^ 64) (hy : y < 2 ^ 64) (hl : b.length ≤ 4096) (h : mval (fixB x) ≤ mval (fixB y)) : (best P1 P2 y b).2.length ≤ (best P1 P2 x b).2.length := by
  have hm : ∀ p : Nat, worthB x (p : Int) (b.length : Int) = true → worthB y (p : Int) (b.length : Int) = true := fun p hp => worth_mono hx hy (by omega) h hp
  have hy' := best_len (P1 := P1) (P2 := P2) (b := b) y hl
  rcases best_cases (P1 := P1) (P2 := P2) (b := b) x hl with ⟨e, c1, c2, c3⟩ | ⟨e, c⟩ | e
  · have e' : best P1 P2 y b = (2, both P2 (P1 b)) := by unfold best; rw [if_neg (by omega), if_pos ⟨c1, c2, hm _ c3⟩]
    rw [e, e']; exact Nat.le_refl _
  · rw [e]
    have c' := hm _ c
    unfold best
    rw [if_neg (by omega)]
    split
    · rename_i hc; show (both P2 (P1 b)).length ≤ (P1 b).length; omega
    · exact Nat.le_refl _
  · rw [e]; exact hy'
end
theorem pos_near {A B P : Nat} (hP : 2 ≤ P) (hA : 0 < A) (h : P * A ≤ P * B + A) : 0 < B := by
  rcases Nat.eq_zero_or_pos B with h0 | h0
  · subst h0
    rw [Nat.mul_zero, Nat.zero_add] at h
    have : 2 * A ≤ P * A := Nat.mul_le_mul_right A hP
    omega
  · exact h0
/-- No gain: nothing is worth it. -/
theorem worth_zero {p r : Nat} (hp : 1 ≤ p) (hp2 : p < 2 ^ 64) (hr : r < 2 ^ 64) : worthB 0 (p : Int) (r : Int) = false := by
  rw [worth_nat (x := 0) (by decide) hr, Bool.and_eq_false_iff]
  right
  rw [decide_eq_false_iff_not, (most_eq (x := 0) (by decide) hr).2.2, show fixB 0 = 0 from by kernel_rfl, mval_zero, Nat.zero_mul, rng_zero, mval_zero]
  have h1 := (rng_near0 (N := p * U) (by have := lt_2097 hp2 (by decide); rwa [Nat.zero_add] at this)).2
  have h2 : 0 < p * U := Nat.mul_pos hp (by rw [U_def]; exact Nat.pow_pos (by decide))
  have := pos_near (P := 2 ^ 53) (by decide) h2 h1
  omega
section
variable {P1 P2 : List Nat → List Nat} {b : List Nat}
theorem best_zero (hl : b.length ≤ 4096) (h1 : 1 ≤ (P1 b).length) (hz : (P1 b).length < 2 ^ 63) : best P1 P2 0 b = (0, b) := by
  rcases best_cases (P1 := P1) (P2 := P2) (b := b) 0 hl with ⟨e, c1, c2, c3⟩ | ⟨e, c⟩ | e
  · rw [worth_zero (by rw [both_len]; omega) (by omega) (by omega)] at c3; cases c3
  · rw [worth_zero h1 (by omega) (by omega)] at c; cases c
  · exact e
/-- All gains that come to the same choose the same. -/
theorem best_fix {x y : Nat} (h : fixB x = fixB y) : best P1 P2 x b = best P1 P2 y b := by
  have hw : ∀ p r : Int, worthB x p r = worthB y p r := fun p r => by unfold worthB mostB; rw [h]
  unfold best
  rw [hw, hw]
end
end Mo
end Go.Proofs.Ytnkgcibdibgmjaa

namespace Go.Proofs.Ytnkgcibdibgmjaa
open Go.RowKit

theorem unpR_grow {R : List Nat × Nat} {w w1 w' : World} {e : Ending} (h : UnpR R w1 e w') (hb : Below w.heap.size w w1) : UnpR R w e w' := by
  obtain ⟨A, c, he, hby, hbel⟩ := h
  exact ⟨A, c, he, hby, hb.trans (hbel.mono hb.size)⟩
theorem By.from2 {w : World} {A : Option Addr} {c : Nat} {l : List Nat} (h : By w A c l) {k : Nat} (hk : k ≤ l.length) : By w (cutA A c k) (c - k) (l.drop k) := by
  refine ⟨?_, fun x hx => h.lt x (List.mem_of_mem_drop hx), by rw [List.length_drop]; have := h.cap; omega, ?_, by rw [List.length_drop]; have := h.len; omega⟩
  · rw [← byts_drop]; exact h.sl.from (by rw [byts_length]; exact h.cap)
  · unfold cutA
    by_cases hc : c = k
    · intro _; omega
    · rw [if_neg hc]; intro hh; have := h.nil (by simpa using hh); omega

set_option maxRecDepth 4000 in
set_option maxHeartbeats 4000000 in
theorem ropen_by {w : World} {A : Option Addr} {c : Nat} {l : List Nat} (h : By w A c l) (hlen : l.length ≤ 100000) (k n : Int) (N : Nat) (hN : N = l.length) :
    Calls Try.prog 9 #[.int .i64 k, .slice A N c, .int .i64 n] w (UnpR (Mo.open_ k l n) w) := by
  obtain ⟨i0, hi0, hz0, hs0, hb0⟩ := byte_parts (P := Try.prog) (e := 5) (by kernel_rfl)
  obtain ⟨R, hR⟩ : ∃ R, R = Mo.open_ k l n := ⟨_, rfl⟩
  rw [← hR]
  unfold Mo.open_ at hR
  have H := Lib.hid h
  have HN := Lib.hid hN
  have hNb : N ≤ 100000 := by omega
  clear h hN hlen
  by_cases c1 : k < 0
  · rw [if_pos (by omega)] at hR
    have Hr := Lib.hid hR
    have q1 : decide (k < 0) = true := by rw [decide_eq_true_eq]; exact c1
    clear hR c1
    go_enter Try.func9, Try.ntmps9
    go_wp2_with fail
    go_returns
    exact unpR_no Hr.out (Below.refl _ _)
  have q1 : decide (k < 0) = false := by rw [decide_eq_false_iff_not]; exact c1
  by_cases c2 : 2 < k
  · rw [if_pos (by omega)] at hR
    have Hr := Lib.hid hR
    have q2 : decide (2 < k) = true := by rw [decide_eq_true_eq]; exact c2
    clear hR c1 c2
    go_enter Try.func9, Try.ntmps9
    go_wp2_with fail
    go_returns
    exact unpR_no Hr.out (Below.refl _ _)
  have q2 : decide (2 < k) = false := by rw [decide_eq_false_iff_not]; exact c2
  by_cases c3 : n < 0
  · rw [if_pos (by omega)] at hR
    have Hr := Lib.hid hR
    have q3 : decide (n < 0) = true := by rw [decide_eq_true_eq]; exact c3
    clear hR c1 c2 c3
    go_enter Try.func9, Try.ntmps9
    go_wp2_with fail
    go_returns
    exact unpR_no Hr.out (Below.refl _ _)
  have q3 : decide (n < 0) = false := by rw [decide_eq_false_iff_not]; exact c3
  by_cases c4 : 4096 < n
  · rw [if_pos (by omega)] at hR
    have Hr := Lib.hid hR
    have q4 : decide (4096 < n) = true := by rw [decide_eq_true_eq]; exact c4
    clear hR c1 c2 c3 c4
    go_enter Try.func9, Try.ntmps9
    go_wp2_with fail
    go_returns
    exact unpR_no Hr.out (Below.refl _ _)
  have q4 : decide (4096 < n) = false := by rw [decide_eq_false_iff_not]; exact c4
  rw [if_neg (by omega)] at hR
  obtain ⟨m, rfl⟩ : ∃ m : Nat, n = (m : Int) := ⟨n.toNat, by omega⟩
  have q4' : decide (4096 < m) = false := by rw [decide_eq_false_iff_not]; omega
  by_cases k0 : k = 0
  · subst k0
    rw [if_pos rfl, ← HN.out] at hR
    by_cases d1 : (N : Int) < (m : Int)
    · rw [if_pos d1] at hR
      have Hr := Lib.hid hR
      have z1 : decide ((N : Int) < (m : Int)) = true := by rw [decide_eq_true_eq]; exact d1
      have z1' : decide (N < m) = true := by rw [decide_eq_true_eq]; omega
      clear hR c1 c2 c3 c4 d1 q1 q2
      go_enter Try.func9, Try.ntmps9
      go_wp2_with fail
      go_returns
      exact unpR_no Hr.out (Below.refl _ _)
    rw [if_neg d1] at hR
    have z1 : decide ((N : Int) < (m : Int)) = false := by rw [decide_eq_false_iff_not]; exact d1
    have z1' : decide (N < m) = false := by rw [decide_eq_false_iff_not]; omega
    by_cases d2 : (m : Int) < (N : Int)
    · rw [if_pos d2] at hR
      have Hr := Lib.hid hR
      have z2 : decide ((m : Int) < (N : Int)) = true := by rw [decide_eq_true_eq]; exact d2
      have z2' : decide (m < N) = true := by rw [decide_eq_true_eq]; omega
      clear hR c1 c2 c3 c4 d1 d2 q1 q2
      go_enter Try.func9, Try.ntmps9
      go_wp2_with fail
      go_returns
      exact unpR_no Hr.out (Below.refl _ _)
    rw [if_neg d2] at hR
    have z2 : decide ((m : Int) < (N : Int)) = false := by rw [decide_eq_false_iff_not]; exact d2
    have z2' : decide (m < N) = false := by rw [decide_eq_false_iff_not]; omega
    have Hr := Lib.hid hR
    have Lq := Lib.hid (show (byts l).length = N by rw [byts_length, HN.out])
    have hc := H.out.cap
    rw [← HN.out] at hc
    have hnil := H.out.nil
    have M0 := Lib.hid (show Mine w w none 0 0 [] from ⟨World.ownsRow_nil _ _ _ _, Below.refl _ _⟩)
    clear hR c1 c2 c3 c4 d1 d2 q1 q2
    go_enter Try.func9, Try.ntmps9
    go_wp2_with (at_builtin; refine wpList_append_sl (base := w.heap.size) _ rfl (.const (.slice none 0 0)) (.tmp 36) _ rfl Try.underlying22 hi0 hz0 hs0 hb0 rfl rfl M0.out.own rfl Lq.out.symm hnil H.out.sl (byts_one _) (by rw [Lq.out]; exact hc) (by rw [Lq.out]; unfold maxLen; omega) (by rw [Lq.out]; omega) (Nat.le_refl _) ?_; intro v6 w6 h1 h2 _; obtain ⟨A6, c6, rfl, m6⟩ := M0.out.app (r := l) HN.out.symm (Nat.zero_add N) h1 h2; have M6 := Lib.hid m6; clear h1 h2 m6)
    go_returns
    exact unpR_ok Hr.out M6.out H.out.lt (by omega)
  have z0 : (k == 0) = false := by rw [beq_eq_false_iff_ne]; exact k0
  rw [if_neg k0] at hR
  by_cases k1 : k = 1
  · subst k1
    rw [if_pos rfl] at hR
    have N1 := Lib.hid (runpack_by H.out (by rw [← HN.out]; exact hNb) (m : Int) N HN.out)
    rw [← hR] at N1
    clear hR c1 c2 c3 c4 q1 q2
    go_enter Try.func9, Try.ntmps9
    go_wp2_with fail
    refine N1.out.mono ?_
    rintro e w1 ⟨A1, cc1, rfl, hy, hb⟩
    have Fin := Lib.hid (show UnpR R w (.returned (.tuple #[.slice A1 R.1.length cc1, .int .i64 (R.2 : Int)])) w1 from ⟨A1, cc1, rfl, hy, hb⟩)
    clear hy hb
    go_wp2_with fail
    go_returns
    exact Fin.out
  have z1 : (k == 1) = false := by rw [beq_eq_false_iff_ne]; exact k1
  rw [if_neg k1, ← HN.out] at hR
  by_cases d1 : N < 2
  · rw [if_pos d1] at hR
    have Hr := Lib.hid hR
    have z2 : decide ((N : Int) < 2) = true := by rw [decide_eq_true_eq]; omega
    have z2' : decide (N < 2) = true := by rw [decide_eq_true_eq]; omega
    clear hR c1 c2 c3 c4 d1
    go_enter Try.func9, Try.ntmps9
    go_wp2_with fail
    go_returns
    exact unpR_no Hr.out (Below.refl _ _)
  rw [if_neg d1] at hR
  have z2 : decide ((N : Int) < 2) = false := by rw [decide_eq_false_iff_not]; omega
  have z2' : decide (N < 2) = false := by rw [decide_eq_false_iff_not]; omega
  obtain ⟨b, o, rfl, cx0⟩ := sl_cell H.out.sl (k := 0) (by rw [← HN.out]; omega)
  obtain ⟨b', o', e', cx1⟩ := sl_cell H.out.sl (k := 1) (by rw [← HN.out]; omega)
  injection e' with e'
  injection e' with e1 e2 _
  subst e1; subst e2
  have hx0 := getB_lt H.out.lt 0
  have hx1 := getB_lt H.out.lt 1
  have B2 := Lib.hid (H.out.from2 (k := 2) (by rw [← HN.out]; omega))
  have cut2 := run_slice_from (P := Try.prog) Try.underlying22 hi0 hs0 (some ⟨b, o, none⟩) N c 2 (by omega)
  rw [show ((2 : Nat) : Int) = 2 from rfl] at cut2
  generalize cutA (some ⟨b, o, none⟩) c 2 = A2 at *
  generalize l.getD 0 0 = x0 at *
  generalize l.getD 1 0 = x1 at *
  rw [Nat.add_zero] at cx0
  obtain ⟨M, hM⟩ : ∃ M : Nat, M = x0 + x1 * 256 := ⟨_, rfl⟩
  rw [← hM] at hR
  have hor := or8 hx0 hx1
  have hMi : (x0 : Int) + (x1 : Int) * 256 = (M : Int) := by omega
  rw [hMi] at hor
  have zN0 : (0 : Int) < (N : Int) := by omega
  have zN1 : (1 : Int) < (N : Int) := by omega
  have w1 : IntKind.i64.wrap ((x1 : Int) * 256) = (x1 : Int) * 256 := by rw [IntKind.wrap_i64]; omega
  have hM6 : M < 65536 := by omega
  have z0N : 0 < N := by omega
  have z1N : 1 < N := by omega
  clear hM hMi
  by_cases d2 : 4096 < M
  · rw [if_pos d2] at hR
    have Hr := Lib.hid hR
    have z3 : decide (4096 < (M : Int)) = true := by rw [decide_eq_true_eq]; omega
    have z3' : decide (4096 < M) = true := by rw [decide_eq_true_eq]; omega
    clear hR c1 c2 c3 c4 d1 d2 hi0 hz0 hs0 hb0
    go_enter Try.func9, Try.ntmps9
    go_wp2_with fail
    go_quiet (fail)
    go_wp2_with fail
    go_returns
    exact unpR_no Hr.out (drewN_below _)
  rw [if_neg d2] at hR
  have z3 : decide (4096 < (M : Int)) = false := by rw [decide_eq_false_iff_not]; omega
  have z3' : decide (4096 < M) = false := by rw [decide_eq_false_iff_not]; omega
  obtain ⟨U, hU⟩ : ∃ U, U = Wd.unpack (l.drop 2) ((M : Nat) : Int) := ⟨_, rfl⟩
  rw [← hU] at hR
  have NW := Lib.hid (fun d => runpw_by (B2.out.below (drewN_below d)) (by rw [List.length_drop, ← HN.out]; omega) ((M : Nat) : Int) (N - 2) (by rw [List.length_drop, HN.out]))
  rw [← hU] at NW
  have HUl := Lib.hid (show U.1.length ≤ 4096 by rw [hU]; exact Wd.unpack_few _ _)
  have HRr := Lib.hid hR
  clear hR hU c1 c2 c3 c4 d1 d2 hi0 hz0 hs0 hb0 H B2
  go_enter Try.func9, Try.ntmps9
  go_wp2_with fail
  go_quiet (fail)
  go_wp2_with fail
  refine (NW.out _).mono ?_
  rintro e w3 ⟨A3, c3, rfl, hy3, hb3⟩
  have Y3 := Lib.hid hy3
  have hbw : Below w.heap.size w w3 := (drewN_below nq).trans hb3
  have B3 := Lib.hid hbw
  clear hy3 hb3 hbw NW
  by_cases u0 : U.2 = 0
  · have hr := HRr.out
    rw [if_pos u0] at hr
    have z4 : (((U.2 : Nat) : Int) != 0) = false := by rw [u0]; rfl
    have z4' : (U.2 != 0) = false := by rw [u0]; rfl
    have N4 := Lib.hid (runpack_by Y3.out (by have := HUl.out; omega) (m : Int) U.1.length rfl)
    rw [← hr] at N4
    clear hr u0
    go_wp2_with fail
    refine N4.out.mono ?_
    rintro e w5 ⟨A5, c5, rfl, hy, hb⟩
    have Fin := Lib.hid (show UnpR R w (.returned (.tuple #[.slice A5 R.1.length c5, .int .i64 (R.2 : Int)])) w5 from ⟨A5, c5, rfl, hy, B3.out.trans (hb.mono B3.out.size)⟩)
    clear hy hb
    go_wp2_with fail
    go_returns
    exact Fin.out
  · have hr := HRr.out
    rw [if_neg u0] at hr
    have Hr := Lib.hid hr
    have z4 : (((U.2 : Nat) : Int) != 0) = true := by rw [bne_iff_ne]; omega
    have z4' : (U.2 != 0) = true := by rw [bne_iff_ne]; exact u0
    clear hr u0
    go_wp2_with fail
    go_returns
    exact unpR_no Hr.out B3.out
end Go.Proofs.Ytnkgcibdibgmjaa

namespace Go.Proofs.Ytnkgcibdibgmjaa
open Go.RowKit Flt

/-- The program's Best is a function of the bytes and the gain. -/
def BestC (P1 P2 : List Nat → List Nat) : Prop := ∀ (w : World) (A : Option Addr) (c : Nat) (l : List Nat) (x N : Nat), By w A c l → l.length ≤ 100000 → N = l.length → x < 2 ^ 64 →
  Calls Try.prog 8 #[.slice A N c, .float .f64 x] w fun e w' => ∃ A' c', e = .returned (.tuple #[.int .i64 ((Mo.best P1 P2 x l).1 : Int), .slice A' (Mo.best P1 P2 x l).2.length c']) ∧ By w' A' c' (Mo.best P1 P2 x l).2 ∧ Below w.heap.size w w'
/-- The program's Open says what the bytes say. -/
def OpenC : Prop := ∀ (w : World) (A : Option Addr) (c : Nat) (l : List Nat) (k n : Int) (N : Nat), By w A c l → l.length ≤ 100000 → N = l.length →
  Calls Try.prog 13 #[.int .i64 k, .slice A N c, .int .i64 n] w (UnpR (Mo.open_ k l n) w)
/-- What lz and words are held to. -/
structure MoOk (P1 P2 : List Nat → List Nat) : Prop where
  one : PackOk P1
  two : WPackOk P2
  lt : ∀ l : List Nat, (∀ x ∈ l, x < 256) → ∀ x ∈ P1 l, x < 256
namespace Mo
section
variable {P1 P2 : List Nat → List Nat} (h : MoOk P1 P2) {b : List Nat}
include h
theorem pos (hb : ∀ x ∈ b, x < 256) (hl : b.length ≤ 4096) : 1 ≤ (P1 b).length := by
  obtain ⟨ss, r, e, -, -⟩ := h.one.seqs b hb hl
  rw [e]; exact Lz.enc_pos ss r
theorem back (hb : ∀ x ∈ b, x < 256) (hl : b.length ≤ 4096) (x : Nat) : open_ ((best P1 P2 x b).1 : Int) (best P1 P2 x b).2 (b.length : Int) = (b, 0) :=
  (open_best h.one h.two hb hl (h.lt b hb) x _).1 rfl
theorem other (hb : ∀ x ∈ b, x < 256) (hl : b.length ≤ 4096) (x : Nat) {n : Int} (hn : n ≠ (b.length : Int)) : ∃ E, E ≠ 0 ∧ open_ ((best P1 P2 x b).1 : Int) (best P1 P2 x b).2 n = ([], E) :=
  (open_best h.one h.two hb hl (h.lt b hb) x _).2 hn
theorem zero (hb : ∀ x ∈ b, x < 256) (hl : b.length ≤ 4096) : best P1 P2 0 b = (0, b) :=
  best_zero hl (pos h hb hl) (by have := pack_most h.one hb hl; omega)
end
def oneF : Nat := 4607182418800017408
theorem worth_144 : worthB oneF 144 512 = true := by kernel_rfl
theorem worth_few : ∀ d p : Nat, p + d = 144 → worthB oneF (p : Int) ((512 : Nat) : Int) = true
  | 0, p, hp => by rw [show p = 144 by omega]; exact worth_144
  | d + 1, p, hp => worth_less (x := oneF) (by decide) (by decide) (worth_few d (p + 1) (by omega))
/-- Noughts are packed. -/
theorem best_noughts {P1 P2 : List Nat → List Nat} (h : MoOk P1 P2) : (best P1 P2 oneF (List.replicate 512 0)).1 ≠ 0 ∧ (best P1 P2 oneF (List.replicate 512 0)).2.length < 256 := by
  have hs := h.one.small 512 0 (by decide) (by decide) (by decide)
  have hlen : (List.replicate 512 (0 : Nat)).length = 512 := List.length_replicate
  rcases best_cases (P1 := P1) (P2 := P2) (b := List.replicate 512 0) oneF (by rw [hlen]; decide) with ⟨e, c1, c2, c3⟩ | ⟨e, c⟩ | e
  · rw [e]; exact ⟨by show (2 : Nat) ≠ 0; decide, by show (both P2 _).length < _; omega⟩
  · rw [e]; exact ⟨by show (1 : Nat) ≠ 0; decide, by show (P1 _).length < _; omega⟩
  · exfalso
    have hw := worth_few (144 - (P1 (List.replicate 512 0)).length) (P1 (List.replicate 512 0)).length (by omega)
    unfold best at e
    rw [if_neg (by rw [hlen]; decide)] at e
    split at e
    · cases e
    · rw [hlen, if_pos hw] at e; cases e
end Mo

set_option maxRecDepth 4000 in
set_option maxHeartbeats 4000000 in
theorem mawake_any {P1 P2 : List Nat → List Nat} (hB : BestC P1 P2) (hO : MoOk P1 P2) (w : World) :
    Calls Try.prog 7 #[] w fun e w' => e = .returned (.bool true) ∧ Below w.heap.size w w' := by
  obtain ⟨zl, hzl⟩ : ∃ l, l = List.replicate 512 (0 : Nat) := ⟨_, rfl⟩
  have zlen : zl.length = 512 := by rw [hzl]; exact List.length_replicate
  have zlt : ∀ x ∈ zl, x < 256 := by intro x hx; rw [hzl] at hx; rw [List.eq_of_mem_replicate hx]; decide
  obtain ⟨b1, b2⟩ := Mo.best_noughts hO
  rw [← hzl] at b1 b2
  have bk := Mo.back hO zlt (by rw [zlen]; decide) Mo.oneF
  have bz := Mo.zero hO zlt (by rw [zlen]; decide)
  rw [zlen] at bk
  obtain ⟨W0, hW0⟩ : ∃ W, W = w.alloc (.cells (zcells 512) 5) := ⟨_, rfl⟩
  have hmk : (Instr.makeSlice 22 (.int .i64 512) (.int .i64 512)).run Try.prog w = .ok (.slice (some ⟨w.heap.size, 0, none⟩) 512 512) W0 := by rw [hW0]; exact make_bytes 512 (by decide) w
  have Y0 := Lib.hid (show By W0 (some ⟨w.heap.size, 0, none⟩) 512 zl by
    rw [hzl, hW0]
    exact ⟨byblk_sl (byblk_zeros w 512), by rw [← hzl]; exact zlt, by rw [List.length_replicate]; exact Nat.le_refl _, by simp, by rw [List.length_replicate]; decide⟩)
  have HB0 := Lib.hid (show Below w.heap.size w W0 by rw [hW0]; exact (Below.refl _ _).alloc (Nat.le_refl _) _)
  have N1 := Lib.hid (hB W0 _ 512 zl Mo.oneF 512 Y0.out (by rw [zlen]; decide) zlen.symm (by decide))
  have N3 := Lib.hid (fun W (h : By W (some ⟨w.heap.size, 0, none⟩) 512 zl) => hB W _ 512 zl 0 512 h (by rw [zlen]; decide) zlen.symm (by decide))
  have Zl := Lib.hid zlen
  rw [bz] at N3
  generalize hZ : Mo.best P1 P2 Mo.oneF zl = Z at *
  unfold Mo.oneF at N1
  have hZl : Z.2.length ≤ 100000 := by omega
  clear hB hO hzl hW0 zlen zlt bz hZ
  obtain ⟨n, hn⟩ : ∃ n, n = Z.2.length := ⟨_, rfl⟩
  obtain ⟨k, hk⟩ : ∃ k, k = Z.1 := ⟨_, rfl⟩
  have Hn := Lib.hid hn
  have Hk := Lib.hid hk
  rw [← hk] at N1 b1
  rw [← hn] at N1 b2
  have Bk := Lib.hid (show Mo.open_ (k : Int) Z.2 (512 : Nat) = (zl, 0) by rw [hk]; exact bk)
  clear hn hk bk
  go_enter Try.func7, Try.ntmps7
  go_wp2_with fail
  refine N1.out.mono ?_
  rintro e w1 ⟨A1, c1, rfl, y1, h1⟩
  have Y1 := Lib.hid (Y0.out.below h1)
  have HB1 := Lib.hid (HB0.out.trans (h1.mono HB0.out.size))
  have N2 := Lib.hid (ropen_by y1 hZl (k : Int) ((512 : Nat) : Int) n Hn.out)
  rw [Bk.out] at N2
  clear y1 h1 N1 Y0 HB0 hmk
  go_wp2_with fail
  refine N2.out.mono ?_
  rintro e w2 ⟨A2, c2, rfl, y2, h2⟩
  have Y2 := Lib.hid (Y1.out.below h2)
  have HB2 := Lib.hid (HB1.out.trans (h2.mono HB1.out.size))
  have hz5 := Zl.out
  have N4 := Lib.hid (N3.out w2 Y2.out)
  clear y2 h2 N2 Y1 HB1 N3
  rw [hz5] at N4 ⊢
  go_wp2_with fail
  refine N4.out.mono ?_
  rintro e w3 ⟨A3, c3, rfl, y3, h3⟩
  have HB3 := Lib.hid (HB2.out.trans (h3.mono HB2.out.size))
  have q1 : decide ((n : Int) < 256) = true := by rw [decide_eq_true_eq]; omega
  have q1' : decide (n < 256) = true := by rw [decide_eq_true_eq]; omega
  have q2 : ((k : Int) != 0) = true := by rw [bne_iff_ne]; omega
  have q2' : (k != 0) = true := by rw [bne_iff_ne]; omega
  clear y3 h3 N4 HB2 hz5
  go_wp2_with fail
  go_ret
  exact ⟨rfl, HB3.out⟩
end Go.Proofs.Ytnkgcibdibgmjaa
