/- Four bytes of a frame changed: Open says so. -/
import Derived.Test.YtpicalkcgioimaaLby
namespace Go.Proofs.Ytpicalkcgioimaa
open Go.RowKit Crc

/-- The list with j bytes changed, from k on. -/
def upd (l : List Nat) (k m : Nat) : Nat → List Nat
  | 0 => l
  | j + 1 => (upd l k m j).set (k + j) ((upd l k m j).getD (k + j) 0 ^^^ m / 2 ^ (8 * j) % 256)
theorem upd_length (l : List Nat) (k m : Nat) : ∀ j, (upd l k m j).length = l.length
  | 0 => rfl
  | j + 1 => by rw [upd, List.length_set]; exact upd_length l k m j
theorem upd_bytes {l : List Nat} (hl : ∀ x ∈ l, x < 256) (k m : Nat) : ∀ j, ∀ x ∈ upd l k m j, x < 256
  | 0 => hl
  | j + 1 => by
    intro x hx
    rcases List.mem_or_eq_of_mem_set hx with h | h
    · exact upd_bytes hl k m j x h
    · subst h
      have h1 : (upd l k m j).getD (k + j) 0 < 256 := by
        rw [List.getD_eq_getElem?_getD]
        cases e : (upd l k m j)[k + j]? with
        | none => decide
        | some y => exact upd_bytes hl k m j y (List.mem_of_getElem? e)
      exact Nat.xor_lt_two_pow (n := 8) h1 (Nat.mod_lt _ (by decide))
theorem upd_lt {l : List Nat} (hl : ∀ x ∈ l, x < 256) (k m j i : Nat) : (upd l k m j).getD i 0 < 256 := by
  rw [List.getD_eq_getElem?_getD]
  cases e : (upd l k m j)[i]? with
  | none => decide
  | some y => exact upd_bytes hl k m j y (List.mem_of_getElem? e)
theorem byts_at {l : List Nat} {i : Nat} (h : i < l.length) : (byts l)[i]? = some (.int .u8 ((l.getD i 0 : Nat) : Int)) := by
  unfold byts
  simp [List.getD, h]

theorem byts_set (l : List Nat) (i u : Nat) : (byts l).set i (.int .u8 (u : Int)) = byts (l.set i u) := by unfold byts; rw [List.map_set]
theorem xor_val {x : Nat} (hx : x < 256) (y e : Nat) : bits BinOp.xor IntKind.u8 (x : Int) ((y : Int) / 2 ^ e % 256) = ((x ^^^ y / 2 ^ e % 256 : Nat) : Int) := by
  have h : (y : Int) / 2 ^ e % 256 = ((y / 2 ^ e % 256 : Nat) : Int) := by simp
  rw [h, u8_xor_nat _ _ hx (Nat.mod_lt _ (by decide))]

theorem parts4 {l : List Nat} {k : Nat} (h : k + 4 ≤ l.length) : ∃ pre x0 x1 x2 x3 post, l = pre ++ ([x0, x1, x2, x3] ++ post) ∧ pre.length = k := by
  refine ⟨l.take k, l[k], l[k + 1], l[k + 2], l[k + 3], l.drop (k + 4), ?_, by simp; omega⟩
  have e : l.drop k = [l[k], l[k + 1], l[k + 2], l[k + 3]] ++ l.drop (k + 4) := by
    rw [List.drop_eq_getElem_cons (by omega), List.drop_eq_getElem_cons (i := k + 1) (by omega), List.drop_eq_getElem_cons (i := k + 1 + 1) (by omega), List.drop_eq_getElem_cons (i := k + 1 + 1 + 1) (by omega)]
    rfl
  rw [← e, List.take_append_drop]

theorem upd_parts (pre post : List Nat) (x0 x1 x2 x3 m : Nat) :
    upd (pre ++ ([x0, x1, x2, x3] ++ post)) pre.length m 4 = pre ++ ([x0 ^^^ m / 2 ^ 0 % 256, x1 ^^^ m / 2 ^ 8 % 256, x2 ^^^ m / 2 ^ 16 % 256, x3 ^^^ m / 2 ^ 24 % 256] ++ post) := by
  simp [upd, List.getD]

theorem upd_sum {l : List Nat} (hl : ∀ x ∈ l, x < 256) {k m : Nat} (hk : k + 4 ≤ l.length) (h0 : 0 < m) (hm : m < 4294967296) : (((sum l : Nat) : Int) != ((sum (upd l k m 4) : Nat) : Int)) = true := by
  obtain ⟨pre, x0, x1, x2, x3, post, rfl, rfl⟩ := parts4 hk
  rw [upd_parts]
  have h := tells (pre := pre) (post := post) (x0 := x0) (x1 := x1) (x2 := x2) (x3 := x3) (m0 := m / 2 ^ 0 % 256) (m1 := m / 2 ^ 8 % 256) (m2 := m / 2 ^ 16 % 256) (m3 := m / 2 ^ 24 % 256)
    (Nat.mod_lt _ (by decide)) (Nat.mod_lt _ (by decide)) (Nat.mod_lt _ (by decide)) (Nat.mod_lt _ (by decide)) (fun c hc => hl c (by simp [hc])) (by omega)
  simp only [bne_iff_ne, ne_eq]
  omega


theorem upd_right (P Q : List Nat) (a m : Nat) (h : a + 4 ≤ Q.length) : upd (P ++ Q) (P.length + a) m 4 = P ++ upd Q a m 4 := by
  obtain ⟨pre, x0, x1, x2, x3, post, rfl, rfl⟩ := parts4 h
  rw [upd_parts, ← List.append_assoc, ← List.length_append, upd_parts, List.append_assoc]
theorem upd_left (P Q : List Nat) (a m : Nat) (h : a + 4 ≤ P.length) : upd (P ++ Q) a m 4 = upd P a m 4 ++ Q := by
  obtain ⟨pre, x0, x1, x2, x3, post, rfl, rfl⟩ := parts4 h
  rw [upd_parts, List.append_assoc, List.append_assoc, upd_parts, List.append_assoc, List.append_assoc]
theorem upd_ne {l : List Nat} (hl : ∀ x ∈ l, x < 256) {k m : Nat} (hk : k + 4 ≤ l.length) (h0 : 0 < m) (hm : m < 4294967296) : sum l ≠ sum (upd l k m 4) := by
  have := upd_sum hl hk h0 hm
  simp only [bne_iff_ne, ne_eq] at this
  omega
theorem openE_zero {l : List Nat} {k : Nat} (h : openE l k = 0) : sizeE l = 0 ∧ g4 l 12 = sumB l ∧ tailBad l l.length = false := by
  unfold openE at h
  by_cases hs : sizeE l ≠ 0
  · rw [if_pos hs] at h; omega
  · rw [if_neg hs] at h
    by_cases h1 : blk (g4 l 8) * 64 < l.length
    · rw [if_pos h1] at h; omega
    · rw [if_neg h1] at h
      by_cases h2 : l.length < blk (g4 l 8) * 64
      · rw [if_pos h2] at h; omega
      · rw [if_neg h2] at h
        by_cases h3 : (g4 l 12 != sumB l || tailBad l l.length) = true
        · rw [if_pos h3] at h; omega
        · rw [Bool.not_eq_true, Bool.or_eq_false_iff] at h3
          exact ⟨by omega, by simpa using h3.1, h3.2⟩
theorem upd_far {l : List Nat} {k m i : Nat} (h : k + 4 ≤ i) : ∀ j, j ≤ 4 → (upd l k m j).getD i 0 = l.getD i 0
  | 0, _ => rfl
  | j + 1, hj => by
    rw [upd, List.getD_eq_getElem?_getD, List.getElem?_set_ne (by omega), ← List.getD_eq_getElem?_getD]
    exact upd_far h j (by omega)
theorem take_app {P Q : List Nat} {n : Nat} (h : P.length = n) : (P ++ Q).take n = P := by subst h; exact List.take_left
theorem drop_app {P Q : List Nat} {n k : Nat} (h : P.length = n) : (P ++ Q).drop (n + k) = Q.drop k := by subst h; rw [← List.drop_drop, List.drop_left]
theorem xor_same {x y : Nat} (h : x ^^^ y = x) : y = 0 := by
  have : x ^^^ (x ^^^ y) = 0 := by rw [h, Nat.xor_self]
  rwa [← Nat.xor_assoc, Nat.xor_self, Nat.zero_xor] at this
theorem all_zero : ∀ {l : List Nat}, l.any (· != 0) = false → l = List.replicate l.length 0
  | [], _ => rfl
  | x :: l, h => by
    rw [List.any_cons, Bool.or_eq_false_iff] at h
    have hx : x = 0 := by simpa using h.1
    rw [List.length_cons, List.replicate_succ, ← all_zero h.2, hx]

/-- What is changed among the first eight bytes, in the sum, or behind it, Open finds. -/
theorem told {k g : Nat} {d : List Nat} (hk : k < 256) (hb : ∀ x ∈ d, x < 256) (hd : d.length ≤ 4096) {a m : Nat} (h0 : 0 < m) (hm : m < 4294967296) (ha : a ≤ 4 ∨ a = 12 ∨ 16 ≤ a) (hlen : a + 4 ≤ (frameB k g d).length) (k' : Nat) :
    openE (upd (frameB k g d) a m 4) k' ≠ 0 := by
  intro hE
  obtain ⟨_, hsum, htail⟩ := openE_zero hE
  have hH : (headB k g d.length).length = 12 := headB_len _ _ _
  have hHb := headB_lt hk g d.length
  have hL : frameB k g d = headB k g d.length ++ (le4 (sum (headB k g d.length ++ d)) ++ (d ++ List.replicate (fill (16 + d.length)) 0)) := by rw [frame_parts]; simp [headB]
  have hS : sum (headB k g d.length ++ d) < 4294967296 := more_lt (by decide) _
  have h8L : g4 (headB k g d.length ++ le4 (sum (headB k g d.length ++ d))) 8 = d.length := by
    have : headB k g d.length ++ le4 (sum (headB k g d.length ++ d)) = ([197, 126, k, 0] ++ le4 g) ++ (le4 d.length ++ le4 (sum (headB k g d.length ++ d))) := by simp [headB]
    rw [this]
    exact g4_le (by omega) ([197, 126, k, 0] ++ le4 g) _
  have hlenL := fr_len k g d
  generalize fill (16 + d.length) = f at *
  generalize headB k g d.length = H at *
  have hHd : ∀ x ∈ H ++ d, x < 256 := fun x hx => by
    rcases List.mem_append.1 hx with h | h
    · exact hHb x h
    · exact hb x h
  -- the length that it tells is the old one
  have hg8 : ∀ X R, X.length = 12 → (∀ i, i < 12 → 8 ≤ i → X.getD i 0 = H.getD i 0) → g4 (X ++ R) 8 = d.length := by
    intro X R hX h
    rw [← h8L]
    refine g4_congr fun i hi h8 => ?_
    rw [getD_app (by omega), getD_app (by omega), h i (by omega) h8]
  rcases ha with ha | rfl | ha
  · -- among the first eight
    have e : upd (frameB k g d) a m 4 = upd H a m 4 ++ (le4 (sum (H ++ d)) ++ (d ++ List.replicate f 0)) := by rw [hL, upd_left _ _ _ _ (by omega)]
    have hu : (upd H a m 4).length = 12 := by rw [upd_length, hH]
    have h8 : g4 (upd (frameB k g d) a m 4) 8 = d.length := by
      rw [e]
      refine hg8 _ _ hu fun i hi h8 => ?_
      exact upd_far (by omega) 4 (Nat.le_refl _)
    have h12 : g4 (upd (frameB k g d) a m 4) 12 = sum (H ++ d) := by
      rw [e, ← hu]; exact g4_le hS _ _
    have hs : sumB (upd (frameB k g d) a m 4) = sum (upd H a m 4 ++ d) := by
      unfold sumB dataB
      rw [h8, e, take_app hu, show 16 = 12 + 4 from rfl, drop_app hu, drop_app (n := 4) (k := 0) (le4_len _), List.drop_zero, List.take_left]
    rw [h12, hs, ← upd_left _ _ _ _ (by omega)] at hsum
    exact upd_ne hHd (by rw [List.length_append]; omega) h0 hm hsum
  · -- in the sum
    have e : upd (frameB k g d) 12 m 4 = H ++ (upd (le4 (sum (H ++ d))) 0 m 4 ++ (d ++ List.replicate f 0)) := by
      have := upd_right H (le4 (sum (H ++ d)) ++ (d ++ List.replicate f 0)) 0 m (by rw [List.length_append, le4_len]; omega)
      rw [hH, Nat.add_zero] at this
      rw [hL, this, upd_left _ _ _ _ (by rw [le4_len]; exact Nat.le_refl _)]
    have h8 : g4 (upd (frameB k g d) 12 m 4) 8 = d.length := by rw [e]; exact hg8 _ _ hH fun _ _ _ => rfl
    have hs : sumB (upd (frameB k g d) 12 m 4) = sum (H ++ d) := by
      unfold sumB dataB
      rw [h8, e, take_app hH, show 16 = 12 + 4 from rfl, drop_app hH, drop_app (n := 4) (k := 0) (by rw [upd_length, le4_len]), List.drop_zero, List.take_left]
    rw [hs] at hsum
    generalize sum (H ++ d) = S at *
    have hu : upd (le4 S) 0 m 4 = [S % 256 ^^^ m / 2 ^ 0 % 256, S / 256 % 256 ^^^ m / 2 ^ 8 % 256, S / 65536 % 256 ^^^ m / 2 ^ 16 % 256, S / 16777216 % 256 ^^^ m / 2 ^ 24 % 256] := upd_parts [] [] _ _ _ _ m
    have hx : ∀ x y : Nat, x < 256 → y < 256 → x ^^^ y < 256 := fun x y h1 h2 => Nat.xor_lt_two_pow (n := 8) h1 h2
    have x0 := hx (S % 256) (m / 2 ^ 0 % 256) (by omega) (by omega)
    have x1 := hx (S / 256 % 256) (m / 2 ^ 8 % 256) (by omega) (by omega)
    have x2 := hx (S / 65536 % 256) (m / 2 ^ 16 % 256) (by omega) (by omega)
    have x3 := hx (S / 16777216 % 256) (m / 2 ^ 24 % 256) (by omega) (by omega)
    have n0 := xor_same (x := S % 256) (y := m / 2 ^ 0 % 256)
    have n1 := xor_same (x := S / 256 % 256) (y := m / 2 ^ 8 % 256)
    have n2 := xor_same (x := S / 65536 % 256) (y := m / 2 ^ 16 % 256)
    have n3 := xor_same (x := S / 16777216 % 256) (y := m / 2 ^ 24 % 256)
    rw [e, hu] at hsum
    have hgv : ∀ (y0 y1 y2 y3 : Nat) (R : List Nat), g4 (H ++ ([y0, y1, y2, y3] ++ R)) 12 = y0 + y1 * 256 + y2 * 65536 + y3 * 16777216 := by
      intro y0 y1 y2 y3 R
      have e0 := getD_at (a := H) (b := [y0, y1, y2, y3] ++ R) (k := 0)
      have e1 := getD_at (a := H) (b := [y0, y1, y2, y3] ++ R) (k := 1)
      have e2 := getD_at (a := H) (b := [y0, y1, y2, y3] ++ R) (k := 2)
      have e3 := getD_at (a := H) (b := [y0, y1, y2, y3] ++ R) (k := 3)
      rw [hH] at e0 e1 e2 e3
      unfold g4
      rw [show (12 : Nat) = 12 + 0 from rfl, e0, e1, e2, e3]
      rfl
    rw [hgv] at hsum
    generalize S % 256 ^^^ m / 2 ^ 0 % 256 = y0 at *
    generalize S / 256 % 256 ^^^ m / 2 ^ 8 % 256 = y1 at *
    generalize S / 65536 % 256 ^^^ m / 2 ^ 16 % 256 = y2 at *
    generalize S / 16777216 % 256 ^^^ m / 2 ^ 24 % 256 = y3 at *
    have z0 := n0 (by omega)
    have z1 := n1 (by omega)
    have z2 := n2 (by omega)
    have z3 := n3 (by omega)
    omega
  · -- behind it
    obtain ⟨b, rfl⟩ : ∃ b, a = 16 + b := ⟨a - 16, by omega⟩
    have hH16 : (H ++ le4 (sum (H ++ d))).length = 16 := by rw [List.length_append, hH, le4_len]
    have hbR : b + 4 ≤ (d ++ List.replicate f 0).length := by rw [List.length_append, List.length_replicate]; omega
    have e : upd (frameB k g d) (16 + b) m 4 = (H ++ le4 (sum (H ++ d))) ++ upd (d ++ List.replicate f 0) b m 4 := by
      have := upd_right (H ++ le4 (sum (H ++ d))) (d ++ List.replicate f 0) b m hbR
      rw [hH16, List.append_assoc] at this
      rw [hL, this]
    have h8 : g4 (upd (frameB k g d) (16 + b) m 4) 8 = d.length := by rw [e, List.append_assoc]; exact hg8 _ _ hH fun _ _ _ => rfl
    have h12 : g4 (upd (frameB k g d) (16 + b) m 4) 12 = sum (H ++ d) := by
      rw [e, List.append_assoc, ← hH]; exact g4_le hS _ _
    have hR'l : (upd (d ++ List.replicate f 0) b m 4).length = d.length + f := by rw [upd_length, List.length_append, List.length_replicate]
    have hne := upd_right H (d ++ List.replicate f 0) b m hbR
    rw [hH] at hne
    have hs : sumB (upd (frameB k g d) (16 + b) m 4) = sum (H ++ (upd (d ++ List.replicate f 0) b m 4).take d.length) := by
      unfold sumB dataB
      rw [h8, e]
      have t12 : ((H ++ le4 (sum (H ++ d))) ++ upd (d ++ List.replicate f 0) b m 4).take 12 = H := by rw [List.append_assoc, take_app hH]
      have t16 : ((H ++ le4 (sum (H ++ d))) ++ upd (d ++ List.replicate f 0) b m 4).drop 16 = upd (d ++ List.replicate f 0) b m 4 := drop_app (k := 0) hH16
      rw [t12, t16]
    unfold tailBad at htail
    rw [List.take_length, h8, e, drop_app hH16] at htail
    have hz := all_zero htail
    rw [List.length_drop, hR'l, Nat.add_sub_cancel_left] at hz
    rw [h12, hs] at hsum
    have hall : sum (H ++ (d ++ List.replicate f 0)) = sum (H ++ upd (d ++ List.replicate f 0) b m 4) := by
      conv => rhs; rw [← List.take_append_drop d.length (upd (d ++ List.replicate f 0) b m 4), hz]
      rw [← List.append_assoc, ← List.append_assoc, sum_append, sum_append (H ++ List.take _ _), hsum]
    rw [← hne] at hall
    refine upd_ne (fun x hx => ?_) ?_ h0 hm hall
    · rcases List.mem_append.1 hx with h | h
      · exact hHb x h
      · rcases List.mem_append.1 h with h | h
        · exact hb x h
        · rw [List.eq_of_mem_replicate h]; decide
    · rw [List.length_append, List.length_append, List.length_replicate]; omega
end Go.Proofs.Ytpicalkcgioimaa
