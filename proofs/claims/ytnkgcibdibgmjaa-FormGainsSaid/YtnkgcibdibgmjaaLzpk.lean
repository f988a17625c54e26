/- What the program's Pack writes: the sequences that its search finds (plain Lean, no program). The bytes that Pack writes (plain Lean, no program). -/
import Derived.Test.YtnkgcibdibgmjaaLzc
namespace Go.Proofs.Ytnkgcibdibgmjaa.Lz

/-- Four bytes as a number; its hash; the last place before n with that hash, and one more (0: none). -/
def four (l : List Nat) (a : Nat) : Nat := l.getD a 0 + l.getD (a + 1) 0 * 256 + l.getD (a + 2) 0 * 65536 + l.getD (a + 3) 0 * 16777216
def hash (x : Nat) : Nat := x * 2654435761 % 4294967296 / 1048576
def seenV (l : List Nat) : Nat → Nat → Nat
  | 0, _ => 0
  | n + 1, h => if hash (four l n) = h then n + 1 else seenV l n h
/-- One more than the place that find returns (0: none). -/
def findV (l : List Nat) (a : Nat) : Nat :=
  if seenV l a (hash (four l a)) = 0 then 0
  else if four l (seenV l a (hash (four l a)) - 1) = four l a then seenV l a (hash (four l a)) else 0
/-- How many bytes are the same, from n on. -/
def sizeF (l : List Nat) (from_ a : Nat) : Nat → Nat → Nat
  | 0, n => n
  | f + 1, n => if a + n + 5 < l.length ∧ l.getD (from_ + n) 0 = l.getD (a + n) 0 then sizeF l from_ a f (n + 1) else n
def sizeV (l : List Nat) (from_ a : Nat) : Nat := sizeF l from_ a l.length 4
/-- The sequences from a place on, and the literals behind them. -/
def seqs (l : List Nat) : Nat → Nat → Nat → List Seq × List Nat
  | 0, start, _ => ([], l.drop start)
  | f + 1, start, a =>
    if a + 12 ≤ l.length then
      if findV l a = 0 then seqs l f start (a + 1)
      else (⟨(l.drop start).take (a - start), a - (findV l a - 1), sizeV l (findV l a - 1) a - 4⟩ :: (seqs l f (a + sizeV l (findV l a - 1) a) (a + sizeV l (findV l a - 1) a)).1, (seqs l f (a + sizeV l (findV l a - 1) a) (a + sizeV l (findV l a - 1) a)).2)
    else ([], l.drop start)
def thePack (l : List Nat) : List Nat := if 4096 < l.length then [] else enc (seqs l l.length 0 0).1 (seqs l l.length 0 0).2

theorem seenV_le (l : List Nat) (h : Nat) : ∀ n, seenV l n h ≤ n
  | 0 => Nat.le_refl _
  | n + 1 => by
    unfold seenV
    split
    · exact Nat.le_refl _
    · exact Nat.le_succ_of_le (seenV_le l h n)
theorem hash_lt (x : Nat) : hash x < 4096 := by unfold hash; omega
theorem findV_le (l : List Nat) (a : Nat) : findV l a ≤ a := by
  unfold findV
  have := seenV_le l (hash (four l a)) a
  split
  · omega
  · split <;> omega
theorem findV_four {l : List Nat} {a : Nat} (h : findV l a ≠ 0) : four l (findV l a - 1) = four l a := by
  unfold findV at *
  split at h
  · exact absurd rfl h
  · rename_i h0
    split at h
    · rename_i h1
      rw [if_neg h0, if_pos h1]; exact h1
    · exact absurd rfl h
theorem four_eq {l : List Nat} (hl : ∀ x ∈ l, x < 256) {a b : Nat} (h : four l a = four l b) : ∀ i, i < 4 → l.getD (a + i) 0 = l.getD (b + i) 0 := by
  have g : ∀ k, l.getD k 0 < 256 := fun k => by
    rw [List.getD_eq_getElem?_getD]
    rcases Nat.lt_or_ge k l.length with h | h
    · rw [List.getElem?_eq_getElem h]; exact hl _ (List.getElem_mem h)
    · rw [List.getElem?_eq_none h]; decide
  unfold four at h
  have a0 := g a; have a1 := g (a + 1); have a2 := g (a + 2); have a3 := g (a + 3)
  have b0 := g b; have b1 := g (b + 1); have b2 := g (b + 2); have b3 := g (b + 3)
  intro i hi
  have : i = 0 ∨ i = 1 ∨ i = 2 ∨ i = 3 := by omega
  rcases this with rfl | rfl | rfl | rfl
  · rw [Nat.add_zero, Nat.add_zero]; omega
  · omega
  · omega
  · omega
theorem sizeF_ge (l : List Nat) (p a : Nat) : ∀ f n, n ≤ sizeF l p a f n
  | 0, n => Nat.le_refl _
  | f + 1, n => by
    unfold sizeF
    split
    · exact Nat.le_of_succ_le (sizeF_ge l p a f (n + 1))
    · exact Nat.le_refl _
theorem sizeF_le (l : List Nat) (p a : Nat) : ∀ f n, a + n + 5 ≤ l.length → a + sizeF l p a f n + 5 ≤ l.length
  | 0, n, h => h
  | f + 1, n, h => by
    unfold sizeF
    split
    · rename_i h1; exact sizeF_le l p a f (n + 1) (by omega)
    · exact h
theorem sizeF_same (l : List Nat) (p a : Nat) : ∀ f n, (∀ i, i < n → l.getD (p + i) 0 = l.getD (a + i) 0) → ∀ i, i < sizeF l p a f n → l.getD (p + i) 0 = l.getD (a + i) 0
  | 0, n, h => h
  | f + 1, n, h => by
    unfold sizeF
    split
    · rename_i h1
      refine sizeF_same l p a f (n + 1) fun i hi => ?_
      rcases Nat.lt_or_ge i n with h2 | h2
      · exact h i h2
      · rw [show i = n by omega]; exact h1.2
    · exact h
theorem sizeF_stop (l : List Nat) (p a : Nat) : ∀ f n, l.length ≤ f + n → ¬ (a + sizeF l p a f n + 5 < l.length ∧ l.getD (p + sizeF l p a f n) 0 = l.getD (a + sizeF l p a f n) 0)
  | 0, n, h => by unfold sizeF; omega
  | f + 1, n, h => by
    unfold sizeF
    split
    · exact sizeF_stop l p a f (n + 1) (by omega)
    · rename_i h1; exact h1
theorem take_next {l : List Nat} {a : Nat} (h : a < l.length) : l.take (a + 1) = l.take a ++ [l.getD a 0] := by
  rw [List.take_add_one, List.getElem?_eq_getElem h, List.getD_eq_getElem?_getD, List.getElem?_eq_getElem h]; rfl
/-- A copy of bytes that are the same gives what follows. -/
theorem copy_take {l : List Nat} {p a : Nat} (hp : p < a) : ∀ n, a + n ≤ l.length → (∀ i, i < n → l.getD (p + i) 0 = l.getD (a + i) 0) → copyB (l.take a) (a - p) n = l.take (a + n)
  | 0, h, _ => rfl
  | n + 1, h, hs => by
    have ih := copy_take hp n (by omega) (fun i hi => hs i (by omega))
    rw [copyB_next, ih, show a + (n + 1) = a + n + 1 from rfl, take_next (by omega)]
    congr 2
    rw [List.length_take, Nat.min_eq_left (by omega), List.getD_eq_getElem?_getD, List.getElem?_take, if_pos (by omega), ← List.getD_eq_getElem?_getD, show a + n - (a - p) = p + n by omega]
    exact hs n (by omega)
theorem lits_take {l : List Nat} {s a : Nat} (h : s ≤ a) : l.take s ++ (l.drop s).take (a - s) = l.take a := by
  rw [← List.drop_take]
  conv => rhs; rw [← List.take_append_drop s (l.take a)]
  rw [List.take_take, Nat.min_eq_left h]
/-- What is found is good, and gives the bytes back. -/
theorem seqs_good {l : List Nat} (hl : ∀ x ∈ l, x < 256) (hlen : l.length ≤ 4096) : ∀ (f s a : Nat), s ≤ a → a ≤ l.length → good (seqs l f s a).1 (l.take s) ∧ run (seqs l f s a).1 (l.take s) ++ (seqs l f s a).2 = l
  | 0, s, a, hs, ha => ⟨trivial, by simp [seqs, run]⟩
  | f + 1, s, a, hs, ha => by
    unfold seqs
    by_cases h12 : a + 12 ≤ l.length
    · rw [if_pos h12]
      by_cases h0 : findV l a = 0
      · rw [if_pos h0]; exact seqs_good hl hlen f s (a + 1) (by omega) (by omega)
      · rw [if_neg h0]
        have hle := findV_le l a
        obtain ⟨p, hp⟩ : ∃ p, findV l a = p + 1 := ⟨findV l a - 1, by omega⟩
        have h4 := findV_four h0
        rw [hp, Nat.add_sub_cancel] at h4 ⊢
        have hpa : p < a := by omega
        have hs4 := sizeF_same l p a l.length 4 (four_eq hl h4)
        have hge := sizeF_ge l p a l.length 4
        have hle2 := sizeF_le l p a l.length 4 (by omega)
        change ∀ i, i < sizeV l p a → _ at hs4
        change 4 ≤ sizeV l p a at hge
        change a + sizeV l p a + 5 ≤ l.length at hle2
        generalize sizeV l p a = n at *
        have hrun : (Seq.mk ((l.drop s).take (a - s)) (a - p) (n - 4)).run (l.take s) = l.take (a + n) := by
          unfold Seq.run
          simp only
          rw [lits_take hs, show n - 4 + 4 = n by omega]
          exact copy_take hpa n (by omega) hs4
        obtain ⟨g1, g2⟩ := seqs_good hl hlen f (a + n) (a + n) (Nat.le_refl _) (by omega)
        refine ⟨⟨?_, ?_, ?_, ?_⟩, ?_⟩
        · show 0 < a - p; omega
        · show a - p < 65536; omega
        · show a - p ≤ _
          rw [lits_take hs, List.length_take]; omega
        · rw [hrun]; exact g1
        · rw [run, hrun]; exact g2
    · rw [if_neg h12]; exact ⟨trivial, by simp [run]⟩
theorem seenV_last (l : List Nat) (n : Nat) : seenV l (n + 1) (hash (four l n)) = n + 1 := by unfold seenV; rw [if_pos rfl]

/-- A row of one byte. -/
theorem rep_getD {k x i : Nat} (h : i < k) : (List.replicate k x).getD i 0 = x := by
  rw [List.getD_eq_getElem?_getD, List.getElem?_replicate, if_pos h]; rfl
theorem rep_four {k x i : Nat} (h : i + 4 ≤ k) : four (List.replicate k x) i = x + x * 256 + x * 65536 + x * 16777216 := by
  unfold four
  rw [rep_getD (by omega), rep_getD (by omega), rep_getD (by omega), rep_getD (by omega)]
theorem rep_size {k x p a : Nat} (hpa : p ≤ a) : ∀ f n, k ≤ f + n → a + n + 5 ≤ k → a + sizeF (List.replicate k x) p a f n + 5 = k
  | 0, n, h, h2 => by omega
  | f + 1, n, h, h2 => by
    unfold sizeF
    rw [List.length_replicate]
    by_cases h3 : a + n + 5 < k
    · rw [if_pos ⟨h3, by rw [rep_getD (by omega), rep_getD (by omega)]⟩]
      exact rep_size hpa f (n + 1) (by omega) (by omega)
    · rw [if_neg (fun h => h3 h.1)]; omega
theorem rep_small (k x : Nat) (h64 : 64 ≤ k) (h4096 : k ≤ 4096) : (thePack (List.replicate k x)).length ≤ k / 4 + 16 := by
  unfold thePack
  rw [List.length_replicate, if_neg (by omega)]
  obtain ⟨f, rfl⟩ : ∃ f, k = f + 3 := ⟨k - 3, by omega⟩
  generalize hL : List.replicate (f + 3) x = L
  have hlen : L.length = f + 3 := by rw [← hL, List.length_replicate]
  have h0 : findV L 0 = 0 := by
    unfold findV seenV
    rw [if_pos rfl]
  have hf : ∀ i, i + 4 ≤ f + 3 → four L i = x + x * 256 + x * 65536 + x * 16777216 := fun i hi => by rw [← hL]; exact rep_four hi
  have h1 : findV L 1 = 1 := by
    unfold findV
    have e : hash (four L 1) = hash (four L 0) := by rw [hf 1 (by omega), hf 0 (by omega)]
    rw [e, seenV_last, if_neg (by omega), if_pos (by rw [hf 1 (by omega), hf 0 (by omega)])]
  have hs : 1 + sizeV L 0 1 + 5 = f + 3 := by
    unfold sizeV
    rw [hlen, ← hL]
    exact rep_size (by omega) (f + 3) 4 (by omega) (by omega)
  have e1 : seqs L (f + 3) 0 0 = seqs L (f + 2) 0 1 := by
    rw [seqs, if_pos (by omega), if_pos h0]
  have e2 : seqs L (f + 2) 0 1 = ([⟨(L.drop 0).take 1, 1, f - 7⟩], L.drop (f - 2)) := by
    rw [seqs, if_pos (by omega), if_neg (by omega), h1, show sizeV L (1 - 1) 1 = f - 3 by show sizeV L 0 1 = _; omega, show 1 + (f - 3) = f - 2 by omega]
    have e3 : seqs L (f + 1) (f - 2) (f - 2) = ([], L.drop (f - 2)) := by
      rw [seqs, if_neg (by omega)]
    rw [e3, show f - 3 - 4 = f - 7 by omega]
  rw [e1, e2]
  simp only [enc, Seq.enc, encLast, List.length_append, List.length_cons, List.length_drop, List.length_take, hlen, ext_len]
  split <;> split <;> split <;> omega
end Go.Proofs.Ytnkgcibdibgmjaa.Lz

namespace Go.Proofs.Ytnkgcibdibgmjaa.Lz

theorem enc_lt : ∀ {ss : List Seq} {l : List Nat}, (∀ s ∈ ss, (∀ x ∈ s.lits, x < 256) ∧ s.back < 65536) → (∀ x ∈ l, x < 256) → ∀ x ∈ enc ss l, x < 256
  | [], l, _, hl, x, hx => by
    unfold enc encLast at hx
    rcases List.mem_cons.1 hx with h | h
    · unfold nib at h; omega
    · rcases List.mem_append.1 h with h | h
      · exact ext_lt x h
      · exact hl x h
  | s :: ss, l, hs, hl, x, hx => by
    unfold enc at hx
    rcases List.mem_append.1 hx with h | h
    · obtain ⟨h1, h2⟩ := hs s (List.mem_cons_self ..)
      unfold Seq.enc at h
      rcases List.mem_cons.1 h with h | h
      · unfold nib at h; omega
      rcases List.mem_append.1 h with h | h
      · exact ext_lt x h
      rcases List.mem_append.1 h with h | h
      · exact h1 x h
      rcases List.mem_cons.1 h with h | h
      · omega
      rcases List.mem_cons.1 h with h | h
      · omega
      · exact ext_lt x h
    · exact enc_lt (fun t ht => hs t (List.mem_cons_of_mem _ ht)) hl x h
theorem seqs_lt {l : List Nat} (hl : ∀ x ∈ l, x < 256) (hlen : l.length ≤ 4096) : ∀ (f s a : Nat), a ≤ l.length → (∀ t ∈ (seqs l f s a).1, (∀ x ∈ t.lits, x < 256) ∧ t.back < 65536) ∧ ∀ x ∈ (seqs l f s a).2, x < 256
  | 0, s, a, _ => ⟨by simp [seqs], fun x hx => hl x (List.mem_of_mem_drop hx)⟩
  | f + 1, s, a, ha => by
    unfold seqs
    by_cases h12 : a + 12 ≤ l.length
    · rw [if_pos h12]
      by_cases h0 : findV l a = 0
      · rw [if_pos h0]; exact seqs_lt hl hlen f s (a + 1) (by omega)
      · rw [if_neg h0]
        have hle := sizeF_le l (findV l a - 1) a l.length 4 (by omega)
        change a + sizeV l (findV l a - 1) a + 5 ≤ l.length at hle
        obtain ⟨h1, h2⟩ := seqs_lt hl hlen f (a + sizeV l (findV l a - 1) a) (a + sizeV l (findV l a - 1) a) (by omega)
        refine ⟨fun t ht => ?_, h2⟩
        rcases List.mem_cons.1 ht with h | h
        · subst h
          exact ⟨fun x hx => hl x (List.mem_of_mem_drop (List.mem_of_mem_take hx)), show a - (findV l a - 1) < 65536 by omega⟩
        · exact h1 t h
    · rw [if_neg h12]
      exact ⟨by simp, fun x hx => hl x (List.mem_of_mem_drop hx)⟩
theorem pack_lt {l : List Nat} (hl : ∀ x ∈ l, x < 256) : ∀ x ∈ thePack l, x < 256 := by
  unfold thePack
  split
  · simp
  · obtain ⟨h1, h2⟩ := seqs_lt hl (by omega) l.length 0 0 (Nat.zero_le _)
    exact enc_lt h1 h2
theorem pack_seqs {l : List Nat} (hl : ∀ x ∈ l, x < 256) (hlen : l.length ≤ 4096) : ∃ ss r, thePack l = enc ss r ∧ good ss [] ∧ run ss [] ++ r = l := by
  have := seqs_good hl hlen l.length 0 0 (Nat.le_refl _) (Nat.zero_le _)
  rw [List.take_zero] at this
  exact ⟨_, _, by unfold thePack; rw [if_neg (by omega)], this.1, this.2⟩
theorem pack_len {l : List Nat} (hl : ∀ x ∈ l, x < 256) (hlen : l.length ≤ 4096) : (thePack l).length ≤ 4200 := by
  obtain ⟨ss, r, e, _, hr⟩ := pack_seqs hl hlen
  have := enc_most (ss := ss) (l := r)
  rw [hr] at this
  rw [e]; omega
/-- The search's next step. -/
theorem seqs_none {l : List Nat} {f s a : Nat} (h : a + 12 ≤ l.length) (h0 : findV l a = 0) : seqs l (f + 1) s a = seqs l f s (a + 1) := by
  rw [seqs, if_pos h, if_pos h0]
theorem seqs_some {l : List Nat} {f s a p : Nat} (h : a + 12 ≤ l.length) (h0 : findV l a = p + 1) : enc (seqs l (f + 1) s a).1 (seqs l (f + 1) s a).2 = (Seq.mk ((l.drop s).take (a - s)) (a - p) (sizeV l p a - 4)).enc ++ enc (seqs l f (a + sizeV l p a) (a + sizeV l p a)).1 (seqs l f (a + sizeV l p a) (a + sizeV l p a)).2 := by
  rw [seqs, if_pos h, if_neg (by omega), h0, Nat.add_sub_cancel]
  rfl
theorem seqs_end {l : List Nat} {f s a : Nat} (h : ¬ a + 12 ≤ l.length) : seqs l f s a = ([], l.drop s) := by
  cases f with
  | zero => rfl
  | succ f => rw [seqs, if_neg h]
end Go.Proofs.Ytnkgcibdibgmjaa.Lz
