/- The bytes that Pack writes (plain Lean, no program). -/
import Derived.Test.YtpfhkbagapodoaaLzpk
namespace Go.Proofs.Ytpfhkbagapodoaa.Lz

theorem enc_lt : ∀ {ss : List Seq} {l : List Nat}, (∀ s ∈ ss, (∀ x ∈ s.lits, x < 256) ∧ s.back < 65536) → (∀ x ∈ l, x < 256) → ∀ x ∈ enc ss l, x < 256
  | [], l, _, hl, x, hx => by
    unfold enc encLast at hx
    rcases List.mem_cons.1 hx with h | h
    · unfold nib at h; omega
    · rcases List.mem_append.1 h with h | h
      · exact ext_lt x h
      · exact hl x h
  | s :: ss, l, hs, hl, x, hx => by
    unfold enc at hx
    rcases List.mem_append.1 hx with h | h
    · obtain ⟨h1, h2⟩ := hs s (List.mem_cons_self ..)
      unfold Seq.enc at h
      rcases List.mem_cons.1 h with h | h
      · unfold nib at h; omega
      rcases List.mem_append.1 h with h | h
      · exact ext_lt x h
      rcases List.mem_append.1 h with h | h
      · exact h1 x h
      rcases List.mem_cons.1 h with h | h
      · omega
      rcases List.mem_cons.1 h with h | h
      · omega
      · exact ext_lt x h
    · exact enc_lt (fun t ht => hs t (List.mem_cons_of_mem _ ht)) hl x h
theorem seqs_lt {l : List Nat} (hl : ∀ x ∈ l, x < 256) (hlen : l.length ≤ 4096) : ∀ (f s a : Nat), a ≤ l.length → (∀ t ∈ (seqs l f s a).1, (∀ x ∈ t.lits, x < 256) ∧ t.back < 65536) ∧ ∀ x ∈ (seqs l f s a).2, x < 256
  | 0, s, a, _ => ⟨by simp [seqs], fun x hx => hl x (List.mem_of_mem_drop hx)⟩
  | f + 1, s, a, ha => by
    unfold seqs
    by_cases h12 : a + 12 ≤ l.length
    · rw [if_pos h12]
      by_cases h0 : findV l a = 0
      · rw [if_pos h0]; exact seqs_lt hl hlen f s (a + 1) (by omega)
      · rw [if_neg h0]
        have hle := sizeF_le l (findV l a - 1) a l.length 4 (by omega)
        change a + sizeV l (findV l a - 1) a + 5 ≤ l.length at hle
        obtain ⟨h1, h2⟩ := seqs_lt hl hlen f (a + sizeV l (findV l a - 1) a) (a + sizeV l (findV l a - 1) a) (by omega)
        refine ⟨fun t ht => ?_, h2⟩
        rcases List.mem_cons.1 ht with h | h
        · subst h
          exact ⟨fun x hx => hl x (List.mem_of_mem_drop (List.mem_of_mem_take hx)), show a - (findV l a - 1) < 65536 by omega⟩
        · exact h1 t h
    · rw [if_neg h12]
      exact ⟨by simp, fun x hx => hl x (List.mem_of_mem_drop hx)⟩
theorem pack_lt {l : List Nat} (hl : ∀ x ∈ l, x < 256) : ∀ x ∈ thePack l, x < 256 := by
  unfold thePack
  split
  · simp
  · obtain ⟨h1, h2⟩ := seqs_lt hl (by omega) l.length 0 0 (Nat.zero_le _)
    exact enc_lt h1 h2
theorem pack_seqs {l : List Nat} (hl : ∀ x ∈ l, x < 256) (hlen : l.length ≤ 4096) : ∃ ss r, thePack l = enc ss r ∧ good ss [] ∧ run ss [] ++ r = l := by
  have := seqs_good hl hlen l.length 0 0 (Nat.le_refl _) (Nat.zero_le _)
  rw [List.take_zero] at this
  exact ⟨_, _, by unfold thePack; rw [if_neg (by omega)], this.1, this.2⟩
theorem pack_len {l : List Nat} (hl : ∀ x ∈ l, x < 256) (hlen : l.length ≤ 4096) : (thePack l).length ≤ 4200 := by
  obtain ⟨ss, r, e, _, hr⟩ := pack_seqs hl hlen
  have := enc_most (ss := ss) (l := r)
  rw [hr] at this
  rw [e]; omega
/-- The search's next step. -/
theorem seqs_none {l : List Nat} {f s a : Nat} (h : a + 12 ≤ l.length) (h0 : findV l a = 0) : seqs l (f + 1) s a = seqs l f s (a + 1) := by
  rw [seqs, if_pos h, if_pos h0]
theorem seqs_some {l : List Nat} {f s a p : Nat} (h : a + 12 ≤ l.length) (h0 : findV l a = p + 1) : enc (seqs l (f + 1) s a).1 (seqs l (f + 1) s a).2 = (Seq.mk ((l.drop s).take (a - s)) (a - p) (sizeV l p a - 4)).enc ++ enc (seqs l f (a + sizeV l p a) (a + sizeV l p a)).1 (seqs l f (a + sizeV l p a) (a + sizeV l p a)).2 := by
  rw [seqs, if_pos h, if_neg (by omega), h0, Nat.add_sub_cancel]
  rfl
theorem seqs_end {l : List Nat} {f s a : Nat} (h : ¬ a + 12 ≤ l.length) : seqs l f s a = ([], l.drop s) := by
  cases f with
  | zero => rfl
  | succ f => rw [seqs, if_neg h]
end Go.Proofs.Ytpfhkbagapodoaa.Lz
