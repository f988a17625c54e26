/- States in which no fault is planned. -/
import Derived.Test.YtdengokonaljpaaAtw
namespace Go.Proofs.Ytdengokonaljpaa
open Go.RowKit Go.Maps

theorem no_hit {st : PSt} (h : st.plan = []) (k : Nat) : (st.count k).hit k = false := by simp [PSt.hit, PSt.count, h]
theorem write_yes {st : PSt} (h : st.plan = []) {n : Nat} {l : List Nat} (hn : n < st.blocks.length) (hl : l.length = 64) : st.write n l = (0, (st.count 2).put n l) := by
  unfold PSt.write
  rw [if_neg (by rw [no_hit h]; decide), if_neg (by omega), Int.toNat_natCast]
theorem write_no {st : PSt} (h : st.plan = []) {n : Int} {l : List Nat} (hn : n < 0 ∨ (st.blocks.length : Int) ≤ n ∨ l.length ≠ 64) : st.write n l = (1, st.count 2) := by
  unfold PSt.write
  rw [if_neg (by rw [no_hit h]; decide), if_pos hn]
theorem read_yes {st : PSt} (h : st.plan = []) {n : Nat} (hn : n < st.blocks.length) : st.read n = (0, st.look n) := by
  unfold PSt.read
  rw [if_neg (by rw [no_hit h]; decide), if_neg (by omega), Int.toNat_natCast]
theorem read_no {st : PSt} (h : st.plan = []) {n : Int} (hn : n < 0 ∨ (st.blocks.length : Int) ≤ n) : st.read n = (1, []) := by
  unfold PSt.read
  rw [if_neg (by rw [no_hit h]; decide), if_pos hn]
theorem sync_yes {st : PSt} (h : st.plan = []) : st.sync = (0, { st.count 3 with blocks := applied st (fun _ => true) st.cache.length, cache := [] }) := by
  unfold PSt.sync
  rw [if_neg (by rw [no_hit h]; decide)]
theorem look_put (st : PSt) (n k : Nat) (l : List Nat) : (st.put k l).look n = if k = n then l else st.look n := by
  have hle : ∀ j, j ≤ st.cache.length → scan (st.cache ++ [(k, l)]) n j = scan st.cache n j := by
    intro j hj
    induction j with
    | zero => rfl
    | succ j ih => rw [scan, scan, List.getElem?_append_left (by omega), ih (by omega)]
  unfold PSt.look PSt.put
  simp only [List.length_append, List.length_cons, List.length_nil, Nat.zero_add]
  rw [scan, List.getElem?_append_right (Nat.le_refl _), Nat.sub_self, hle _ (Nat.le_refl _)]
  simp only [List.getElem?_cons_zero]
  by_cases h : k = n
  · rw [if_pos h, if_pos h]; rfl
  · rw [if_neg h, if_neg h]
theorem look_none {st : PSt} (h : st.cache = []) (n : Nat) : st.look n = st.blocks.getD n [] := by unfold PSt.look; rw [h]; rfl
theorem look_count (st : PSt) (k n : Nat) : (st.count k).look n = st.look n := rfl
/-- A write that is said to be done, without its length. -/
abbrev Small.ok (st : PSt) : Prop := Small st
theorem small_of {st : PSt} {N : Nat} (h1 : ∀ k, k ≤ 3 → st.ops k ≤ N) (h2 : st.cache.length ≤ N) (hN : N < 1000000) (h3 : st.blocks.length < 1000000) (h4 : 0 < st.blocks.length) : Small st :=
  ⟨fun k hk => Nat.lt_of_le_of_lt (h1 k hk) hN, by omega, h3, h4⟩
/-- The state has m blocks, and at most N of its operations were asked. -/
structure Mild (st : PSt) (m N : Nat) : Prop where
  o : ∀ k, k ≤ 3 → st.ops k ≤ N
  c : st.cache.length ≤ N
  b : st.blocks.length = m
  p : st.plan = []
theorem Mild.small {st : PSt} {m N : Nat} (h : Mild st m N) (h1 : 0 < m ∧ m < 1000000) (h2 : N < 1000000) : Small st := small_of h.o h.c h2 (by rw [h.b]; exact h1.2) (by rw [h.b]; exact h1.1)
theorem mild_new (n : Nat) : Mild (newSt n) n 0 := ⟨fun _ _ => Nat.le_refl _, Nat.le_refl _, by simp [newSt], rfl⟩
theorem Mild.count {st : PSt} {m N : Nat} (h : Mild st m N) (k : Nat) : Mild (st.count k) m (N + 1) :=
  ⟨fun j hj => by have := h.o j hj; simp only [PSt.count, bump]; split <;> omega, by have := h.c; simp only [PSt.count]; omega, h.b, h.p⟩
theorem Mild.put {st : PSt} {m N : Nat} (h : Mild st m N) (k : Nat) (n : Nat) (l : List Nat) : Mild ((st.count k).put n l) m (N + 1) :=
  ⟨fun j hj => (h.count k).o j hj, by have := h.c; simp only [PSt.count, PSt.put, List.length_append, List.length_singleton]; omega, h.b, h.p⟩
theorem Mild.sync {st : PSt} {m N : Nat} (h : Mild st m N) (j : Nat) : Mild { st.count 3 with blocks := applied st (fun _ => true) j, cache := [] } m (N + 1) :=
  ⟨fun j hj => (h.count 3).o j hj, Nat.zero_le _, by show (applied st _ _).length = m; rw [applied_length]; exact h.b, h.p⟩
theorem Mild.crash {st : PSt} {m N : Nat} (h : Mild st m N) (keep : List Bool) : Mild (st.crash keep) m N :=
  ⟨fun j hj => h.o j hj, Nat.zero_le _, by show (applied st _ _).length = m; rw [applied_length]; exact h.b, rfl⟩

section
variable {B : Nat} {w w' : World} {p : Nat} {st st' : PSt} {ks : List (Nat × List Nat)} {c : Int}
theorem wr (h : At B w p st ks) (hs : Small st) {n : Int} {m : Nat} {l : List Nat} (hm : (m, l) ∈ ks) (h64 : l.length = 64) (hl : ∀ x ∈ l, x < 256) (he : st.write n l = (c, st')) :
    Calls Try.prog 18 #[.pointer (some ⟨p, 0, none⟩), .int .i64 n, .slice (some ⟨m, 0, none⟩) 64 64] w fun e w' => e = .returned (.int .i64 c) ∧ At B w' p st' ks ∧ Below B w w' := by
  have := at_write h hs n hm h64 hl
  rw [he] at this
  exact this
theorem rd (h : At B w p st ks) (hs : Small st) {n : Int} {l : List Nat} (he : st.read n = (0, l)) (h64 : l.length = 64) :
    Calls Try.prog 20 #[.pointer (some ⟨p, 0, none⟩), .int .i64 n] w fun e w' => ∃ m, e = .returned (.tuple #[.slice (some ⟨m, 0, none⟩) 64 64, .int .i64 0]) ∧ At B w' p (st.count 1) ((m, l) :: ks) ∧ Below B w w' := by
  have := at_read h hs n
  rw [he] at this
  refine this.mono ?_
  rintro e w' ⟨v, rfl, hb, ⟨h0, _⟩ | ⟨_, m, rfl, _, hat⟩⟩
  · simp only at h0; rw [h0] at h64; cases h64
  · exact ⟨m, rfl, hat, hb⟩
theorem rd_no (h : At B w p st ks) (hs : Small st) {n : Int} (he : st.read n = (c, [])) :
    Calls Try.prog 20 #[.pointer (some ⟨p, 0, none⟩), .int .i64 n] w fun e w' => e = .returned (.tuple #[.slice none 0 0, .int .i64 c]) ∧ At B w' p (st.count 1) ks ∧ Below B w w' := by
  have := at_read h hs n
  rw [he] at this
  refine this.mono ?_
  rintro e w' ⟨v, rfl, hb, ⟨_, rfl, hat⟩ | ⟨h64, _⟩⟩
  · exact ⟨rfl, hat, hb⟩
  · cases h64
theorem sy (h : At B w p st ks) (hs : Small st) (he : st.sync = (c, st')) :
    Calls Try.prog 22 #[.pointer (some ⟨p, 0, none⟩)] w fun e w' => e = .returned (.int .i64 c) ∧ At B w' p st' ks ∧ Below B w w' := by
  have := at_sync h hs
  rw [he] at this
  exact this
theorem cr0 (h : At B w p st ks) (hs : Small st) (he : st.crash [] = st') :
    Calls Try.prog 21 #[.pointer (some ⟨p, 0, none⟩), .slice none 0 0] w fun e w' => e = .returned (.tuple #[]) ∧ At B w' p st' ks ∧ Below B w w' := by
  rw [← he]
  exact at_crash h hs (K := none) (keep := []) (cap := 0) (.inl rfl)
theorem At.drew (h : At B w p st ks) : At B w.drew p st ks := h.quiet ((Below.refl _ _).drew)
end
end Go.Proofs.Ytdengokonaljpaa
