/- A buffer beside other blocks, as the statements keep it. -/
import Derived.Test.YtfpkbgbkamjbeaaBft
namespace Go.Proofs.Ytfpkbgbkamjbeaa
open Go.RowKit Go.Maps

/-- Nothing of K has changed. -/
def Far (K : Nat → Prop) (w w' : World) : Prop := w.heap.size ≤ w'.heap.size ∧ ∀ b, K b → w'.heap[b]? = w.heap[b]?
theorem Far.refl (K : Nat → Prop) (w : World) : Far K w w := ⟨Nat.le_refl _, fun _ _ => rfl⟩
theorem Far.trans {K : Nat → Prop} {a b c : World} (h : Far K a b) (k : Far K b c) : Far K a c := ⟨Nat.le_trans h.1 k.1, fun i hi => (k.2 i hi).trans (h.2 i hi)⟩
theorem Far.blk {K : Nat → Prop} {w w' : World} {g : Nat} {t : TypeId} {cs : Array Value} (h : Far K w w') (hg : K g) (hB : Blk w g t cs) : Blk w' g t cs := hB.keep (h.2 g hg)
/-- A buffer that lies in blocks that are new since w, and in none of K. -/
def SB (w wr : World) (g k n : Nat) (s : Pend) (K : Nat → Prop) : Prop :=
  ∃ X, BufR wr g X k n s ∧ (∀ b, X b → w.heap.size ≤ b) ∧ Below w.heap.size w wr ∧ ∀ b, K b → b < wr.heap.size ∧ ¬ X b

section
variable {w wr w' : World} {g k n : Nat} {s : Pend} {K : Nat → Prop}
theorem SB.bel (h : SB w wr g k n s K) : Below w.heap.size w wr := by obtain ⟨_, _, _, h, _⟩ := h; exact h
theorem SB.le (h : SB w wr g k n s K) : n ≤ k ∧ k ≤ 512 := by obtain ⟨_, h, _⟩ := h; exact h.le
theorem SB.mono {K' : Nat → Prop} (h : SB w wr g k n s K) (hK : ∀ b, K' b → K b) : SB w wr g k n s K' := by
  obtain ⟨X, h1, h2, h3, h4⟩ := h
  exact ⟨X, h1, h2, h3, fun b hb => h4 b (hK b hb)⟩
theorem SB.step (h : SB w wr g k n s K) (hb : Below wr.heap.size wr w') : SB w w' g k n s K ∧ Far K wr w' := by
  obtain ⟨X, h1, h2, h3, h4⟩ := h
  exact ⟨⟨X, h1.below hb, h2, h3.trans (hb.mono h3.size), fun b hb' => ⟨Nat.lt_of_lt_of_le (h4 b hb').1 hb.size, (h4 b hb').2⟩⟩, hb.size, fun b hb' => hb.block b (h4 b hb').1⟩
/-- A block of one's own is made beside it. -/
theorem SB.new (h : SB w wr g k n s K) (hb : Below wr.heap.size wr w') {g' : Nat} (hg : wr.heap.size ≤ g') (hg' : g' < w'.heap.size) : SB w w' g k n s (fun b => K b ∨ b = g') := by
  obtain ⟨X, h1, h2, h3, h4⟩ := h
  exact ⟨X, h1.below hb, h2, h3.trans (hb.mono h3.size), fun b hb' => by
    rcases hb' with hb' | rfl
    · exact ⟨Nat.lt_of_lt_of_le (h4 b hb').1 hb.size, (h4 b hb').2⟩
    · exact ⟨hg', fun hx => by have := h1.lt b hx; omega⟩⟩
theorem SB.own (h : SB w wr g k n s K) {g' : Nat} (hK : K g') (hg : w.heap.size ≤ g') (u : Value) (i : Nat) : SB w (wr.setCell ⟨g', i, none⟩ u) g k n s K := by
  obtain ⟨X, h1, h2, h3, h4⟩ := h
  exact ⟨X, h1.keep (by simp) fun b hb => Below.heap_setCell _ _ _ _ (fun e => by subst e; exact (h4 _ hK).2 hb), h2, h3.setCell hg u, fun b hb => ⟨by simpa using (h4 b hb).1, (h4 b hb).2⟩⟩
theorem SB.drew (h : SB w wr g k n s K) : SB w wr.drew g k n s K := by
  obtain ⟨X, h1, h2, h3, h4⟩ := h
  exact ⟨X, h1.keep (Nat.le_refl _) fun b hb => rfl, h2, h3.drew, h4⟩

theorem sb_new (k : Int) (hw : Below w.heap.size w wr) : Calls Try.prog 7 #[.int .i64 k] wr fun e w' =>
    e = .returned (.pointer (some ⟨wr.heap.size + 1, 0, none⟩)) ∧ SB w w' (wr.heap.size + 1) (clampN k) 0 (fun _ => none) (fun b => b < wr.heap.size) ∧ Below wr.heap.size wr w' := by
  refine (bnew_any k wr).mono ?_
  rintro e w' ⟨rfl, h1, h2⟩
  exact ⟨rfl, ⟨_, h1, fun b hb => Nat.le_trans hw.size hb.1, hw.trans (h2.mono hw.size), fun b hb => ⟨Nat.lt_of_lt_of_le hb h2.size, fun hx => by have := hx.1; omega⟩⟩, h2⟩
theorem sb_len (h : SB w wr g k n s K) : Calls Try.prog 10 #[.pointer (some ⟨g, 0, none⟩)] wr fun e w' => e = .returned (.int .i64 n) ∧ w' = wr := by
  obtain ⟨X, h1, _⟩ := h
  exact blen_any h1
theorem sb_fits (h : SB w wr g k n s K) {A : Option Addr} {cap B : Nat} {l : List Int} (hl : ∀ x ∈ l, (Lit.int .i64 x).wf = true) (hs : Sl wr B A (ints l)) (hB : B ≤ wr.heap.size) (hlen : l.length ≤ 1000000) :
    Calls Try.prog 14 #[.pointer (some ⟨g, 0, none⟩), .slice A l.length cap] wr fun e w' => e = .returned (.bool (fitGo s n k l (fun _ => false) 0)) ∧ SB w w' g k n s K ∧ Far K wr w' := by
  have h0 := h
  obtain ⟨X, h1, _⟩ := h
  refine (bfits_any h1 hl hs hB hlen).mono ?_
  rintro e w' ⟨rfl, hb⟩
  exact ⟨rfl, h0.step hb⟩
theorem sb_put_no (h : SB w wr g k n s K) {x : Int} (hx : (Lit.int .i64 x).wf = true) {A : Option Addr} {cap B : Nat} {l : List Nat} (hs : Sl wr B A (byts l)) (hB : B ≤ wr.heap.size) (hl : ∀ x ∈ l, x < 256) (hcap : l.length ≤ cap) (hlen : l.length ≤ 1000000000) (hA : A = none → cap = 0) (hok : putOk s n k x l = false) :
    Calls Try.prog 9 #[.pointer (some ⟨g, 0, none⟩), .int .i64 x, .slice A l.length cap] wr fun e w' => e = .returned (.bool false) ∧ SB w w' g k n s K ∧ Far K wr w' := by
  have h0 := h
  obtain ⟨X, h1, _⟩ := h
  refine (bput_any h1 hx hs hB hl hcap hlen hA).mono ?_
  rintro e w' ⟨rfl, h2, _⟩
  rw [hok]
  exact ⟨rfl, h0.step (h2 hok).2⟩
theorem Chg.bel {X : Nat → Prop} (h : Chg X wr w') (hB : Below w.heap.size w wr) (hX : ∀ b, X b → w.heap.size ≤ b) : Below w.heap.size w w' := hB.trans (h.below hB.size hX)
theorem sb_put_yes (h : SB w wr g k n s K) {x : Int} (hx : (Lit.int .i64 x).wf = true) {A : Option Addr} {cap B : Nat} {l : List Nat} (hs : Sl wr B A (byts l)) (hB : B ≤ wr.heap.size) (hl : ∀ x ∈ l, x < 256) (hcap : l.length ≤ cap) (hlen : l.length ≤ 1000000000) (hA : A = none → cap = 0) (hok : putOk s n k x l = true) :
    Calls Try.prog 9 #[.pointer (some ⟨g, 0, none⟩), .int .i64 x, .slice A l.length cap] wr fun e w' => e = .returned (.bool true) ∧ SB w w' g k (more s n x) (setP s x (some l)) K ∧ Far K wr w' := by
  obtain ⟨X, h1, h2, h3, h4⟩ := h
  refine (bput_any h1 hx hs hB hl hcap hlen hA).mono ?_
  rintro e w' ⟨rfl, _, h5⟩
  rw [hok]
  obtain ⟨Y, r1, _, r3, r4⟩ := h5 hok
  refine ⟨rfl, ⟨Y, r1, fun b hb => ?_, Chg.bel r4 h3 h2, fun b hb => ⟨Nat.lt_of_lt_of_le (h4 b hb).1 r4.size, fun hy => ?_⟩⟩, r4.size, fun b hb => r4.block b (h4 b hb).1 (h4 b hb).2⟩
  · rcases r3 b hb with hx | hx
    · exact h2 b hx
    · exact Nat.le_trans h3.size hx
  · rcases r3 b hy with hx | hx
    · exact (h4 b hb).2 hx
    · have := (h4 b hb).1; omega
theorem sb_trim_bad (h : SB w wr g k n s K) {a m : Int} (ha : (Lit.int .i64 a).wf = true) (hn : (Lit.int .i64 m).wf = true) (hbad : m < 0 ∨ a < 0 ∨ 512 < a + m) :
    Calls Try.prog 8 #[.pointer (some ⟨g, 0, none⟩), .int .i64 a, .int .i64 m] wr fun e w' => e = .returned (.bool false) ∧ SB w w' g k n s K ∧ Far K wr w' := by
  have h0 := h
  obtain ⟨X, h1, _⟩ := h
  refine (btrim_no h1 ha hn hbad).mono ?_
  rintro e w' ⟨rfl, rfl⟩
  exact ⟨rfl, h0, Far.refl _ _⟩
theorem sb_trim_no (h : SB w wr g k n s K) {a N : Nat} (haN : a + N ≤ 512) (hok : ¬ trimC s n a N ≤ k) :
    Calls Try.prog 8 #[.pointer (some ⟨g, 0, none⟩), .int .i64 (a : Int), .int .i64 (N : Int)] wr fun e w' => e = .returned (.bool false) ∧ SB w w' g k n s K ∧ Far K wr w' := by
  have h0 := h
  obtain ⟨X, h1, _⟩ := h
  refine (btrim_yes h1 haN).mono ?_
  rintro e w' ⟨rfl, h2, _⟩
  rw [decide_eq_false hok]
  exact ⟨rfl, h0.step (h2 hok)⟩
theorem sb_trim_yes (h : SB w wr g k n s K) {a N : Nat} (haN : a + N ≤ 512) (hok : trimC s n a N ≤ k) :
    Calls Try.prog 8 #[.pointer (some ⟨g, 0, none⟩), .int .i64 (a : Int), .int .i64 (N : Int)] wr fun e w' => e = .returned (.bool true) ∧ SB w w' g k (trimC s n a N) (trimS s a N) K ∧ Far K wr w' := by
  obtain ⟨X, h1, h2, h3, h4⟩ := h
  refine (btrim_yes h1 haN).mono ?_
  rintro e w' ⟨rfl, _, h5⟩
  rw [decide_eq_true hok]
  obtain ⟨r1, r4⟩ := h5 hok
  exact ⟨rfl, ⟨X, r1, h2, Chg.bel r4 h3 h2, fun b hb => ⟨Nat.lt_of_lt_of_le (h4 b hb).1 r4.size, (h4 b hb).2⟩⟩, r4.size, fun b hb => r4.block b (h4 b hb).1 (h4 b hb).2⟩
theorem sb_get (h : SB w wr g k n s K) {x : Int} (hx : (Lit.int .i64 x).wf = true) :
    Calls Try.prog 11 #[.pointer (some ⟨g, 0, none⟩), .int .i64 x] wr fun e w' => GetR wr (s x) e w' ∧ SB w w' g k n s K ∧ Far K wr w' := by
  have h0 := h
  obtain ⟨X, h1, _⟩ := h
  refine (bget_any h1 hx).mono ?_
  intro e w' hg
  have hb : Below wr.heap.size wr w' := by
    cases hs : s x with
    | none => rw [hs] at hg; obtain ⟨_, _, h⟩ := hg; exact h
    | some o => cases o with
      | none => rw [hs] at hg; obtain ⟨_, _, h⟩ := hg; exact h
      | some l => rw [hs] at hg; obtain ⟨_, _, _, _, _, _, h⟩ := hg; exact h
  exact ⟨hg, h0.step hb⟩
end
theorem i64_small {x : Int} (h : -1000000 ≤ x ∧ x ≤ 1000000) : (Lit.int .i64 x).wf = true := by
  simp [Lit.wf, IntKind.min, IntKind.max, IntKind.bits, IntKind.signed]; omega
/-- A sector of noughts. -/
def zb : List Nat := List.replicate 128 0
theorem zb_len : zb.length = 128 := List.length_replicate
theorem zb_lt : ∀ x ∈ zb, x < 256 := fun x hx => by rw [List.eq_of_mem_replicate hx]; decide
end Go.Proofs.Ytfpkbgbkamjbeaa
