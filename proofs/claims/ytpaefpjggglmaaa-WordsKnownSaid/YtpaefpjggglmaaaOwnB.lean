/- Rows of bytes of one's own: appended to, kept. -/
import Derived.Test.YtpaefpjggglmaaaBy
namespace Go.Proofs.Ytpaefpjggglmaaa
open Go.RowKit

theorem chg_below {F : Nat → Prop} {W w w' : World} (h : Chg F W w) (hb : Below W.heap.size w w') : Chg F W w' :=
  ⟨hb.os.trans h.os, hb.tape.trans h.tape, hb.output.trans h.output, Nat.le_trans h.size hb.size, fun b hlt hF => (hb.block b hlt).trans (h.block b hlt hF)⟩
abbrev OwnB (w : World) (B : Nat) (A : Option Addr) (n c : Nat) (l : List Nat) : Prop := w.ownsRow B 5 1 (.slice A n c) n (byts l)
section
variable {w w' : World} {B n c : Nat} {A : Option Addr} {l : List Nat}
theorem ownB_len (h : OwnB w B A n c l) : l.length = n := by
  have := h.1
  rw [byts_length] at this
  omega
theorem ownB_app (h : OwnB w B A n c l) (hB : B ≤ w.heap.size) {v' : Value} {m n' : Nat} {r : List Nat} (hr : r.length = m) (hn : n + m = n') (h1 : w'.ownsRow B 5 1 v' (n + (byts r).length) (byts l ++ byts r)) (h2 : w.grownBy w' (Value.slice A n c).ownBlock) :
    ∃ A' c', v' = .slice A' n' c' ∧ OwnB w' B A' n' c' (l ++ r) ∧ Below B w w' := by
  rw [byts_length, hr, hn, byts_join] at h1
  obtain ⟨A', c', rfl⟩ := own_slice h1
  exact ⟨A', c', rfl, h1, (Below.refl B w).grown h2 hB fun g hg => (h.lt g hg).1⟩
end

/-- The block that a slice of one's own lies in. -/
def bk (A : Option Addr) : Option Nat := (Value.slice A 0 0).ownBlock
theorem bk_own (A : Option Addr) (n c : Nat) : (Value.slice A n c).ownBlock = bk A := by cases A <;> rfl
/-- A row has been appended to: only its own block has changed; it may lie in a new one. -/
structure Ap (B : Nat) (w w' : World) (A A' : Option Addr) : Prop where
  chg : Chg (fun b => bk A = some b) w w'
  new : ∀ b, bk A' = some b → bk A = some b ∨ w.heap.size ≤ b
  bel : Below B w w'
section
variable {B n c : Nat} {w w1 w2 : World} {A A1 A2 : Option Addr} {l : List Nat}
theorem Ap.trans (h : Ap B w w1 A A1) (k : Ap B w1 w2 A1 A2) : Ap B w w2 A A2 := by
  have hs := h.chg.size
  refine ⟨⟨k.chg.os.trans h.chg.os, k.chg.tape.trans h.chg.tape, k.chg.output.trans h.chg.output, Nat.le_trans hs k.chg.size, fun b hb hne => ?_⟩, fun b hb => ?_, h.bel.trans k.bel⟩
  · refine (k.chg.block b (by omega) fun hk => ?_).trans (h.chg.block b hb hne)
    rcases h.new b hk with h' | h'
    · exact hne h'
    · omega
  · rcases k.new b hb with h' | h'
    · exact h.new b h'
    · exact .inr (by omega)
theorem Ap.refl (B : Nat) (w : World) (A : Option Addr) : Ap B w w A A := ⟨Chg.refl _ _, fun _ h => .inl h, Below.refl _ _⟩
theorem Ap.alloc (h : Ap B w w1 A A1) (hB : B ≤ w.heap.size) (o : Obj) : Ap B w (w1.alloc o) A A1 := ⟨h.chg.alloc o, h.new, h.bel.alloc (Nat.le_trans hB h.chg.size) o⟩
theorem ownB_alloc (h : OwnB w B A n c l) (o : Obj) : OwnB (w.alloc o) B A n c l := own_keep h fun _ _ hlt => Below.heap_alloc _ _ _ hlt
theorem ap_app (h : OwnB w B A n c l) (hB : B ≤ w.heap.size) {w' : World} {v' : Value} {m n' : Nat} {r : List Nat} (hr : r.length = m) (hn : n + m = n') (h1 : w'.ownsRow B 5 1 v' (n + (byts r).length) (byts l ++ byts r)) (h2 : w.grownBy w' (Value.slice A n c).ownBlock)
    (h3 : v'.ownBlock = (Value.slice A n c).ownBlock ∨ v'.ownBlock = some w.heap.size) : ∃ A' c', v' = .slice A' n' c' ∧ OwnB w' B A' n' c' (l ++ r) ∧ Ap B w w' A A' := by
  obtain ⟨A', c', rfl, ho, hb⟩ := ownB_app h hB hr hn h1 h2
  rw [bk_own] at h2
  rw [bk_own, bk_own] at h3
  refine ⟨A', c', rfl, ho, (Chg.refl _ w).grown h2 (fun k hk => .inl hk), fun b hb => ?_, hb⟩
  rcases h3 with h3 | h3
  · exact .inl (by rw [← h3]; exact hb)
  · rw [h3] at hb; injection hb with hb; exact .inr (by omega)
end
/-- A row with r appended is returned. -/
def AppR (B : Nat) (A : Option Addr) (n : Nat) (o r : List Nat) (w : World) (e : Ending) (w' : World) : Prop :=
  ∃ A' c', e = .returned (.slice A' (n + r.length) c') ∧ OwnB w' B A' (n + r.length) c' (o ++ r) ∧ Ap B w w' A A'
end Go.Proofs.Ytpaefpjggglmaaa
