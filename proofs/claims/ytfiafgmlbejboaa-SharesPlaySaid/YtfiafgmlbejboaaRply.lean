/- RunsPlay under the contracts. -/
import Derived.Test.YtfiafgmlbejboaaRsam
namespace Go.Proofs.Ytfiafgmlbejboaa
open Go.RowKit

theorem Maps.less {Rep : World → Nat → (Nat → Prop) → List Bool → Prop} {O O' : Nat → Prop} {w : World} {ms : List (Nat × List Bool)} (h : Maps Rep O' w ms) (hO : ∀ b, O b → O' b) : Maps Rep O w ms := by
  obtain ⟨X, h1, h2, h3⟩ := h.has
  exact ⟨fun b hb => h.old b (hO b hb), X, h1, fun i b hb => ⟨fun ho => (h2 i b hb).1 (hO b ho), (h2 i b hb).2⟩, h3⟩
/-- Both maps say F. -/
structure Both (Rep : World → Nat → (Nat → Prop) → List Bool → Prop) (B g gm gb : Nat) (F : List Bool) (w0 wr : World) : Prop where
  has : ∃ O : Nat → Prop, (∀ b, b < B → O b) ∧ O gm ∧ O gb ∧ Maps Rep O wr [(g, F)]
  ref : RRef wr gm gb F
  newm : B ≤ gm
  newb : B ≤ gb
  bel : Below B w0 wr
  few : B ≤ wr.heap.size
section
variable {Rep : World → Nat → (Nat → Prop) → List Bool → Prop} {B g gm gb : Nat} {F F' : List Bool} {w0 w w' : World}
/-- A block d that is neither's stays, whatever the program does. -/
theorem Both.below (hC : RunsC Rep) (h : Both Rep B g gm gb F w0 w) (hb : Below w.heap.size w w') : Both Rep B g gm gb F w0 w' := by
  obtain ⟨O, h1, h2, h3, h4⟩ := h.has
  exact ⟨⟨O, h1, h2, h3, h4.below hC hb⟩, h.ref.keep (hb.block gm h.ref.map.lt) (hb.block gb h.ref.blks.lt), h.newm, h.newb, h.bel.trans (hb.mono h.few), Nat.le_trans h.few hb.size⟩
/-- One has done it, the other will: the map of the program says F', the document's says F; block d stands beside them. -/
structure Mid (Rep : World → Nat → (Nat → Prop) → List Bool → Prop) (B g gm gb d : Nat) (F F' : List Bool) (w0 wr : World) : Prop where
  has : ∃ O : Nat → Prop, (∀ b, b < B → O b) ∧ O gm ∧ O gb ∧ O d ∧ Maps Rep O wr [(g, F')]
  ref : RRef wr gm gb F
  ned : d ≠ gb
  newm : B ≤ gm
  newb : B ≤ gb
  bel : Below B w0 wr
  few : B ≤ wr.heap.size
theorem Both.mid {d : Nat} {f : Nat} {args : Array Value} {v : Value} (hC : RunsC Rep) (h : Both Rep B g gm gb F w0 w) {o : Obj} (hd : d = w.heap.size)
    (P : ∀ X, Rep (w.alloc o) g X F → Calls Try.prog f args (w.alloc o) fun e w' => e = .returned v ∧ OpR Rep g X F' (w.alloc o) w') :
    Calls Try.prog f args (w.alloc o) fun e w' => e = .returned v ∧ Mid Rep B g gm gb d F F' w0 w' ∧ w'.heap[d]? = (w.alloc o).heap[d]? := by
  obtain ⟨O, h1, h2, h3, h4⟩ := h.has
  have hal : Below w.heap.size w (w.alloc o) := (Below.refl _ _).alloc (Nat.le_refl _) _
  have hsz : (w.alloc o).heap.size = w.heap.size + 1 := by simp
  have hm : Maps Rep (fun b => O b ∨ b = d) (w.alloc o) [(g, F)] := h4.foreign hC hal fun b hb => by
    rcases hb with hb | rfl
    · exact ⟨.inl hb, by have := h4.old b hb; omega⟩
    · exact ⟨.inr (by omega), by omega⟩
  have hb := h.below hC hal
  refine (hm.op hC (i := 0) (F' := F') rfl P).mono ?_
  rintro e w' ⟨he, hM, hc⟩
  have key : ∀ b, O b ∨ b = d → w'.heap[b]? = (w.alloc o).heap[b]? := fun b hb => hc.block b (hm.old b hb) fun hn => hn hb
  exact ⟨he, ⟨⟨fun b => O b ∨ b = d, fun b hb => .inl (h1 b hb), .inl h2, .inl h3, .inr rfl, hM⟩, hb.ref.keep (key gm (.inl h2)) (key gb (.inl h3)), by have := h.ref.blks.lt; omega, h.newm, h.newb, hb.bel.trans (Maps.old_below hc hb.few fun b hb => .inl (h1 b hb)), Nat.le_trans hb.few hc.size⟩, key d (.inr rfl)⟩
theorem Mid.both {d : Nat} {v : Value} {f : Nat} {args : Array Value} (hC : RunsC Rep) (h : Mid Rep B g gm gb d F F' w0 w)
    (P : RRef w gm gb F → Calls Try.prog f args w fun e w' => e = .returned v ∧ RRef w' gm gb F' ∧ Chg (fun b => b = gb) w w') :
    Calls Try.prog f args w fun e w' => e = .returned v ∧ Both Rep B g gm gb F' w0 w' ∧ w'.heap[d]? = w.heap[d]? := by
  obtain ⟨O, h1, h2, h3, h4, h5⟩ := h.has
  refine (P h.ref).mono ?_
  rintro e w' ⟨he, hr, hc⟩
  exact ⟨he, ⟨⟨O, h1, h2, h3, h5.keep hC (hc.mono fun b hb => by rw [hb]; exact h3)⟩, hr, h.newm, h.newb, h.bel.trans (hc.below h.few fun b hb => by rw [hb]; exact h.newb), Nat.le_trans h.few hc.size⟩, hc.block d (h5.old d h4) h.ned⟩
theorem Both.same (hC : RunsC Rep) (h : Both Rep B g gm gb F w0 w) : Calls Try.prog 21 #[.pointer (some ⟨g, 0, none⟩), .pointer (some ⟨gm, 0, none⟩)] w fun e w' => e = .returned (.bool true) ∧ Both Rep B g gm gb F w0 w' := by
  obtain ⟨O, _, _, _, h4⟩ := h.has
  obtain ⟨X, e1, _⟩ := h4.has
  exact (same_any hC (e1 0 g F rfl) h.ref).mono fun _ _ ⟨he, hb⟩ => ⟨he, h.below hC hb⟩
/-- The same but for what has been drawn. -/
structure Like (a b : World) : Prop where
  heap : b.heap = a.heap
  os : b.os = a.os
  tape : b.tape = a.tape
  output : b.output = a.output
theorem Like.below {a b c : World} {B : Nat} (h : Below B a b) (k : Like b c) : Below B a c :=
  ⟨k.os.trans h.os, k.tape.trans h.tape, k.output.trans h.output, by rw [k.heap]; exact h.size, fun i hi => by rw [k.heap]; exact h.block i hi⟩
theorem Both.mid' {d : Nat} {f : Nat} {args : Array Value} {v : Value} (hC : RunsC Rep) (h : Both Rep B g gm gb F w0 w) {o : Obj} (hd : d = w.heap.size) {W : World} (hl : Like (w.alloc o) W)
    (P : ∀ X, Rep W g X F → Calls Try.prog f args W fun e w' => e = .returned v ∧ OpR Rep g X F' W w') :
    Calls Try.prog f args W fun e w' => e = .returned v ∧ Mid Rep B g gm gb d F F' w0 w' ∧ w'.heap[d]? = (w.alloc o).heap[d]? := by
  obtain ⟨O, h1, h2, h3, h4⟩ := h.has
  have hal : Below w.heap.size w W := Like.below ((Below.refl _ _).alloc (Nat.le_refl _) _) hl
  have hsz : W.heap.size = w.heap.size + 1 := by rw [hl.heap]; simp
  have hm : Maps Rep (fun b => O b ∨ b = d) W [(g, F)] := h4.foreign hC hal fun b hb => by
    rcases hb with hb | rfl
    · exact ⟨.inl hb, by have := h4.old b hb; omega⟩
    · exact ⟨.inr (by omega), by omega⟩
  have hb := h.below hC hal
  refine (hm.op hC (i := 0) (F' := F') rfl P).mono ?_
  rintro e w' ⟨he, hM, hc⟩
  have key : ∀ b, O b ∨ b = d → w'.heap[b]? = W.heap[b]? := fun b hb => hc.block b (hm.old b hb) fun hn => hn hb
  exact ⟨he, ⟨⟨fun b => O b ∨ b = d, fun b hb => .inl (h1 b hb), .inl h2, .inl h3, .inr rfl, hM⟩, hb.ref.keep (key gm (.inl h2)) (key gb (.inl h3)), by have := h.ref.blks.lt; omega, h.newm, h.newb, hb.bel.trans (Maps.old_below hc hb.few fun b hb => .inl (h1 b hb)), Nat.le_trans hb.few hc.size⟩, by rw [key d (.inr rfl), hl.heap]⟩
theorem Mid.like {d : Nat} (hC : RunsC Rep) (h : Mid Rep B g gm gb d F F' w0 w) (k : Like w w') : Mid Rep B g gm gb d F F' w0 w' := by
  obtain ⟨O, h1, h2, h3, h4, h5⟩ := h.has
  have hb : Below w.heap.size w w' := Like.below (Below.refl _ _) k
  exact ⟨⟨O, h1, h2, h3, h4, h5.below hC hb⟩, h.ref.keep (by rw [k.heap]) (by rw [k.heap]), h.ned, h.newm, h.newb, Like.below h.bel k, by rw [k.heap]; exact h.few⟩
end
end Go.Proofs.Ytfiafgmlbejboaa
