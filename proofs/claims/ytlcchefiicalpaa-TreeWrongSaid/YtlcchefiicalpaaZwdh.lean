/- Where a statement stands that has blocks of its own which it changes, beside its memory. The document's map: Put. What TreeCuts wants: rows that stay readable, a store into a box of ones own, a Cut twice, a Put of what was cut. -/
import Derived.Test.YtlcchefiicalpaaZwbh
import Derived.Test.YtlcchefiicalpaaZwde
import Derived.Test.YtlcchefiicalpaaZwf
import Derived.Test.YtlcchefiicalpaaZwi
import Derived.Test.YtlcchefiicalpaaZwj
namespace Go.Proofs.Ytlcchefiicalpaa
open Go.RowKit
structure LG (B : Nat) (w0 : World) (p : Nat) (w : World) (X G : Nat → Prop) (st : Tr.MSt) : Prop where
  rep : MRep p w X st
  bel : Below B w0 w
  ge : ∀ b, X b → B ≤ b
  geG : ∀ b, G b → B ≤ b
  ltG : ∀ b, G b → b < w.heap.size
  dis : ∀ b, G b → ¬ X b
  sz : B ≤ w.heap.size
section
variable {B p : Nat} {w0 w w' : World} {X X' G : Nat → Prop} {st st' : Tr.MSt}
theorem LG.stp (h : LG B w0 p w X G st) (hr : MRep p w' X' st') (hs : Stp w X w' X') : LG B w0 p w' X' G st' :=
  ⟨hr, ⟨hs.chg.os.trans h.bel.os, hs.chg.tape.trans h.bel.tape, hs.chg.output.trans h.bel.output, Nat.le_trans h.bel.size hs.chg.size, fun b hb => (hs.chg.block b (Nat.lt_of_lt_of_le hb h.sz) (fun hx => by have := h.ge b hx; omega)).trans (h.bel.block b hb)⟩,
    fun b hb => (hs.new b hb).elim (h.ge b) fun hl => Nat.le_trans h.sz hl, h.geG, fun b hb => Nat.lt_of_lt_of_le (h.ltG b hb) hs.chg.size, fun b hb hx => (hs.new b hx).elim (h.dis b hb) fun hl => by have := h.ltG b hb; omega, Nat.le_trans h.sz hs.chg.size⟩
theorem LG.keeps (h : LG B w0 p w X G st) (hs : Stp w X w' X') {b : Nat} (hb : G b) : w'.heap[b]? = w.heap[b]? := hs.chg.block b (h.ltG b hb) (h.dis b hb)
theorem LG.below (h : LG B w0 p w X G st) (hb : Below w.heap.size w w') : LG B w0 p w' X G st :=
  h.stp (h.rep.keep (G := fun _ => False) (.of_below _ hb) fun _ _ h => h) (.of_below X hb)
/-- One's own blocks are changed, new ones made. -/
theorem LG.own (h : LG B w0 p w X G st) (hc : Chg G w w') : LG B w0 p w' X G st :=
  ⟨h.rep.keep hc fun b hx hg => h.dis b hg hx, ⟨hc.os.trans h.bel.os, hc.tape.trans h.bel.tape, hc.output.trans h.bel.output, Nat.le_trans h.bel.size hc.size, fun b hb => (hc.block b (Nat.lt_of_lt_of_le hb h.sz) (fun hg => by have := h.geG b hg; omega)).trans (h.bel.block b hb)⟩,
    h.ge, h.geG, fun b hb => Nat.lt_of_lt_of_le (h.ltG b hb) hc.size, h.dis, Nat.le_trans h.sz hc.size⟩
theorem LG.add (h : LG B w0 p w X G st) {b : Nat} (hB : B ≤ b) (hl : b < w.heap.size) (hX : ¬ X b) : LG B w0 p w X (fun c => G c ∨ c = b) st :=
  ⟨h.rep, h.bel, h.ge, fun c hc => hc.elim (h.geG c) fun e => e ▸ hB, fun c hc => hc.elim (h.ltG c) fun e => e ▸ hl, fun c hc => hc.elim (h.dis c) fun e => e ▸ hX, h.sz⟩
theorem LG.less {G' : Nat → Prop} (h : LG B w0 p w X G st) (hG : ∀ b, G' b → G b) : LG B w0 p w X G' st := ⟨h.rep, h.bel, h.ge, fun b hb => h.geG b (hG b hb), fun b hb => h.ltG b (hG b hb), fun b hb => h.dis b (hG b hb), h.sz⟩
theorem LG.fresh (h : LG B w0 p w X G st) : ¬ X w.heap.size ∧ ¬ G w.heap.size := ⟨fun hx => Nat.lt_irrefl _ (h.rep.lt hx), fun hx => Nat.lt_irrefl _ (h.ltG _ hx)⟩
/-- A new block of one's own. -/
theorem LG.new (h : LG B w0 p w X G st) (t : TypeId) (C : Array Value) : LG B w0 p (w.alloc (.cells C t)) X (fun c => G c ∨ c = w.heap.size) st ∧ Blk (w.alloc (.cells C t)) w.heap.size t C :=
  ⟨(h.below (below_alloc1 w _)).add h.sz (by simp) h.fresh.1, Blk.new w t C⟩
end
end Go.Proofs.Ytlcchefiicalpaa
namespace Go.Proofs.Ytlcchefiicalpaa
open Go.RowKit
/-- Entries put, half way. -/
structure PutI (W wr : World) (u : Value) (i : Nat) (m l : List Tr.E) : Prop where
  row : wr.ownsRow W.heap.size 87 5 u (Tr.puts m (l.take i)).length (evs (Tr.puts m (l.take i)))
  bel : Below W.heap.size W wr
end Go.Proofs.Ytlcchefiicalpaa
namespace Go.Proofs.Ytlcchefiicalpaa
open Go.RowKit
theorem SlC.chg {w s : World} {rb : Nat} {D : Option Addr} {d n : Nat} {xs : List Value} (h : SlC w w.heap.size D d n xs) (hc : Chg (fun b => b = rb) w s) (hr : ∀ a, D = some a → a.block ≠ rb) : SlC s s.heap.size D d n xs := by
  refine ⟨h.le, h.nil, ?_⟩
  rcases h.sl with h0 | ⟨b, o, e, hb, hcc⟩
  · exact .inl h0
  · refine .inr ⟨b, o, e, Nat.lt_of_lt_of_le hb hc.size, fun i hi => ?_⟩
    rw [← hcc i hi]
    exact cell_heap (hc.block b hb (hr _ e))
theorem lw_chg {B p rb : Nat} {w0 w s : World} {X : Nat → Prop} {st : Tr.MSt} {K K' : World → Prop} (h : LW B w0 p w X st K) (hc : Chg (fun b => b = rb) w s) (hX : ¬ X rb) (hB : B ≤ rb) (hK : Fast X s K') : LW B w0 p s X st K' :=
  ⟨h.rep.keep hc fun b hx hg => hX (hg ▸ hx), ⟨hc.os.trans h.bel.os, hc.tape.trans h.bel.tape, hc.output.trans h.bel.output, Nat.le_trans h.bel.size hc.size, fun b hb => (hc.block b (Nat.lt_of_lt_of_le hb h.sz) (fun e => by have e : b = rb := e; omega)).trans (h.bel.block b hb)⟩, h.ge, Nat.le_trans h.sz hc.size, hK⟩
end Go.Proofs.Ytlcchefiicalpaa
