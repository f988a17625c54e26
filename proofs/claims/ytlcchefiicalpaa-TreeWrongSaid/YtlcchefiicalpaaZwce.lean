/- A node that is being read: its block and its four rows. -/
import Derived.Test.YtlcchefiicalpaaZwi
namespace Go.Proofs.Ytlcchefiicalpaa
open Go.RowKit
theorem own_blk {X : World} {base : Nat} {e : TypeId} {size n : Nat} {v : Value} {xs : List Value} (h : X.ownsRow base e size v n xs) {g : Nat} (hg : v.ownBlock = some g) : ∃ cs, Blk X g e cs :=
  Row.blk (F := fun _ => True) ⟨own_zero' h, fun _ _ => trivial⟩ hg
theorem own_other {X : World} {base base' : Nat} {e e' : TypeId} {size size' n n' : Nat} {v v' : Value} {xs xs' : List Value} (h : X.ownsRow base e size v n xs) (h' : X.ownsRow base' e' size' v' n' xs') (hne : e ≠ e') : ∀ g, v'.ownBlock = some g → v.ownBlock ≠ some g := fun g hg hv => by
  obtain ⟨cs, hb⟩ := own_blk h' hg
  exact own_ne h hb hne g hv rfl
/-- Block xb, older than H, holds a node's five cells; the rows u1 to u4, not older than H, hold the lists. -/
structure NX (w : World) (xb H : Nat) (T TK : TypeId) (hh : Int) (ks : List Int) (ps : List Nd.T3) (gs : List Int) (cs : List Nd.T3) (v1 v2 v3 v4 u1 u2 u3 u4 : Value) : Prop where
  blk : Blk w xb T #[.int .i64 hh, v1, v2, v3, v4]
  o1 : w.ownsRow H 3 1 u1 ks.length (ivs ks)
  o2 : w.ownsRow H 54 3 u2 ps.length (tcs ps)
  o3 : w.ownsRow H 3 1 u3 gs.length (ivs gs)
  o4 : w.ownsRow H TK 3 u4 cs.length (tcs cs)
  dis : ∀ g, u1.ownBlock = some g → u3.ownBlock ≠ some g
  hx : xb < H
  hz : H ≤ w.heap.size
  t1 : TK ≠ 3
  t2 : TK ≠ 54
section
variable {w w' w6 : World} {xb H : Nat} {T TK : TypeId} {hh : Int} {ks gs : List Int} {ps cs : List Nd.T3} {v1 v2 v3 v4 u1 u2 u3 u4 u v : Value}
theorem NX.keep (h : NX w xb H T TK hh ks ps gs cs v1 v2 v3 v4 u1 u2 u3 u4) (hk : ∀ b, b < w.heap.size → b = xb ∨ H ≤ b → w'.heap[b]? = w.heap[b]?) (hs : w.heap.size ≤ w'.heap.size) : NX w' xb H T TK hh ks ps gs cs v1 v2 v3 v4 u1 u2 u3 u4 :=
  ⟨h.blk.keep (hk xb h.blk.lt (.inl rfl)), own_keep h.o1 fun b hb hlt => hk b hlt (.inr (h.o1.lt b hb).1), own_keep h.o2 fun b hb hlt => hk b hlt (.inr (h.o2.lt b hb).1), own_keep h.o3 fun b hb hlt => hk b hlt (.inr (h.o3.lt b hb).1), own_keep h.o4 fun b hb hlt => hk b hlt (.inr (h.o4.lt b hb).1), h.dis, h.hx, Nat.le_trans h.hz hs, h.t1, h.t2⟩
theorem NX.drew (h : NX w xb H T TK hh ks ps gs cs v1 v2 v3 v4 u1 u2 u3 u4) : NX w.drew xb H T TK hh ks ps gs cs v1 v2 v3 v4 u1 u2 u3 u4 := h.keep (fun _ _ _ => rfl) (Nat.le_refl _)
theorem NX.alloc (h : NX w xb H T TK hh ks ps gs cs v1 v2 v3 v4 u1 u2 u3 u4) (o : Obj) : NX (w.alloc o) xb H T TK hh ks ps gs cs v1 v2 v3 v4 u1 u2 u3 u4 := h.keep (fun b hb _ => Below.heap_alloc w o b hb) (by simp)
theorem NX.below (h : NX w xb H T TK hh ks ps gs cs v1 v2 v3 v4 u1 u2 u3 u4) (hb : Below w.heap.size w w') : NX w' xb H T TK hh ks ps gs cs v1 v2 v3 v4 u1 u2 u3 u4 := h.keep (fun b hlt _ => hb.block b hlt) hb.size
theorem NX.chg {F : Nat → Prop} (h : NX w xb H T TK hh ks ps gs cs v1 v2 v3 v4 u1 u2 u3 u4) (hc : Chg F w w') (hF : ∀ b, F b → b ≠ xb ∧ b < H) : NX w' xb H T TK hh ks ps gs cs v1 v2 v3 v4 u1 u2 u3 u4 := h.keep (fun b hlt hb => hc.block b hlt fun hf => by have := hF b hf; omega) hc.size
/-- A store into other memory. -/
theorem NX.far (h : NX w xb H T TK hh ks ps gs cs v1 v2 v3 v4 u1 u2 u3 u4) {q : Addr} (hq : q.block ≠ xb) (h1 : u1.ownBlock ≠ some q.block) (h2 : u2.ownBlock ≠ some q.block) (h3 : u3.ownBlock ≠ some q.block) (h4 : u4.ownBlock ≠ some q.block) (x : Value) : NX (w.setCell q x) xb H T TK hh ks ps gs cs v1 v2 v3 v4 u1 u2 u3 u4 :=
  ⟨h.blk.far hq x, own_far h.o1 h1 x, own_far h.o2 h2 x, own_far h.o3 h3 x, own_far h.o4 h4 x, h.dis, h.hx, by simpa using h.hz, h.t1, h.t2⟩
/-- A block that is newer than all rows. -/
theorem NX.new_ (h : NX w xb H T TK hh ks ps gs cs v1 v2 v3 v4 u1 u2 u3 u4) : u1.ownBlock ≠ some w.heap.size ∧ u2.ownBlock ≠ some w.heap.size ∧ u3.ownBlock ≠ some w.heap.size ∧ u4.ownBlock ≠ some w.heap.size :=
  ⟨fun e => Nat.lt_irrefl _ (h.o1.lt _ e).2, fun e => Nat.lt_irrefl _ (h.o2.lt _ e).2, fun e => Nat.lt_irrefl _ (h.o3.lt _ e).2, fun e => Nat.lt_irrefl _ (h.o4.lt _ e).2⟩
end
end Go.Proofs.Ytlcchefiicalpaa
