/- What TreeCuts wants: rows that stay readable, a store into a box of ones own, a Cut twice, a Put of what was cut. -/
import Derived.Test.YtlcchefiicalpaaTlg
import Derived.Test.YtlcchefiicalpaaTmu
import Derived.Test.YtlcchefiicalpaaTcf
import Derived.Test.YtlcchefiicalpaaTrs
namespace Go.Proofs.Ytlcchefiicalpaa
open Go.RowKit
/-- A row that is new since W stays readable whatever becomes of the store. -/
theorem fast_slc {X : Nat → Prop} {W w : World} {D : Option Addr} {d n : Nat} {xs : List Value} (h : SlC w w.heap.size D d n xs) (hf : ∀ a, D = some a → W.heap.size ≤ a.block) (hX : ∀ b, X b → b < W.heap.size) : Fast X w fun u => SlC u u.heap.size D d n xs := fun u k => by
  refine ⟨h.le, h.nil, ?_⟩
  rcases h.sl with h0 | ⟨b, o, e, hb, hc⟩
  · exact .inl h0
  · refine .inr ⟨b, o, e, Nat.lt_of_lt_of_le hb k.size, fun i hi => ?_⟩
    rw [← hc i hi]
    exact cell_heap (k.block b hb fun hx => by have := hX b hx; have := hf _ e; simp only at this; omega)
theorem SlC.chg {w s : World} {rb : Nat} {D : Option Addr} {d n : Nat} {xs : List Value} (h : SlC w w.heap.size D d n xs) (hc : Chg (fun b => b = rb) w s) (hr : ∀ a, D = some a → a.block ≠ rb) : SlC s s.heap.size D d n xs := by
  refine ⟨h.le, h.nil, ?_⟩
  rcases h.sl with h0 | ⟨b, o, e, hb, hcc⟩
  · exact .inl h0
  · refine .inr ⟨b, o, e, Nat.lt_of_lt_of_le hb hc.size, fun i hi => ?_⟩
    rw [← hcc i hi]
    exact cell_heap (hc.block b hb (hr _ e))
def ldRt : Op := Op.load 66 (.tmp 7)
theorem slc_far {w w' : World} {X X' : Nat → Prop} {D : Option Addr} {d n : Nat} {xs : List Value} (h : SlC w w.heap.size D d n xs) (hX : ∀ a, D = some a → ¬ X a.block) (t : Stp w X w' X') : xs = [] ∨ ∀ a, D = some a → ¬ X' a.block := by
  rcases h.sl with h0 | ⟨b, o, e, hb, -⟩
  · exact .inl h0
  · refine .inr fun a ha => ?_
    have hx := hX _ e
    rw [e] at ha
    injection ha with ha
    subst ha
    exact t.far hb hx
theorem fast_slc2 {X : Nat → Prop} {w : World} {D : Option Addr} {d n : Nat} {xs : List Value} (h : SlC w w.heap.size D d n xs) (hX : xs = [] ∨ ∀ a, D = some a → ¬ X a.block) : Fast X w fun u => SlC u u.heap.size D d n xs := fun u k => by
  refine ⟨h.le, h.nil, ?_⟩
  rcases h.sl with h0 | ⟨b, o, e, hb, hc⟩
  · exact .inl h0
  · rcases hX with h0 | hX
    · exact .inl h0
    · refine .inr ⟨b, o, e, Nat.lt_of_lt_of_le hb k.size, fun i hi => ?_⟩
      rw [← hc i hi]
      exact cell_heap (k.block b hb (hX _ e))
theorem lw_chg {B p rb : Nat} {w0 w s : World} {X : Nat → Prop} {st : Tr.MSt} {K K' : World → Prop} (h : LW B w0 p w X st K) (hc : Chg (fun b => b = rb) w s) (hX : ¬ X rb) (hB : B ≤ rb) (hK : Fast X s K') : LW B w0 p s X st K' :=
  ⟨h.rep.keep hc fun b hx hg => hX (hg ▸ hx), ⟨hc.os.trans h.bel.os, hc.tape.trans h.bel.tape, hc.output.trans h.bel.output, Nat.le_trans h.bel.size hc.size, fun b hb => (hc.block b (Nat.lt_of_lt_of_le hb h.sz) (fun e => by have e : b = rb := e; omega)).trans (h.bel.block b hb)⟩, h.ge, Nat.le_trans h.sz hc.size, hK⟩
theorem Tr.cuts_twice (m : List Tr.E) (ks : List Int) : Tr.cuts (Tr.cuts m ks) ks = Tr.cuts m ks := by
  unfold Tr.cuts
  rw [List.filter_filter]
  congr 1
  funext e
  simp
def ldB : Op := Op.load 66 (.tmp 13)
def ldM : Op := Op.load 69 (.tmp 100)
theorem Tr.puts_back {M : List Tr.E} (h : Tr.Asc M) (ks : List Int) : Tr.puts (Tr.cuts M ks) M = M := by
  refine Tr.asc_ext (Tr.puts_asc (Tr.cuts_asc h ks) M) h fun k => ?_
  rw [Tr.puts_get (Tr.cuts_asc h ks)]
  rcases hf : M.reverse.find? (fun e => e.k == k) with _ | e
  · have hn : ∀ x ∈ M, x.k ≠ k := fun x hx hk => by
      have := List.find?_eq_none.1 hf x (List.mem_reverse.2 hx)
      simp [hk] at this
    rw [hf]
    show Tr.get (Tr.cuts M ks) k = Tr.get M k
    rw [Tr.get_none hn, Tr.get_none (m := Tr.cuts M ks) fun x hx => hn x (List.mem_filter.1 hx).1]
  · have h1 := List.mem_reverse.1 (List.mem_of_find?_eq_some hf)
    have h2 : e.k = k := by have := List.find?_some hf; simpa using this
    rw [hf]
    show some e = Tr.get M k
    rw [← h2]
    exact (Tr.get_some h h1 rfl).symm
end Go.Proofs.Ytlcchefiicalpaa
