/- Two pairs of platters in a statement's walk. -/
import Derived.Test.YtdengokonaljpaaPlay
namespace Go.Proofs.Ytdengokonaljpaa
open Go.RowKit Go.Maps

/-- What is held beside. -/
abbrev Side := World → (Nat → Prop) → Prop
structure Kept (K : Side) : Prop where
  lt : ∀ {w : World} {H : Nat → Prop}, K w H → ∀ b, H b → b < w.heap.size
  keep : ∀ {w w' : World} {H : Nat → Prop}, K w H → w.heap.size ≤ w'.heap.size → (∀ b, H b → w'.heap[b]? = w.heap[b]?) → K w' H
def KRef (k : Nat) (st : PSt) : Side := fun w H => RefR w H k st
def KDev (q : Nat) (st : PSt) : Side := fun w H => Dev w H q st
def KAnd (K L : Side) : Side := fun w H => ∃ H1 H2, K w H1 ∧ L w H2 ∧ (∀ i, H1 i → ¬ H2 i) ∧ ∀ i, H i ↔ H1 i ∨ H2 i
theorem kept_ref (k : Nat) (st : PSt) : Kept (KRef k st) := ⟨fun h => h.lt, fun h hs hk => h.keep hs hk⟩
theorem kept_dev (q : Nat) (st : PSt) : Kept (KDev q st) := ⟨fun h => h.lt, fun h hs hk => h.keep hs hk⟩
theorem kept_and {K L : Side} (hK : Kept K) (hL : Kept L) : Kept (KAnd K L) :=
  ⟨fun ⟨_, _, h1, h2, _, hi⟩ b hb => ((hi b).1 hb).elim (hK.lt h1 b) (hL.lt h2 b), fun ⟨H1, H2, h1, h2, hd, hi⟩ hs hk => ⟨H1, H2, hK.keep h1 hs fun b hb => hk b ((hi b).2 (.inl hb)), hL.keep h2 hs fun b hb => hk b ((hi b).2 (.inr hb)), hd, hi⟩⟩
/-- A pair. -/
abbrev KDuo (p m : Nat) (st : PSt) : Side := KAnd (KDev p st) (KRef m st)
theorem kept_duo (p m : Nat) (st : PSt) : Kept (KDuo p m st) := kept_and (kept_dev p st) (kept_ref m st)

/-- A pair in one state, and what is held beside, all of it new since w. -/
def Pair (w wr : World) (p m : Nat) (st : PSt) (K : Side) : Prop :=
  ∃ F G H, Duo wr F G p m st ∧ K wr H ∧ (∀ i, F i ∨ G i → ¬ H i) ∧ (∀ i, F i ∨ G i ∨ H i → w.heap.size ≤ i) ∧ Below w.heap.size w wr
section
variable {w wr w' : World} {p m q k t : Nat} {st st' S : PSt} {N : Nat} {K L : Side}
theorem Pair.below (h : Pair w wr p m st K) : Below w.heap.size w wr := by obtain ⟨_, _, _, _, _, _, _, h⟩ := h; exact h
theorem Pair.step (hK : Kept K) (h : Pair w wr p m st K) (hb : Below wr.heap.size wr w') : Pair w w' p m st K := by
  obtain ⟨F, G, H, hd, hk, hdis, hF, hbw⟩ := h
  exact ⟨F, G, H, hd.below hb, hK.keep hk hb.size fun b hb' => hb.block b (hK.lt hk b hb'), hdis, hF, hbw.trans (hb.mono hbw.size)⟩
theorem pair_do (hK : Kept K) (h : Pair w wr p m st K) (hf : Fair st N) (hN : N < 1000) {x : Deed} (hx : x.ok w w.heap.size) (hk : x.keep.length ≤ 200) (hq : x.fl.length ≤ 20) :
    Calls Try.prog 12 #[.pointer (some ⟨p, 0, none⟩), .pointer (some ⟨m, 0, none⟩), .agg x.cells] wr fun e w' => e = .returned (.bool true) ∧ Pair w w' p m (st.deed x) K := by
  obtain ⟨F, G, H, hd, hh, hdis, hF, hbw⟩ := h
  refine (do_any hd hf hN (hx.below hbw) hbw.size (fun i hi => hF i (hi.elim .inl (fun h => .inr (.inl h)))) hk hq).mono ?_
  rintro e w' ⟨he, F', G', hd', h1, h2, hc⟩
  have hz := hbw.size
  have hlt := hK.lt hh
  refine ⟨he, F', G', H, hd', hK.keep hh hc.size fun b hb => hc.block b (hlt b hb) (fun hx => hdis b hx hb), fun i hi hH => ?_, fun i hi => ?_, hbw.trans (hc.below hz (fun i hi => hF i (hi.elim .inl (fun h => .inr (.inl h)))))⟩
  · have := hlt i hH
    rcases hi with hi | hi
    · rcases h1 i hi with h | h
      · exact hdis i (.inl h) hH
      · omega
    · rcases h2 i hi with h | h
      · exact hdis i (.inr h) hH
      · omega
  · rcases hi with hi | hi | hi
    · rcases h1 i hi with h | h
      · exact hF i (.inl h)
      · omega
    · rcases h2 i hi with h | h
      · exact hF i (.inr (.inl h))
      · omega
    · exact hF i (.inr (.inr hi))
theorem pair_same (hK : Kept K) (h : Pair w wr p m st K) (hf : Fair st N) :
    Calls Try.prog 13 #[.pointer (some ⟨p, 0, none⟩), .pointer (some ⟨m, 0, none⟩)] wr fun e w' => e = .returned (.bool true) ∧ Pair w w' p m st K := by
  have h' := h
  obtain ⟨F, G, H, hd, _⟩ := h
  refine (same_any hd hf.z).mono fun _ _ ⟨e, n, hn⟩ => ⟨e, ?_⟩
  subst hn
  exact h'.step hK ⟨rfl, rfl, rfl, Nat.le_refl _, fun _ _ => rfl⟩
theorem pair_swap (h : Pair w wr p m st (KDuo q k S)) : Pair w wr q k S (KDuo p m st) := by
  obtain ⟨F, G, H, hd, ⟨H1, H2, h1, h2, hdis12, hi⟩, hdis, hF, hbw⟩ := h
  refine ⟨H1, H2, fun i => F i ∨ G i, ⟨h1, h2, hdis12⟩, ⟨F, G, hd.dev, hd.ref, hd.dis, fun i => Iff.rfl⟩, fun i hx hy => hdis i hy ((hi i).2 hx), fun i hx => hF i ?_, hbw⟩
  rcases hx with hx | hx | hx | hx
  · exact .inr (.inr ((hi i).2 (.inl hx)))
  · exact .inr (.inr ((hi i).2 (.inr hx)))
  · exact .inl hx
  · exact .inr (.inl hx)
/-- A third platter of the document's. -/
theorem pair_new (h : Play w wr p m st) {n : Nat} (h1 : 64 ≤ n) (h2 : n ≤ 8192) :
    Calls Try.prog 11 #[.int .i64 (n : Int)] wr fun e w' => e = .returned (.tuple #[.pointer (some ⟨wr.heap.size, 0, none⟩), .int .i64 0]) ∧ Pair w w' p m st (KRef wr.heap.size (newSt n)) := by
  obtain ⟨F, G, hd, hF, hbw⟩ := h
  refine (rnew_good n h1 h2 wr).mono ?_
  rintro e w' ⟨he, hr, hb⟩
  have hz := hbw.size
  have hlt := hd.lt
  refine ⟨he, F, G, _, hd.below hb, hr, fun i hi hx => by have := hlt i hi; omega, fun i hi => ?_, hbw.trans (hb.mono hz)⟩
  rcases hi with hi | hi | hi
  · exact hF i (.inl hi)
  · exact hF i (.inr hi)
  · omega
/-- A copy is made, and held beside. -/
def PairCopy (w : World) (p m : Nat) (st : PSt) (K : Side) (e : Ending) (w' : World) : Prop := ∃ q, e = .returned (.pointer (some ⟨q, 0, none⟩)) ∧ Pair w w' p m st (KAnd K (KDev q st))
theorem pair_copy (hK : Kept K) (h : Pair w wr p m st K) (hf : Fair st N) (hN : N < 1000) : Calls Try.prog 14 #[.pointer (some ⟨p, 0, none⟩)] wr (PairCopy w p m st K) := by
  obtain ⟨F, G, H, hd, hh, hdis, hF, hbw⟩ := h
  refine (copy_any hd.dev (by have := hf.b.2; omega) (by have := hf.c; omega)).mono ?_
  rintro e w' ⟨q, F', rfl, hq, hnew, hb⟩
  have hz := hbw.size
  have hlt := hd.lt
  have hlt2 := hK.lt hh
  refine ⟨q, rfl, F, G, fun i => H i ∨ F' i, hd.below hb, ⟨H, F', hK.keep hh hb.size fun b hb' => hb.block b (hlt2 b hb'), hq, fun i hi hx => by have h1 := hlt2 i hi; have h2 := hnew i hx; omega, fun i => Iff.rfl⟩, fun i hi hx => ?_, fun i hi => ?_, hbw.trans (hb.mono hz)⟩
  · rcases hx with hx | hx
    · exact hdis i hi hx
    · have h1 := hlt i hi; have h2 := hnew i hx; omega
  · rcases hi with hi | hi | hi | hi
    · exact hF i (.inl hi)
    · exact hF i (.inr (.inl hi))
    · exact hF i (.inr (.inr hi))
    · have := hnew i hi; omega
/-- The twin. -/
theorem pair_twin (h : Pair w wr p m st (KAnd (KRef k S) (KDev q st'))) (hS : S = newSt 64) :
    Calls Try.prog 10 #[.int .i64 64] wr fun e w' => e = .returned (.tuple #[.pointer (some ⟨wr.heap.size + 1, 0, none⟩), .int .i64 0]) ∧ Pair w w' (wr.heap.size + 1) k S (KAnd (KDuo p m st) (KDev q st')) := by
  subst hS
  obtain ⟨F, G, H, hd, ⟨H1, H2, hk1, hq1, hd12, hi⟩, hdis, hF, hbw⟩ := h
  refine (dnew_good 64 (by decide) (by decide) wr).mono ?_
  rintro e w' ⟨he, ht, hb⟩
  have hz := hbw.size
  have hlt := hd.lt
  have hlk : ∀ b, H1 b → b < wr.heap.size := hk1.lt
  have hlq : ∀ b, H2 b → b < wr.heap.size := hq1.lt
  refine ⟨he, _, H1, fun i => (F i ∨ G i) ∨ H2 i, ⟨ht, hk1.keep hb.size fun b hb' => hb.block b (hlk b hb'), fun i hx hy => by have := hlk i hy; omega⟩,
    ⟨fun i => F i ∨ G i, H2, ⟨F, G, (hd.below hb).dev, (hd.below hb).ref, hd.dis, fun i => Iff.rfl⟩, hq1.keep hb.size fun b hb' => hb.block b (hlq b hb'), fun i hx hy => hdis i hx ((hi i).2 (.inr hy)), fun i => Iff.rfl⟩, fun i hx hy => ?_, fun i hx => ?_, hbw.trans (hb.mono hz)⟩
  · rcases hx with hx | hx
    · rcases hy with hy | hy
      · have := hlt i hy; omega
      · have := hlq i hy; omega
    · rcases hy with hy | hy
      · exact hdis i hy ((hi i).2 (.inl hx))
      · exact hd12 i hx hy
  · rcases hx with hx | hx | (hx | hx) | hx
    · omega
    · exact hF i (.inr (.inr ((hi i).2 (.inl hx))))
    · exact hF i (.inl hx)
    · exact hF i (.inr (.inl hx))
    · exact hF i (.inr (.inr ((hi i).2 (.inr hx))))
/-- The copy beside the document's platter that was played again. -/
theorem pair_turn (h : Pair w wr t k S (KAnd (KDuo p m st) (KDev q S))) : Pair w wr p m st (KDuo q k S) := by
  obtain ⟨F, G, H, hd, ⟨H1, H2, ⟨F1, G1, hp, hm, hpm, hi1⟩, hq, hd12, hi⟩, hdis, hF, hbw⟩ := h
  refine ⟨F1, G1, fun i => H2 i ∨ G i, ⟨hp, hm, hpm⟩, ⟨H2, G, hq, hd.ref, fun i hx hy => hdis i (.inr hy) ((hi i).2 (.inr hx)), fun i => Iff.rfl⟩, fun i hx hy => ?_, fun i hx => ?_, hbw⟩
  · rcases hy with hy | hy
    · exact hd12 i ((hi1 i).2 hx) hy
    · exact hdis i (.inr hy) ((hi i).2 (.inl ((hi1 i).2 hx)))
  · rcases hx with hx | hx | hx | hx
    · exact hF i (.inr (.inr ((hi i).2 (.inl ((hi1 i).2 (.inl hx))))))
    · exact hF i (.inr (.inr ((hi i).2 (.inl ((hi1 i).2 (.inr hx))))))
    · exact hF i (.inr (.inr ((hi i).2 (.inr hx))))
    · exact hF i (.inr (.inl hx))
end
end Go.Proofs.Ytdengokonaljpaa
