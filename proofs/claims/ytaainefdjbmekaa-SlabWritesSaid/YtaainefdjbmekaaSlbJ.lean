/- The program's slab in memory: its platter, its map of free blocks and its reference counts side by side; what calls on them leave. Free blocks behind a row of used ones (plain): out of the stage of the map. The statements' Make: a slab on a new platter. A platter's state behind the writes and the reads of a frame (plain). -/
import Derived.Test.YtaainefdjbmekaaSbSlb
namespace Go.Proofs.Ytaainefdjbmekaa
open Go.RowKit Go.Maps

/-- Nothing of K has changed. -/
def Far (K : Nat → Prop) (w w' : World) : Prop := w.heap.size ≤ w'.heap.size ∧ ∀ b, K b → w'.heap[b]? = w.heap[b]?
theorem Far.refl (K : Nat → Prop) (w : World) : Far K w w := ⟨Nat.le_refl _, fun _ _ => rfl⟩
theorem Far.trans {K : Nat → Prop} {a b c : World} (h : Far K a b) (k : Far K b c) : Far K a c := ⟨Nat.le_trans h.1 k.1, fun i hi => (k.2 i hi).trans (h.2 i hi)⟩
theorem Far.blk {K : Nat → Prop} {w w' : World} {g : Nat} {t : TypeId} {cs : Array Value} (h : Far K w w') (hg : K g) (hB : Blk w g t cs) : Blk w' g t cs := hB.keep (h.2 g hg)

theorem Far.set {K : Nat → Prop} {a b : World} (h : Far K a b) {x : Nat} (hx : ¬ K x) (i : Nat) (u : Value) : Far K a (b.setCell ⟨x, i, none⟩ u) :=
  ⟨by simpa using h.1, fun c hc => (Below.heap_setCell _ _ _ _ (fun e => hx (by have e : c = x := e; rw [← e]; exact hc))).trans (h.2 c hc)⟩
theorem Far.mono {K K' : Nat → Prop} {a b : World} (h : Far K a b) (hK : ∀ b, K' b → K b) : Far K' a b := ⟨h.1, fun c hc => h.2 c (hK c hc)⟩
theorem Far.drew {K : Nat → Prop} {a b : World} (h : Far K a b) : Far K a b.drew := h
theorem RepB.keep {w w' : World} {g gs : Nat} {X : Nat → Prop} {F : List Bool} {now was : List Sh.U} (h : RepB w g gs X F now was) (hk : ∀ b, X b → w'.heap[b]? = w.heap[b]?) : RepB w' g gs X F now was := by
  obtain ⟨Xr, l, v, h, h1, h2⟩ := h
  exact ⟨Xr, l, v, h.keep hk, h1, h2⟩
theorem RepB.lt {w : World} {g gs : Nat} {X : Nat → Prop} {F : List Bool} {now was : List Sh.U} (h : RepB w g gs X F now was) : ∀ b, X b → b < w.heap.size := by
  obtain ⟨_, _, _, h, _, _⟩ := h
  exact fun b hb => h.lt hb

/-- Where a slab stands. -/
structure SlP where
  s : Nat
  p : Nat
  g : Nat
  gs : Nat
/-- What a slab says: the generation, the platter, the free blocks, the uses now and at the last Settle. -/
structure SlV where
  gen : Int
  st : PSt
  F : List Bool
  now : List Sh.U
  was : List Sh.U
structure SlI (w wr : World) (P : SlP) (V : SlV) (Fp Xs : Nat → Prop) : Prop where
  dev : Dev wr Fp P.p V.st
  rep : RepB wr P.g P.gs Xs V.F V.now V.was
  blk : Blk wr P.s 77 #[.pointer (some ⟨P.p, 0, none⟩), .pointer (some ⟨P.gs, 0, none⟩), .pointer (some ⟨P.g, 0, none⟩), .int .i64 V.gen]
  fp : ∀ b, Fp b → w.heap.size ≤ b ∧ ¬ Xs b
  xs : ∀ b, Xs b → w.heap.size ≤ b
  sb : w.heap.size ≤ P.s ∧ ¬ Fp P.s ∧ ¬ Xs P.s
  ok : ShSt V.F V.now V.was
  bel : Below w.heap.size w wr
/-- A slab, all of it new since w, beside the blocks K. -/
def SlS (w wr : World) (P : SlP) (V : SlV) (K : Nat → Prop) : Prop := ∃ Fp Xs, SlI w wr P V Fp Xs ∧ ∀ b, K b → b < wr.heap.size ∧ ¬ Fp b ∧ ¬ Xs b ∧ b ≠ P.s

section
variable {w wr w' : World} {P : SlP} {V : SlV} {K : Nat → Prop}
theorem SlS.bel (h : SlS w wr P V K) : Below w.heap.size w wr := by obtain ⟨_, _, h, _⟩ := h; exact h.bel
theorem SlS.ok (h : SlS w wr P V K) : ShSt V.F V.now V.was := by obtain ⟨_, _, h, _⟩ := h; exact h.ok
theorem SlS.wf (h : SlS w wr P V K) : V.st.Wf := by obtain ⟨_, _, h, _⟩ := h; exact h.dev.wf
theorem SlS.lt (h : SlS w wr P V K) {b : Nat} (hb : K b) : b < wr.heap.size := by obtain ⟨_, _, _, h⟩ := h; exact (h b hb).1
theorem SlS.blk (h : SlS w wr P V K) : Blk wr P.s 77 #[.pointer (some ⟨P.p, 0, none⟩), .pointer (some ⟨P.gs, 0, none⟩), .pointer (some ⟨P.g, 0, none⟩), .int .i64 V.gen] := by obtain ⟨_, _, h, _⟩ := h; exact h.blk
theorem SlS.mono {K' : Nat → Prop} (h : SlS w wr P V K) (hK : ∀ b, K' b → K b) : SlS w wr P V K' := by
  obtain ⟨F, X, h1, h2⟩ := h
  exact ⟨F, X, h1, fun b hb => h2 b (hK b hb)⟩
/-- Whatever leaves the slab's own blocks. -/
theorem SlI.keep {Fp Xs : Nat → Prop} (h : SlI w wr P V Fp Xs) (hs : wr.heap.size ≤ w'.heap.size) (hk : ∀ b, Fp b ∨ Xs b ∨ b = P.s → w'.heap[b]? = wr.heap[b]?) (hb : Below w.heap.size w w') : SlI w w' P V Fp Xs :=
  ⟨h.dev.keep hs fun b hb => hk b (.inl hb), h.rep.keep fun b hb => hk b (.inr (.inl hb)), h.blk.keep (hk _ (.inr (.inr rfl))), h.fp, h.xs, h.sb, h.ok, hb⟩
theorem SlI.lt {Fp Xs : Nat → Prop} (h : SlI w wr P V Fp Xs) : ∀ b, Fp b ∨ Xs b ∨ b = P.s → b < wr.heap.size := fun b hb => by
  rcases hb with hb | hb | rfl
  · exact h.dev.lt b hb
  · exact h.rep.lt b hb
  · exact h.blk.lt
theorem SlS.step (h : SlS w wr P V K) (hb : Below wr.heap.size wr w') : SlS w w' P V K ∧ Far K wr w' := by
  obtain ⟨F, X, h1, h2⟩ := h
  exact ⟨⟨F, X, h1.keep hb.size (fun b hx => hb.block b (h1.lt b hx)) (h1.bel.trans (hb.mono h1.bel.size)), fun b hx => ⟨Nat.lt_of_lt_of_le (h2 b hx).1 hb.size, (h2 b hx).2⟩⟩, hb.size, fun b hx => hb.block b (h2 b hx).1⟩
/-- Blocks of one's own are made beside it. -/
theorem SlS.new (h : SlS w wr P V K) (hb : Below wr.heap.size wr w') {Y : Nat → Prop} (hY : ∀ b, Y b → wr.heap.size ≤ b ∧ b < w'.heap.size) : SlS w w' P V (fun b => K b ∨ Y b) := by
  obtain ⟨F, X, h1, h2⟩ := h
  refine ⟨F, X, h1.keep hb.size (fun b hx => hb.block b (h1.lt b hx)) (h1.bel.trans (hb.mono h1.bel.size)), fun b hx => ?_⟩
  rcases hx with hx | hx
  · exact ⟨Nat.lt_of_lt_of_le (h2 b hx).1 hb.size, (h2 b hx).2⟩
  · obtain ⟨h3, h4⟩ := hY b hx
    exact ⟨h4, fun hf => by have := h1.lt b (.inl hf); omega, fun hf => by have := h1.lt b (.inr (.inl hf)); omega, fun hf => by have := h1.lt b (.inr (.inr hf)); omega⟩
theorem SlS.own (h : SlS w wr P V K) {b : Nat} (hK : K b) (hb : w.heap.size ≤ b) (i : Nat) (u : Value) : SlS w (wr.setCell ⟨b, i, none⟩ u) P V K := by
  obtain ⟨F, X, h1, h2⟩ := h
  obtain ⟨_, n1, n2, n3⟩ := h2 b hK
  refine ⟨F, X, h1.keep (by simp) (fun c hc => Below.heap_setCell _ _ _ _ (fun e => ?_)) (h1.bel.setCell hb u), fun c hc => ⟨by simpa using (h2 c hc).1, (h2 c hc).2⟩⟩
  have e : c = b := e
  subst e
  rcases hc with hc | hc | hc
  · exact n1 hc
  · exact n2 hc
  · exact n3 hc
theorem SlS.drew (h : SlS w wr P V K) : SlS w wr.drew P V K := by
  obtain ⟨F, X, h1, h2⟩ := h
  exact ⟨F, X, h1.keep (Nat.le_refl _) (fun _ _ => rfl) h1.bel.drew, h2⟩
/-- Behind a call of the platter. -/
theorem SlS.disk {Fp Xs G : Nat → Prop} {st' : PSt} (h : SlI w wr P V Fp Xs) (hK : ∀ b, K b → b < wr.heap.size ∧ ¬ Fp b ∧ ¬ Xs b ∧ b ≠ P.s) (hd : Dev w' G P.p st') (hG : ∀ b, G b → Fp b ∨ wr.heap.size ≤ b) (hc : Chg Fp wr w') :
    SlS w w' P { V with st := st' } K ∧ Far K wr w' := by
  have hB : Below w.heap.size w w' := h.bel.trans (hc.below h.bel.size fun b hb => (h.fp b hb).1)
  refine ⟨⟨G, Xs, ⟨hd, h.rep.keep fun b hb => hc.block b (h.rep.lt b hb) fun hf => (h.fp b hf).2 hb, h.blk.keep (hc.block _ h.blk.lt h.sb.2.1), fun b hb => ?_, h.xs, ⟨h.sb.1, fun hg => ?_, h.sb.2.2⟩, h.ok, hB⟩, fun b hb => ?_⟩, hc.size, fun b hb => hc.block b (hK b hb).1 (hK b hb).2.1⟩
  · rcases hG b hb with hf | hf
    · exact h.fp b hf
    · exact ⟨Nat.le_trans h.bel.size hf, fun hx => by have := h.rep.lt b hx; omega⟩
  · rcases hG _ hg with hf | hf
    · exact h.sb.2.1 hf
    · have := h.blk.lt; omega
  · obtain ⟨n0, n1, n2, n3⟩ := hK b hb
    refine ⟨Nat.lt_of_lt_of_le n0 hc.size, fun hg => ?_, n2, n3⟩
    rcases hG b hg with hf | hf
    · exact n1 hf
    · omega
/-- Behind a call of the map or the counts. -/
theorem SlS.counts {Fp Xs : Nat → Prop} {F' : List Bool} {now' was' : List Sh.U} (h : SlI w wr P V Fp Xs) (hK : ∀ b, K b → b < wr.heap.size ∧ ¬ Fp b ∧ ¬ Xs b ∧ b ≠ P.s) (ho : OpS RepB P.g P.gs Xs F' now' was' wr w') (hs : ShSt F' now' was') :
    SlS w w' P { V with F := F', now := now', was := was' } K ∧ Far K wr w' := by
  obtain ⟨X', h1, h2, hc⟩ := ho
  have hB : Below w.heap.size w w' := h.bel.trans (hc.below h.bel.size h.xs)
  refine ⟨⟨Fp, X', ⟨h.dev.chg hc fun b hb => (h.fp b hb).2, h1, h.blk.keep (hc.block _ h.blk.lt h.sb.2.2), fun b hb => ⟨(h.fp b hb).1, fun hx => ?_⟩, fun b hb => ?_, ⟨h.sb.1, h.sb.2.1, fun hx => ?_⟩, hs, hB⟩, fun b hb => ?_⟩, hc.size, fun b hb => hc.block b (hK b hb).1 (hK b hb).2.2.1⟩
  · rcases h2 b hx with hx | hx
    · exact (h.fp b hb).2 hx
    · have := h.dev.lt b hb; omega
  · rcases h2 b hb with hx | hx
    · exact h.xs b hx
    · exact Nat.le_trans h.bel.size hx
  · rcases h2 _ hx with hx | hx
    · exact h.sb.2.2 hx
    · have := h.blk.lt; omega
  · obtain ⟨n0, n1, n2, n3⟩ := hK b hb
    refine ⟨Nat.lt_of_lt_of_le n0 hc.size, n1, fun hx => ?_, n3⟩
    rcases h2 b hx with hx | hx
    · exact n2 hx
    · omega

/-- The counts of a platter are small. -/
structure SmallS (st : PSt) (m : Nat) : Prop where
  o : ∀ k, k ≤ 3 → st.ops k + m < 1000000
  c : st.cache.length + m < 1000000
  b : st.blocks.length < 1000000
theorem SmallS.mono {st : PSt} {m m' : Nat} (h : SmallS st m) (hm : m' ≤ m) : SmallS st m' := ⟨fun k hk => by have := h.o k hk; omega, by have := h.c; omega, h.b⟩
theorem SmallS.count {st : PSt} {m : Nat} (h : SmallS st (m + 1)) (k : Nat) : SmallS (st.count k) m := ⟨fun k' hk' => by have := h.o k' hk'; simp only [PSt.count, bump]; split <;> omega, by have := h.c; simp only [PSt.count]; omega, h.b⟩
theorem SmallS.write {st : PSt} {m : Nat} (h : SmallS st (m + 1)) (n : Int) (l : List Nat) : SmallS (st.write n l).2 m := by
  have h2 := h.count 2
  unfold PSt.write
  split
  · exact h2
  · split
    · exact h2
    · refine ⟨h2.o, ?_, h2.b⟩
      have := h.c
      simp only [PSt.put, PSt.count, List.length_append, List.length_cons, List.length_nil]
      omega

theorem kbOf {F : List Bool} {l : List Sk.K} (hs : ShSt F (Sk.ofN l) (Sk.ofW l)) : KB l := kb_of hs.few hs.few2
theorem sl_take (h : SlS w wr P V K) (n : Int) (hn : I64 n) (hs : ShSt (Rn.take V.F n).2.2 V.now V.was) :
    Calls Try.prog 46 #[.pointer (some ⟨P.g, 0, none⟩), .int .i64 n] wr fun e w' => e = .returned (.tuple #[.int .i64 ((Rn.take V.F n).1 : Int), .bool (Rn.take V.F n).2.1]) ∧ SlS w w' P { V with F := (Rn.take V.F n).2.2 } K ∧ Far K wr w' := by
  obtain ⟨Fp, Xs, hi, hK⟩ := h
  obtain ⟨Xr, l, v, hr, e1, e2⟩ := hi.rep
  refine (take_any' hr.map n hn).mono ?_
  rintro e w' ⟨rfl, ho⟩
  obtain ⟨X', Xr', s1, _, s3, s4⟩ := smap_op hr ho
  exact ⟨rfl, SlS.counts hi hK ⟨X', ⟨Xr', l, v, s1, e1, e2⟩, s3, s4.mono fun b hb => (hr.at_ b).2 (.inl hb)⟩ hs⟩
theorem sl_free (h : SlS w wr P V K) : Calls Try.prog 9 #[.pointer (some ⟨P.g, 0, none⟩)] wr fun e w' => e = .returned (.int .i64 (Rn.freeN V.F : Int)) ∧ SlS w w' P V K ∧ Far K wr w' := by
  have h0 := h
  obtain ⟨Fp, Xs, hi, hK⟩ := h
  obtain ⟨Xr, l, v, hr, e1, e2⟩ := hi.rep
  refine (free_any hr.map).mono ?_
  rintro e w' ⟨rfl, hb⟩
  exact ⟨rfl, h0.step hb⟩
theorem sl_add (h : SlS w wr P V K) (a n : Int) (hs : ShSt V.F (Sh.add V.now a n).2 V.was) :
    Calls Try.prog 47 #[.pointer (some ⟨P.gs, 0, none⟩), .agg #[.int .i64 a, .int .i64 n]] wr fun e w' => e = .returned (.bool (Sh.add V.now a n).1) ∧ SlS w w' P { V with now := (Sh.add V.now a n).2 } K ∧ Far K wr w' := by
  obtain ⟨gen, st, F, now, was⟩ := V
  obtain ⟨Fp, Xs, hi, hK⟩ := h
  obtain ⟨Xr, l, v, hr, e1, e2⟩ := hi.rep
  have e1 : now = Sk.ofN l := e1
  have e2 : was = Sk.ofW l := e2
  subst e1 e2
  refine (sadd_any' hr (kbOf hi.ok) a n hs.few).mono ?_
  rintro e w' ⟨rfl, ho⟩
  exact ⟨rfl, SlS.counts hi hK ho hs⟩
theorem sl_less (h : SlS w wr P V K) (a : Int) (hs : ShSt V.F (Sh.change V.now a false).2 V.was) :
    Calls Try.prog 16 #[.pointer (some ⟨P.gs, 0, none⟩), .int .i64 a] wr fun e w' => e = .returned (.bool (Sh.change V.now a false).1) ∧ SlS w w' P { V with now := (Sh.change V.now a false).2 } K ∧ Far K wr w' := by
  obtain ⟨gen, st, F, now, was⟩ := V
  obtain ⟨Fp, Xs, hi, hK⟩ := h
  obtain ⟨Xr, l, v, hr, e1, e2⟩ := hi.rep
  have e1 : now = Sk.ofN l := e1
  have e2 : was = Sk.ofW l := e2
  subst e1 e2
  refine (sless_any' hr (kbOf hi.ok) a).mono ?_
  rintro e w' ⟨rfl, ho⟩
  exact ⟨rfl, SlS.counts hi hK ho hs⟩
theorem sl_uses (h : SlS w wr P V K) (a : Int) : Calls Try.prog 10 #[.pointer (some ⟨P.gs, 0, none⟩), .int .i64 a] wr fun e w' => e = .returned (.int .i64 (Sh.uses V.now a : Int)) ∧ SlS w w' P V K ∧ Far K wr w' := by
  have h0 := h
  obtain ⟨gen, st, F, now, was⟩ := V
  obtain ⟨Fp, Xs, hi, hK⟩ := h
  obtain ⟨Xr, l, v, hr, e1, e2⟩ := hi.rep
  have e1 : now = Sk.ofN l := e1
  have e2 : was = Sk.ofW l := e2
  subst e1 e2
  refine (suses_any' hr (kbOf hi.ok) a).mono ?_
  rintro e w' ⟨rfl, hb⟩
  exact ⟨rfl, h0.step hb⟩
theorem sl_settle (h : SlS w wr P V K) (hs : ShSt (Sh.giveAll V.F (Sh.lates V.now)) (Sh.used V.now) (Sh.used V.now)) :
    Calls Try.prog 17 #[.pointer (some ⟨P.gs, 0, none⟩)] wr fun e w' => (∃ v, e = .returned v) ∧ SlS w w' P { V with F := Sh.giveAll V.F (Sh.lates V.now), now := Sh.used V.now, was := Sh.used V.now } K ∧ Far K wr w' := by
  obtain ⟨gen, st, F, now, was⟩ := V
  obtain ⟨Fp, Xs, hi, hK⟩ := h
  obtain ⟨Xr, l, v, hr, e1, e2⟩ := hi.rep
  have e1 : now = Sk.ofN l := e1
  have e2 : was = Sk.ofW l := e2
  subst e1 e2
  refine (ssettle_any' hr (kbOf hi.ok)).mono ?_
  rintro e w' ⟨rfl, ho⟩
  exact ⟨⟨_, rfl⟩, SlS.counts hi hK ho hs⟩
theorem sl_back (h : SlS w wr P V K) (hs : ShSt (Sh.giveAll V.F (Sh.news V.now V.was)) V.was V.was) :
    Calls Try.prog 12 #[.pointer (some ⟨P.gs, 0, none⟩)] wr fun e w' => e = .returned (.tuple #[]) ∧ SlS w w' P { V with F := Sh.giveAll V.F (Sh.news V.now V.was), now := V.was } K ∧ Far K wr w' := by
  obtain ⟨gen, st, F, now, was⟩ := V
  obtain ⟨Fp, Xs, hi, hK⟩ := h
  obtain ⟨Xr, l, v, hr, e1, e2⟩ := hi.rep
  have e1 : now = Sk.ofN l := e1
  have e2 : was = Sk.ofW l := e2
  subst e1 e2
  refine (sback_any' hr (kbOf hi.ok)).mono ?_
  rintro e w' ⟨rfl, ho⟩
  exact ⟨rfl, SlS.counts hi hK ho hs⟩
theorem sl_blocks (h : SlS w wr P V K) : Calls Try.prog 13 #[.pointer (some ⟨P.p, 0, none⟩)] wr fun e w' => e = .returned (.int .i64 (V.st.blocks.length : Int)) ∧ w' = wr := by
  obtain ⟨Fp, Xs, hi, hK⟩ := h
  exact dblocks hi.dev
theorem sl_dwrite (h : SlS w wr P V K) (hm : SmallS V.st 0) (n : Int) {A : Option Addr} {cap : Nat} {l : List Nat} (hl : ∀ x ∈ l, x < 256) (hsl : Sl wr wr.heap.size A (byts l)) (hA : ∀ b o, A = some ⟨b, o, none⟩ → b < w.heap.size ∨ K b) :
    Calls Try.prog 29 #[.pointer (some ⟨P.p, 0, none⟩), .int .i64 n, .slice A l.length cap] wr fun e w' => e = .returned (.int .i64 (V.st.write n l).1) ∧ SlS w w' P { V with st := (V.st.write n l).2 } K ∧ Far K wr w' := by
  obtain ⟨Fp, Xs, hi, hK⟩ := h
  refine (dwrite_any P.p V.st Fp wr hi.dev (by have := hm.o 2 (by omega); omega) (by have := hm.c; omega) hm.b n A cap l hl hsl (fun b o e hf => ?_)).mono ?_
  · rcases hA b o e with h1 | h1
    · have := (hi.fp b hf).1; omega
    · exact (hK b h1).2.1 hf
  · rintro e w' ⟨rfl, hd, hc⟩
    exact ⟨rfl, SlS.disk hi hK hd (fun b hb => hb.imp id fun h => h.1) hc⟩
theorem sl_dread (h : SlS w wr P V K) (hm : SmallS V.st 0) (n : Int) :
    Calls Try.prog 32 #[.pointer (some ⟨P.p, 0, none⟩), .int .i64 n] wr fun e w' => ∃ v, e = .returned (.tuple #[v, .int .i64 (V.st.read n).1]) ∧ SlS w w' P { V with st := V.st.count 1 } K ∧ Far K wr w' ∧ DRead wr w' v (V.st.read n).2 := by
  obtain ⟨Fp, Xs, hi, hK⟩ := h
  refine (dread_any P.p V.st Fp wr hi.dev (by have := hm.o 1 (by omega); omega) (by have := hm.c; omega) hm.b n).mono ?_
  rintro e w' ⟨v, rfl, hd, hc, hr⟩
  obtain ⟨r1, r2⟩ := SlS.disk hi hK hd (fun b hb => .inl hb) hc
  exact ⟨v, rfl, r1, r2, hr⟩
end
end Go.Proofs.Ytaainefdjbmekaa

namespace Go.Proofs.Ytaainefdjbmekaa
namespace Rn
theorem list_taken (F : List Bool) : ∀ n, list (F ++ List.replicate n false) = list F
  | 0 => by rw [List.replicate_zero, List.append_nil]
  | n + 1 => by rw [List.replicate_succ', ← List.append_assoc, list_snoc, if_neg (by decide), list_taken F n]
theorem list_pre (s t : Nat) : list (pre s t) = if t = 0 then [] else [(s, t)] := by
  have h0 : list (List.replicate s false) = [] := by
    have := list_taken [] s
    rw [List.nil_append] at this
    exact this
  unfold pre
  cases t with
  | zero => rw [List.replicate_zero, List.append_nil, h0, if_pos rfl]
  | succ t => rw [list_free (by rw [h0]; intro r hr; cases hr), h0, List.length_replicate, if_neg (by omega)]; rfl
theorem setN_pre {s t n : Nat} (h : n ≤ t) : setN (pre s t) s false n = pre (s + n) (t - n) := by
  refine ext (by rw [setN_len, pre_len, pre_len]; omega) fun j hj => ?_
  rw [setN_len, pre_len] at hj
  rw [setN_at _ _ _ _ _ (by rw [pre_len]; omega), pre_at hj, pre_at (by omega)]
  by_cases h1 : s ≤ j ∧ j < s + n
  · rw [if_pos h1, decide_eq_false (by omega)]
  · rw [if_neg h1]
    by_cases h2 : s ≤ j
    · rw [decide_eq_true h2, decide_eq_true (by omega)]
    · rw [decide_eq_false h2, decide_eq_false (by omega)]
theorem take_pre {s t n : Nat} (h1 : 1 ≤ n) : take (pre s t) (n : Int) = if n ≤ t then (s, true, pre (s + n) (t - n)) else (0, false, pre s t) := by
  unfold take
  rw [if_neg (by omega), list_pre]
  by_cases h : n ≤ t
  · rw [if_neg (by omega), if_pos h]
    have e : decide ((n : Int) ≤ (t : Int)) = true := decide_eq_true (by omega)
    simp only [List.find?_cons, e, Int.toNat_natCast]
    rw [setN_pre h]
  · rw [if_neg h]
    by_cases h0 : t = 0
    · rw [if_pos h0]; rfl
    · rw [if_neg h0]
      have e : decide ((n : Int) ≤ (t : Int)) = false := decide_eq_false (by omega)
      simp only [List.find?_cons, e, List.find?_nil]
end Rn
end Go.Proofs.Ytaainefdjbmekaa

namespace Go.Proofs.Ytaainefdjbmekaa
open Go.RowKit Go.Maps

theorem mark_two (n : Nat) (h : 64 ≤ n) (h2 : n ≤ 8192) : Rn.mark (Rn.new (n : Int)) 0 2 = (true, Rn.pre 2 (n - 2)) := by
  have e0 : Rn.new (n : Int) = Rn.pre 0 n := by
    unfold Rn.new Rn.pre
    rw [if_neg (by omega), Int.toNat_natCast, List.replicate_zero, List.nil_append]
  have hall : Rn.all (Rn.pre 0 n) 0 2 true = true := by
    rw [Rn.all_iff]
    have hl := Rn.pre_len 0 n
    refine ⟨by omega, by omega, by omega, by omega, fun k hk => ?_⟩
    rw [Rn.pre_at (by omega)]
    simp
  rw [e0]
  unfold Rn.mark Rn.change
  rw [show (!false) = true from rfl, hall, if_pos rfl]
  rw [show (2 : Int).toNat = 2 from rfl, show (0 : Int).toNat = 0 from rfl, Rn.setN_pre (by omega)]

/-- A new slab on n blocks. -/
def newV (n : Nat) (gen : Int) : SlV := ⟨gen, newSt n, Rn.pre 2 (n - 2), [], []⟩
theorem snew_slab (p gs g : Nat) (gen : Int) (w : World) : Calls Try.prog 27 #[.pointer (some ⟨p, 0, none⟩), .pointer (some ⟨gs, 0, none⟩), .pointer (some ⟨g, 0, none⟩), .int .i64 gen] w fun e w' =>
    e = .returned (.pointer (some ⟨w.heap.size, 0, none⟩)) ∧ Blk w' w.heap.size 77 #[.pointer (some ⟨p, 0, none⟩), .pointer (some ⟨gs, 0, none⟩), .pointer (some ⟨g, 0, none⟩), .int .i64 gen] ∧ Below w.heap.size w w' ∧ w'.heap.size = w.heap.size + 1 := by
  go_enter Try.func27, Try.ntmps27
  go_wp2_with fail
  go_ret
  exact ⟨rfl, Blk.new _ _ _, (Below.refl _ _).alloc (Nat.le_refl _) _, by simp⟩

set_option maxHeartbeats 4000000 in
theorem smake_any (n : Nat) (gen : Int) (h1 : 64 ≤ n) (h2 : n ≤ 8192) {w wr : World} (hw : Below w.heap.size w wr) :
    Calls Try.prog 7 #[.int .i64 (n : Int), .int .i64 gen] wr fun e w' => ∃ P : SlP, e = .returned (.tuple #[.pointer (some ⟨P.s, 0, none⟩), .pointer (some ⟨P.p, 0, none⟩), .pointer (some ⟨P.g, 0, none⟩), .pointer (some ⟨P.gs, 0, none⟩)]) ∧ SlS w w' P (newV n gen) (fun b => b < wr.heap.size) ∧ Below wr.heap.size wr w' := by
  have N1 := Lib.hid (dnew_good n h1 h2 wr)
  have HM := mark_two n h1 h2
  have HW := Lib.hid hw
  have HMk := Lib.hid HM
  have H2 := Lib.hid (show I64 (n : Int) by unfold I64; omega)
  clear HM h1 h2 hw
  go_enter Try.func7, Try.ntmps7
  go_wp2_with fail
  refine N1.out.mono ?_
  rintro e w1 ⟨rfl, hd1, hb1⟩
  have N2 := Lib.hid (new_any (n : Int) w1 H2.out)
  obtain ⟨p, hp⟩ : ∃ p, p = wr.heap.size + 1 := ⟨_, rfl⟩
  rw [← hp] at hd1 ⊢
  have D1 := Lib.hid hd1
  have B1 := Lib.hid hb1
  have HP := Lib.hid hp
  clear hd1 hb1 N1 hp
  go_wp2_with fail
  refine N2.out.mono ?_
  rintro e w2 ⟨g, X, rfl, hr2, hX, hb2⟩
  have N3 := mark_any' hr2 0 2 (by unfold I64; omega) (by unfold I64; omega)
  rw [HMk.out] at N3
  have N3 := Lib.hid N3
  have D2 := Lib.hid (D1.out.keep hb2.size fun b hb => hb2.block b (D1.out.lt b hb))
  have B2 := Lib.hid (And.intro (B1.out.trans (hb2.mono B1.out.size)) (And.intro hX hb2.size))
  clear hr2 hX hb2 N2 D1
  go_wp2_with fail
  refine N3.out.mono ?_
  rintro e w3 ⟨rfl, X3, hr3, hX3, hc3⟩
  have N4 := Lib.hid (snew_any' hr3)
  have D3 := Lib.hid (D2.out.chg hc3 fun b hb hx => by have := B2.out.2.1 b hx; have := hb.2; omega)
  have X3' := Lib.hid (show ∀ b, X3 b → w1.heap.size ≤ b from fun b hb => (hX3 b hb).elim (B2.out.2.1 b) fun h => Nat.le_trans B2.out.2.2 h)
  have B3 := Lib.hid (And.intro (B2.out.1.trans (hc3.below B2.out.1.size fun b hb => Nat.le_trans B1.out.size (B2.out.2.1 b hb))) (Nat.le_trans B2.out.2.2 hc3.size))
  clear hr3 hX3 hc3 N3 D2
  go_wp2_with fail
  refine N4.out.mono ?_
  rintro e w4 ⟨gs, rfl, X4, hr4, hX4, hc4⟩
  have N5 := Lib.hid (snew_slab p gs g gen w4)
  have D4 := Lib.hid (D3.out.chg hc4 fun b hb hx => by have := X3'.out b hx; have := hb.2; omega)
  have X4' := Lib.hid (show ∀ b, X4 b → w1.heap.size ≤ b from fun b hb => (hX4 b hb).elim (X3'.out b) fun h => Nat.le_trans B3.out.2 h)
  have B4 := Lib.hid (And.intro (B3.out.1.trans (hc4.below B3.out.1.size fun b hb => Nat.le_trans B1.out.size (X3'.out b hb))) (Nat.le_trans B3.out.2 hc4.size))
  have R4 := Lib.hid hr4
  clear hr4 hX4 hc4 N4 D3
  go_wp2_with fail
  refine N5.out.mono ?_
  rintro e w5 ⟨rfl, hB5, hb5, hz5⟩
  have D5 := D4.out.keep hb5.size fun b hb => hb5.block b (D4.out.lt b hb)
  have R5 := R4.out.keep fun b hb => hb5.block b (R4.out.lt b hb)
  have F := Lib.hid (show SlS w w5 ⟨w4.heap.size, p, g, gs⟩ (newV n gen) (fun b => b < wr.heap.size) from by
    have hwr := HW.out.size
    have h14 := B4.out.2
    have hr1 := B1.out.size
    refine ⟨_, X4, ⟨D5, R5, hB5, fun b hb => ⟨Nat.le_trans hwr hb.1, fun hx => ?_⟩, fun b hb => ?_, ⟨?_, fun hf => ?_, fun hf => ?_⟩, shst_start _, HW.out.trans ((B4.out.1.trans (hb5.mono B4.out.1.size)).mono hwr)⟩, fun b hb => ⟨?_, fun hf => ?_, fun hx => ?_, fun e => ?_⟩⟩
    · have := X4'.out b hx; have := hb.2; omega
    · have := X4'.out b hb; omega
    · show w.heap.size ≤ w4.heap.size; omega
    · have : w4.heap.size < w1.heap.size := hf.2; omega
    · have := R4.out.lt _ hf; have e : w4.heap.size < w4.heap.size := this; omega
    · rw [hz5]; omega
    · have := hf.1; omega
    · have := X4'.out b hx; omega
    · have e : b = w4.heap.size := e; omega)
  have B5 := Lib.hid (B4.out.1.trans (hb5.mono B4.out.1.size))
  clear hB5 hb5 hz5 D5 R5 N5
  go_wp2_with fail
  refine bodyPost_ret (v := .tuple #[.pointer (some ⟨w4.heap.size, 0, none⟩), .pointer (some ⟨p, 0, none⟩), .pointer (some ⟨g, 0, none⟩), .pointer (some ⟨gs, 0, none⟩)]) ?_ rfl ⟨⟨w4.heap.size, p, g, gs⟩, rfl, F.out, B5.out⟩
  simp [results, Try.results7]
end Go.Proofs.Ytaainefdjbmekaa

namespace Go.Proofs.Ytaainefdjbmekaa
open Go.RowKit

/-- Block j of a frame. -/
def blkOf (l : List Nat) (j : Nat) : List Nat := (l.drop (64 * j)).take 64
/-- The first j writes of a frame, from block a on, up to the first that fails: the code, and the state. -/
def PSt.wrs (st : PSt) (a : Nat) (l : List Nat) : Nat → Int × PSt
  | 0 => (0, st)
  | j + 1 => if (st.wrs a l j).1 = 0 then (st.wrs a l j).2.write ((a + j : Nat) : Int) (blkOf l j) else st.wrs a l j
/-- The first j reads: the code, the bytes, and the state. -/
def PSt.rds (st : PSt) (a : Nat) : Nat → Int × List Nat × PSt
  | 0 => (0, [], st)
  | j + 1 => if (st.rds a j).1 = 0 then
      (((st.rds a j).2.2.read ((a + j : Nat) : Int)).1, (if ((st.rds a j).2.2.read ((a + j : Nat) : Int)).1 = 0 then (st.rds a j).2.1 ++ ((st.rds a j).2.2.read ((a + j : Nat) : Int)).2 else []), (st.rds a j).2.2.count 1)
    else st.rds a j
section
variable {st : PSt} {a : Nat} {l : List Nat}
theorem wrs_stuck {j : Nat} (h : (st.wrs a l j).1 ≠ 0) : ∀ m, st.wrs a l (j + m) = st.wrs a l j
  | 0 => rfl
  | m + 1 => by
    have ih := wrs_stuck h m
    show (if (st.wrs a l (j + m)).1 = 0 then _ else st.wrs a l (j + m)) = _
    rw [ih, if_neg h]
theorem rds_stuck {j : Nat} (h : (st.rds a j).1 ≠ 0) : ∀ m, st.rds a (j + m) = st.rds a j
  | 0 => rfl
  | m + 1 => by
    have ih := rds_stuck h m
    show (if (st.rds a (j + m)).1 = 0 then _ else st.rds a (j + m)) = _
    rw [ih, if_neg h]
theorem write_blocks (n : Int) (x : List Nat) : (st.write n x).2.blocks = st.blocks := by
  unfold PSt.write
  split
  · rfl
  · split <;> rfl
theorem write_plan (n : Int) (x : List Nat) : (st.write n x).2.plan = st.plan := by
  unfold PSt.write
  split
  · rfl
  · split <;> rfl
theorem wrs_blocks : ∀ j, (st.wrs a l j).2.blocks = st.blocks
  | 0 => rfl
  | j + 1 => by
    rw [PSt.wrs]
    split
    · rw [write_blocks, wrs_blocks j]
    · exact wrs_blocks j
theorem wrs_plan : ∀ j, (st.wrs a l j).2.plan = st.plan
  | 0 => rfl
  | j + 1 => by
    rw [PSt.wrs]
    split
    · rw [write_plan, wrs_plan j]
    · exact wrs_plan j
theorem rds_blocks : ∀ j, (st.rds a j).2.2.blocks = st.blocks
  | 0 => rfl
  | j + 1 => by
    rw [PSt.rds]
    split
    · exact rds_blocks j
    · exact rds_blocks j
theorem rds_plan : ∀ j, (st.rds a j).2.2.plan = st.plan
  | 0 => rfl
  | j + 1 => by
    rw [PSt.rds]
    split
    · exact rds_plan j
    · exact rds_plan j
theorem sscan_app {c : List (Nat × List Nat)} (p : Nat × List Nat) (k : Nat) : ∀ j, j ≤ c.length → scan (c ++ [p]) k j = scan c k j
  | 0, _ => rfl
  | j + 1, h => by
    have h1 : j < c.length := h
    rw [scan, scan, List.getElem?_append_left h1, sscan_app p k j (Nat.le_of_lt h1)]
theorem slook_put (n : Nat) (x : List Nat) (k : Nat) : (st.put n x).look k = if k = n then x else st.look k := by
  unfold PSt.look PSt.put
  rw [List.length_append, List.length_cons, List.length_nil, Nat.zero_add, scan, List.getElem?_append_right (Nat.le_refl _), Nat.sub_self]
  simp only [List.getElem?_cons_zero]
  by_cases e : n = k
  · rw [if_pos e, if_pos e.symm]
    rfl
  · rw [if_neg e, if_neg (Ne.symm e), sscan_app _ _ _ (Nat.le_refl _)]
theorem slook_count (m k : Nat) : (st.count m).look k = st.look k := rfl
/-- Where nothing is planned, all is written. -/
theorem wrs_ok (hp : st.plan = []) {n : Nat} (hl : l.length = 64 * n) (ha : a + n ≤ st.blocks.length) : ∀ j, j ≤ n → (st.wrs a l j).1 = 0 ∧ ∀ k, (st.wrs a l j).2.look k = if a ≤ k ∧ k < a + j then blkOf l (k - a) else st.look k
  | 0, _ => ⟨rfl, fun k => by rw [if_neg (by omega)]; rfl⟩
  | j + 1, h => by
    obtain ⟨h1, h2⟩ := wrs_ok hp hl ha j (by omega)
    have hw := write_yes (st := (st.wrs a l j).2) (by rw [wrs_plan]; exact hp) (n := a + j) (l := blkOf l j) (by rw [wrs_blocks]; omega) (by unfold blkOf; rw [List.length_take, List.length_drop, hl]; omega)
    rw [PSt.wrs, if_pos h1, hw]
    refine ⟨rfl, fun k => ?_⟩
    show (((st.wrs a l j).2.count 2).put (a + j) (blkOf l j)).look k = _
    rw [slook_put, slook_count]
    by_cases e : k = a + j
    · rw [if_pos e, if_pos (by omega), e, Nat.add_sub_cancel_left]
    · rw [if_neg e, h2 k]
      by_cases h3 : a ≤ k ∧ k < a + j
      · rw [if_pos h3, if_pos (by omega)]
      · rw [if_neg h3, if_neg (by omega)]
theorem rds_ok (hp : st.plan = []) {n : Nat} (ha : a + n ≤ st.blocks.length) : ∀ j, j ≤ n → (st.rds a j).1 = 0 ∧ (st.rds a j).2.1 = (List.range j).flatMap (fun i => st.look (a + i)) ∧ ∀ k, (st.rds a j).2.2.look k = st.look k
  | 0, _ => ⟨rfl, rfl, fun k => rfl⟩
  | j + 1, h => by
    obtain ⟨h1, h2, h3⟩ := rds_ok hp ha j (by omega)
    have hr : (st.rds a j).2.2.read ((a + j : Nat) : Int) = (0, (st.rds a j).2.2.look (a + j)) := by
      unfold PSt.read
      have hb := rds_blocks (st := st) (a := a) j
      rw [if_neg (by rw [no_hit (by rw [rds_plan]; exact hp)]; decide), if_neg (by rw [hb]; omega), Int.toNat_natCast]
    rw [PSt.rds, if_pos h1, hr]
    refine ⟨rfl, ?_, fun k => ?_⟩
    · show (st.rds a j).2.1 ++ (st.rds a j).2.2.look (a + j) = _
      rw [h2, h3, List.range_succ, List.flatMap_append, List.flatMap_cons, List.flatMap_nil, List.append_nil]
    · exact h3 k
end
theorem blkOf_all {l : List Nat} : ∀ n, l.length = 64 * n → (List.range n).flatMap (blkOf l) = l
  | 0, h => by
    have : l = [] := List.eq_nil_of_length_eq_zero (by omega)
    rw [this]; rfl
  | n + 1, h => by
    have ih := blkOf_all (l := l.take (64 * n)) n (by rw [List.length_take]; omega)
    rw [List.range_succ, List.flatMap_append, List.flatMap_cons, List.flatMap_nil, List.append_nil]
    have e1 : (List.range n).flatMap (blkOf l) = (List.range n).flatMap (blkOf (l.take (64 * n))) := by
      rw [List.flatMap_def, List.flatMap_def]
      congr 1
      apply List.map_congr_left
      intro i hi
      have hi := List.mem_range.1 hi
      unfold blkOf
      rw [List.drop_take, List.take_take, Nat.min_eq_left (by omega)]
    rw [e1, ih]
    unfold blkOf
    rw [List.take_of_length_le (l := l.drop (64 * n)) (by rw [List.length_drop]; omega), List.take_append_drop]
end Go.Proofs.Ytaainefdjbmekaa
