/- Where TreePlays stands: a memory, the box of a root, the box of a map, the rows of all roots and all maps so far. How an argument that is a slice of entries reads: a key, a place of three ints, a generation, five cells each. How an argument that is a slice of structures reads, each field a single cell. How an argument that is a slice of deeds reads: a bool, a slice of entries, a slice of ints. Deeds as an argument, with how long their slices may be; the statements' Few. -/
import Derived.Test.YtlcchefiicalpaaZpa
import Derived.Test.YtlcchefiicalpaaZpc
import Derived.Test.YtlcchefiicalpaaZpdh
import Derived.ChangeArms
import Derived.Deep.Slices
import Derived.SizedLaws
import Derived.BigQuiet
namespace Go.Proofs.Ytlcchefiicalpaa
open Go.RowKit
def Gm (rb mb : Nat) (u1 u2 : Value) : Nat → Prop := fun b => b = rb ∨ b = mb ∨ u1.ownBlock = some b ∨ u2.ownBlock = some b
structure Pm (B : Nat) (w0 : World) (p : Nat) (w : World) (X : Nat → Prop) (st : Tr.MSt) (rb mb : Nat) (cr : Array Value) (D : Option Addr) (n d : Nat) (xs : List Value) (u1 : Value) (n1 : Nat) (c1 : List Value) (u2 : Value) (n2 : Nat) (c2 : List Value) (K : World → Prop) : Prop where
  rep : MRep p w X st
  bel : Below B w0 w
  ge : ∀ b, X b → B ≤ b
  sz : B ≤ w.heap.size
  br : Blk w rb 66 cr
  bm : Blk w mb 71 #[.slice D n d]
  r1 : w.ownsRow (mb + 1) 66 4 u1 n1 c1
  r2 : w.ownsRow (mb + 1) 71 1 u2 n2 c2
  g1 : ∀ b, u1.ownBlock = some b → ¬ X b
  g2 : ∀ b, u2.ownBlock = some b → ¬ X b
  g12 : ∀ b, u1.ownBlock = some b → u2.ownBlock ≠ some b
  sl : Fast (fun b => X b ∨ Gm rb mb u1 u2 b) w fun u => SlC u u.heap.size D d n xs
  kp : Fast (fun b => X b ∨ Gm rb mb u1 u2 b) w K
  fr : ¬ X rb
  fm : ¬ X mb
  lt : rb < mb
  gr : B ≤ rb
section
variable {B p rb mb n d n' d' n1 n2 k1 k2 : Nat} {w0 w w' V : World} {X X' : Nat → Prop} {st st' : Tr.MSt} {cr cr' : Array Value} {D D' : Option Addr} {xs xs' c1 c2 e1 e2 : List Value} {u1 u2 v8 : Value} {K P : World → Prop}
theorem Pm.gx (h : Pm B w0 p w X st rb mb cr D n d xs u1 n1 c1 u2 n2 c2 K) {b : Nat} (hb : Gm rb mb u1 u2 b) : ¬ X b ∧ b < w.heap.size ∧ B ≤ b := by
  have hl := h.lt
  have hg := h.gr
  rcases hb with rfl | rfl | hb | hb
  · exact ⟨h.fr, h.br.lt, hg⟩
  · exact ⟨h.fm, h.bm.lt, by omega⟩
  · exact ⟨h.g1 b hb, (h.r1.lt b hb).2, by have := (h.r1.lt b hb).1; omega⟩
  · exact ⟨h.g2 b hb, (h.r2.lt b hb).2, by have := (h.r2.lt b hb).1; omega⟩
theorem Pm.stp (h : Pm B w0 p w X st rb mb cr D n d xs u1 n1 c1 u2 n2 c2 K) (hr : MRep p w' X' st') (hs : Stp w X w' X') : Pm B w0 p w' X' st' rb mb cr D n d xs u1 n1 c1 u2 n2 c2 K :=
  ⟨hr, ⟨hs.chg.os.trans h.bel.os, hs.chg.tape.trans h.bel.tape, hs.chg.output.trans h.bel.output, Nat.le_trans h.bel.size hs.chg.size, fun b hb => (hs.chg.block b (Nat.lt_of_lt_of_le hb h.sz) (fun hx => by have := h.ge b hx; omega)).trans (h.bel.block b hb)⟩,
    fun b hb => (hs.new b hb).elim (h.ge b) fun hl => Nat.le_trans h.sz hl, Nat.le_trans h.sz hs.chg.size, h.br.keep (hs.chg.block _ h.br.lt h.fr), h.bm.keep (hs.chg.block _ h.bm.lt h.fm), own_keep h.r1 fun b hb hl => hs.chg.block b hl (h.g1 b hb), own_keep h.r2 fun b hb hl => hs.chg.block b hl (h.g2 b hb),
    fun b hb => hs.far (h.r1.lt b hb).2 (h.g1 b hb), fun b hb => hs.far (h.r2.lt b hb).2 (h.g2 b hb), h.g12, h.sl.step (hs.left _), h.kp.step (hs.left _), hs.far h.br.lt h.fr, hs.far h.bm.lt h.fm, h.lt, h.gr⟩
theorem Pm.below (h : Pm B w0 p w X st rb mb cr D n d xs u1 n1 c1 u2 n2 c2 K) (hb : Below w.heap.size w w') : Pm B w0 p w' X st rb mb cr D n d xs u1 n1 c1 u2 n2 c2 K :=
  h.stp (h.rep.keep (G := fun _ => False) (.of_below _ hb) fun _ _ h => h) (.of_below X hb)
theorem Pm.now (h : Pm B w0 p w X st rb mb cr D n d xs u1 n1 c1 u2 n2 c2 K) : K w := h.kp.now
theorem Pm.bel_of {u : World} (h : Pm B w0 p w X st rb mb cr D n d xs u1 n1 c1 u2 n2 c2 K) (hc : Chg X w u) : Below B w0 u := ⟨hc.os.trans h.bel.os, hc.tape.trans h.bel.tape, hc.output.trans h.bel.output, Nat.le_trans h.bel.size hc.size, fun b hb => (hc.block b (Nat.lt_of_lt_of_le hb h.sz) (fun hx => by have := h.ge b hx; omega)).trans (h.bel.block b hb)⟩
theorem Pm.bel_chg {u : World} (h : Pm B w0 p w X st rb mb cr D n d xs u1 n1 c1 u2 n2 c2 K) (hc : Chg (fun b => b = rb ∨ b = mb) w u) : Below B w0 u := ⟨hc.os.trans h.bel.os, hc.tape.trans h.bel.tape, hc.output.trans h.bel.output, Nat.le_trans h.bel.size hc.size, fun b hb => (hc.block b (Nat.lt_of_lt_of_le hb h.sz) (fun hx => by have h1 := h.gr; have h2 := h.lt; exact hx.elim (fun e => by omega) fun e => by omega)).trans (h.bel.block b hb)⟩
theorem Pm.put (h : Pm B w0 p w X st rb mb cr D n d xs u1 n1 c1 u2 n2 c2 K) (hr : MRep p w' X' st') (hs : Stp w X w' X') (hsl : Fast (fun b => X' b ∨ Gm rb mb u1 u2 b) w' fun u => SlC u u.heap.size D' d' n' xs') (hc : Chg (fun b => b = rb ∨ b = mb) w' V) (b1 : Blk V rb 66 cr') (b2 : Blk V mb 71 #[.slice D' n' d']) :
    Pm B w0 p V X' st' rb mb cr' D' n' d' xs' u1 n1 c1 u2 n2 c2 K := by
  have h1 := h.stp hr hs
  have hi : ∀ {Q : World → Prop}, Fast (fun b => X' b ∨ Gm rb mb u1 u2 b) w' Q → Fast (fun b => X' b ∨ Gm rb mb u1 u2 b) V Q := fun hq u ku => hq u ((hc.mono fun _ e => .inr (e.elim .inl fun e => .inr (.inl e))).then_ ku)
  have hl := h.lt
  have hg := h.gr
  exact ⟨hr.keep hc fun b hx hg => hg.elim (fun e => h1.fr (e ▸ hx)) fun e => h1.fm (e ▸ hx), h1.bel_chg hc, h1.ge, Nat.le_trans h1.sz hc.size, b1, b2, own_keep h1.r1 fun b hb hlt => hc.block b hlt fun e => by have := (h1.r1.lt b hb).1; omega, own_keep h1.r2 fun b hb hlt => hc.block b hlt fun e => by have := (h1.r2.lt b hb).1; omega, h1.g1, h1.g2, h1.g12, hi hsl, hi h1.kp, h1.fr, h1.fm, hl, hg⟩
theorem Pm.grow1 (h : Pm B w0 p w X st rb mb cr D n d xs u1 n1 c1 u2 n2 c2 K) (a1 : V.ownsRow (mb + 1) 66 4 v8 k1 e1) (a2 : w.grownBy V u1.ownBlock) (a3 : v8.ownBlock = u1.ownBlock ∨ v8.ownBlock = some w.heap.size) : Pm B w0 p V X st rb mb cr D n d xs v8 k1 e1 u2 n2 c2 K := by
  have hc : Chg (fun b => u1.ownBlock = some b) w V := ⟨a2.os, a2.tape, a2.output, a2.size, fun i hi hn => a2.block i hi fun e => hn e.symm⟩
  have hl := h.lt
  have hg := h.gr
  have hlow : ∀ b, b ≤ mb → ¬ u1.ownBlock = some b := fun b hb e => by have := (h.r1.lt b e).1; omega
  have hi : ∀ {Q : World → Prop}, Fast (fun b => X b ∨ Gm rb mb u1 u2 b) w Q → Fast (fun b => X b ∨ Gm rb mb v8 u2 b) V Q := fun {Q} hq => by
    have h1 : Fast (fun b => (X b ∨ Gm rb mb u1 u2 b) ∨ b = w.heap.size) w Q := Fast.new hq (.refl _ _) fun b e => Nat.le_of_eq e.symm
    exact fun u ku => h1 u ((hc.mono fun b e => .inl (.inr (.inr (.inr (.inl e))))).then_ (ku.mono fun b e => by
      rcases e with e | e | e | e | e
      · exact .inl (.inl e)
      · exact .inl (.inr (.inl e))
      · exact .inl (.inr (.inr (.inl e)))
      · rcases a3 with a3 | a3
        · exact .inl (.inr (.inr (.inr (.inl (a3 ▸ e)))))
        · rw [a3] at e; injection e with e; exact .inr e.symm
      · exact .inl (.inr (.inr (.inr (.inr e))))))
  refine ⟨h.rep.keep hc fun b hx hg => h.g1 b hg hx, ⟨hc.os.trans h.bel.os, hc.tape.trans h.bel.tape, hc.output.trans h.bel.output, Nat.le_trans h.bel.size hc.size, fun b hb => (hc.block b (Nat.lt_of_lt_of_le hb h.sz) (hlow b (by omega))).trans (h.bel.block b hb)⟩, h.ge, Nat.le_trans h.sz hc.size, h.br.keep (hc.block _ h.br.lt (hlow _ (by omega))), h.bm.keep (hc.block _ h.bm.lt (hlow _ (Nat.le_refl _))), a1, own_keep h.r2 fun b hb hlt => hc.block b hlt fun e => h.g12 b e hb, fun b hb hx => ?_, h.g2, fun b hb hb2 => ?_, hi h.sl, hi h.kp, h.fr, h.fm, hl, hg⟩
  · rcases a3 with a3 | a3
    · exact h.g1 b (a3 ▸ hb) hx
    · rw [a3] at hb; injection hb with hb; have := h.rep.lt hx; omega
  · rcases a3 with a3 | a3
    · exact h.g12 b (a3 ▸ hb) hb2
    · rw [a3] at hb; injection hb with hb; have := (h.r2.lt b hb2).2; omega
theorem Pm.grow2 (h : Pm B w0 p w X st rb mb cr D n d xs u1 n1 c1 u2 n2 c2 K) (a1 : V.ownsRow (mb + 1) 71 1 v8 k2 e2) (a2 : w.grownBy V u2.ownBlock) (a3 : v8.ownBlock = u2.ownBlock ∨ v8.ownBlock = some w.heap.size) : Pm B w0 p V X st rb mb cr D n d xs u1 n1 c1 v8 k2 e2 K := by
  have hc : Chg (fun b => u2.ownBlock = some b) w V := ⟨a2.os, a2.tape, a2.output, a2.size, fun i hi hn => a2.block i hi fun e => hn e.symm⟩
  have hl := h.lt
  have hg := h.gr
  have hlow : ∀ b, b ≤ mb → ¬ u2.ownBlock = some b := fun b hb e => by have := (h.r2.lt b e).1; omega
  have hi : ∀ {Q : World → Prop}, Fast (fun b => X b ∨ Gm rb mb u1 u2 b) w Q → Fast (fun b => X b ∨ Gm rb mb u1 v8 b) V Q := fun {Q} hq => by
    have h1 : Fast (fun b => (X b ∨ Gm rb mb u1 u2 b) ∨ b = w.heap.size) w Q := Fast.new hq (.refl _ _) fun b e => Nat.le_of_eq e.symm
    exact fun u ku => h1 u ((hc.mono fun b e => .inl (.inr (.inr (.inr (.inr e))))).then_ (ku.mono fun b e => by
      rcases e with e | e | e | e | e
      · exact .inl (.inl e)
      · exact .inl (.inr (.inl e))
      · exact .inl (.inr (.inr (.inl e)))
      · exact .inl (.inr (.inr (.inr (.inl e))))
      · rcases a3 with a3 | a3
        · exact .inl (.inr (.inr (.inr (.inr (a3 ▸ e)))))
        · rw [a3] at e; injection e with e; exact .inr e.symm))
  refine ⟨h.rep.keep hc fun b hx hg => h.g2 b hg hx, ⟨hc.os.trans h.bel.os, hc.tape.trans h.bel.tape, hc.output.trans h.bel.output, Nat.le_trans h.bel.size hc.size, fun b hb => (hc.block b (Nat.lt_of_lt_of_le hb h.sz) (hlow b (by omega))).trans (h.bel.block b hb)⟩, h.ge, Nat.le_trans h.sz hc.size, h.br.keep (hc.block _ h.br.lt (hlow _ (by omega))), h.bm.keep (hc.block _ h.bm.lt (hlow _ (Nat.le_refl _))), own_keep h.r1 fun b hb hlt => hc.block b hlt fun e => h.g12 b hb e, a1, h.g1, fun b hb hx => ?_, fun b hb hb2 => ?_, hi h.sl, hi h.kp, h.fr, h.fm, hl, hg⟩
  · rcases a3 with a3 | a3
    · exact h.g2 b (a3 ▸ hb) hx
    · rw [a3] at hb; injection hb with hb; have := h.rep.lt hx; omega
  · rcases a3 with a3 | a3
    · exact h.g12 b hb (a3 ▸ hb2)
    · rw [a3] at hb2; injection hb2 with hb2; have := (h.r1.lt b hb).2; omega
theorem Pm.imp (h : Pm B w0 p w X st rb mb cr D n d xs u1 n1 c1 u2 n2 c2 K) (hK : ∀ u, K u → SlC u u.heap.size D d n xs → P u) : Pm B w0 p w X st rb mb cr D n d xs u1 n1 c1 u2 n2 c2 P := ⟨h.rep, h.bel, h.ge, h.sz, h.br, h.bm, h.r1, h.r2, h.g1, h.g2, h.g12, h.sl, fun u ku => hK u (h.kp u ku) (h.sl u ku), h.fr, h.fm, h.lt, h.gr⟩
end
/-- A map so far: where it lies, what it has. -/
abbrev MpE := Option Addr × Nat × List Tr.E
def mcs (l : List MpE) : List Value := l.map fun x => .slice x.1 x.2.2.length x.2.1
def mlZ : MpE := (none, 0, [])
def Kf (l : List MpE) (u : World) : Prop := ∀ x ∈ l, SlC u u.heap.size x.1 x.2.1 x.2.2.length (evs x.2.2)
theorem mcs_app (l m : List MpE) : mcs (l ++ m) = mcs l ++ mcs m := List.map_append
theorem mcs_one (l : List MpE) : ∀ u ∈ mcs l, u.oneCell' = true := fun u hu => by
  obtain ⟨x, -, rfl⟩ := List.mem_map.1 hu
  rfl
theorem mcs_at {l : List MpE} {k : Nat} (hk : k < l.length) : (mcs l)[k]? = some (.slice (l.getD k mlZ).1 (l.getD k mlZ).2.2.length (l.getD k mlZ).2.1) := by
  unfold mcs
  rw [List.getElem?_map, List.getD_eq_getElem?_getD, List.getElem?_eq_getElem hk]
  rfl
theorem map_parts : ∃ i, Try.prog.info? 71 = some i ∧ i.zero = some (.agg #[.slice none 0 0]) ∧ i.size = 1 ∧ i.bytes = 24 := by
  have h : (Try.prog.info? 71).map (fun i => (i.zero, i.size, i.bytes)) = some (some (.agg #[.slice none 0 0]), 1, 24) := by kernel_rfl
  obtain ⟨i, hi, hz⟩ := Option.map_eq_some_iff.1 h
  simp only [Prod.mk.injEq] at hz
  exact ⟨i, hi, hz.1, hz.2.1, hz.2.2⟩
/-- A block read as a row. -/
theorem sl_blk {V : World} {g : Nat} {t : TypeId} {C : Array Value} (h : Blk V g t C) : Sl V V.heap.size (some ⟨g, 0, none⟩) C.toList := .inr ⟨g, 0, rfl, h.lt, fun i hi => by
  rw [Nat.zero_add, h.cell i]
  simp at hi ⊢⟩
theorem maps_at {w : World} {B n : Nat} {v : Value} {l : List MpE} (h : w.ownsRow B 71 1 v n (mcs l)) {i : Nat} (hi : i < l.length) (hn : l.length = n) : ∃ g c, v = .slice (some ⟨g, 0, none⟩) n c ∧ w.cell? ⟨g, i, none⟩ = some (.slice (l.getD i mlZ).1 (l.getD i mlZ).2.2.length (l.getD i mlZ).2.1) := by
  rcases h.2 with ⟨e, h0⟩ | ⟨g, cap, cur, rfl, hg, hcell, hle, hcap, hsz, htake⟩
  · omega
  · refine ⟨g, cap, rfl, ?_⟩
    have h1 := mcs_at hi
    rw [← htake, Nat.mul_one, List.getElem?_take_of_lt (by omega), Array.getElem?_toList] at h1
    rw [← h1]
    exact cell_of_row _ _ _ _ _ _ hcell
end Go.Proofs.Ytlcchefiicalpaa
namespace Go.Proofs.Ytlcchefiicalpaa
open Go.ChangeShapes Go.WideShapes Go.ChangeAt Go.RowKit
section
variable {H : Type} {enc : TypeId × Value → H} {P : Program} {w : World} {base : Nat}
theorem one_int {i0 : TypeId} {cs : List Value} {o n : Nat} {x : DataW H × List MemPlace} (hi : P.underlying i0 = some (.int .i64)) (h : DataW.trod enc P w base (fun _ => true) true n i0 ((cs.drop o).take 1) = some x) : ∃ z, cs[o]? = some (.int .i64 z) := by
  obtain ⟨z, hz, -⟩ := DataW.trod_int hi h
  refine ⟨z, ?_⟩
  have := congrArg (fun l : List Value => l[0]?) hz
  simpa [List.getElem?_take, List.getElem?_drop] using this
end
end Go.Proofs.Ytlcchefiicalpaa
namespace Go.Proofs.Ytlcchefiicalpaa
open Go.ChangeShapes Go.WideShapes Go.ChangeAt Go.RowKit
/-- Are the fields cells, one behind the other? -/
def flatB (P : Program) (fs : Array Field) : Bool := (List.range fs.size).all fun j => match fs[j]? with
  | some f => f.offset == j && P.cellsOf f.type == 1
  | none => false
theorem flat_of {P : Program} {fs : Array Field} (h : flatB P fs = true) {j : Nat} {f : Field} (hj : fs[j]? = some f) : f.offset = j ∧ P.cellsOf f.type = 1 := by
  have hlt : j < fs.size := by
    rcases Nat.lt_or_ge j fs.size with h | h
    · exact h
    · rw [Array.getElem?_eq_none h] at hj; cases hj
  have := List.all_eq_true.1 h j (List.mem_range.2 hlt)
  rw [hj] at this
  simpa using this
end Go.Proofs.Ytlcchefiicalpaa
namespace Go.Proofs.Ytlcchefiicalpaa
open Go.ChangeShapes Go.WideShapes Go.ChangeAt Go.RowKit
section
variable {H : Type} {enc : TypeId × Value → H} {P : Program} {w : World} {base : Nat}
theorem ents_trod {t e pl i0 : TypeId} {fs ps : Array Field} {f0 f1 f2 p0 p1 p2 : Field} (ht : P.underlying t = some (.slice e)) (he : P.underlying e = some (.struct fs)) (hp : P.underlying pl = some (.struct ps)) (hi0 : P.underlying i0 = some (.int .i64))
    (hf0 : fs[0]? = some f0) (hf1 : fs[1]? = some f1) (hf2 : fs[2]? = some f2) (hfs : fs.size = 3) (h0 : f0.type = i0 ∧ f0.offset = 0) (h1 : f1.type = pl ∧ f1.offset = 1) (h2 : f2.type = i0 ∧ f2.offset = 4)
    (hp0 : ps[0]? = some p0) (hp1 : ps[1]? = some p1) (hp2 : ps[2]? = some p2) (hps : ps.size = 3) (j0 : p0.type = i0 ∧ p0.offset = 0) (j1 : p1.type = i0 ∧ p1.offset = 1) (j2 : p2.type = i0 ∧ p2.offset = 2)
    (c1 : P.cellsOf i0 = 1) (c3 : P.cellsOf pl = 3) (c5 : P.cellsOf e = 5) {fuel : Nat} {cs : List Value} {x : DataW H × List MemPlace} (hf : DataW.trod enc P w base (fun _ => true) true fuel t cs = some x) (hlt : ∀ y ∈ x.2, y.block < w.heap.size) :
    ∃ (A : Option Addr) (cap : Nat) (l : List Tr.E), cs = [.slice A l.length cap] ∧ cap ≤ maxLen ∧ SlC w w.heap.size A cap l.length (evs l) := by
  rcases Deep.open_slice ht hf with ⟨hcs, _⟩ | ⟨a, len1, cap1, m, n, D, Pl, hcs, _, hl, hm, hmm, hx, hi⟩
  · exact ⟨none, 0, [], hcs, Nat.zero_le _, ⟨Nat.le_refl _, fun _ => rfl, .inl rfl⟩⟩
  subst hcs
  simp only [if_true] at hmm
  subst hmm
  subst hx
  rw [c5] at hi hlt
  have each : ∀ i, i < len1 → ∃ y : Tr.E, w.cell? ((a.add (i * 5)).add 0) = some (.int .i64 y.k) ∧ w.cell? ((a.add (i * 5)).add 1) = some (.int .i64 y.p.1) ∧ w.cell? ((a.add (i * 5)).add 2) = some (.int .i64 y.p.2.1) ∧ w.cell? ((a.add (i * 5)).add 3) = some (.int .i64 y.p.2.2) ∧ w.cell? ((a.add (i * 5)).add 4) = some (.int .i64 y.g) := by
    intro i hil
    obtain ⟨cs, hc, ht'⟩ := hi i (by omega)
    obtain ⟨_, hcl, hat⟩ := World.cells?_some hc
    obtain ⟨ys, n', _, -, _, hyl, hfd⟩ := DataW.trod_struct he ht'
    have k0 := hfd 0 f0 hf0
    have k1 := hfd 1 f1 hf1
    have k2 := hfd 2 f2 hf2
    rw [h0.1, h0.2, c1, List.getElem?_eq_getElem (show 0 < ys.length by omega)] at k0
    rw [h1.1, h1.2, c3, List.getElem?_eq_getElem (show 1 < ys.length by omega)] at k1
    rw [h2.1, h2.2, c1, List.getElem?_eq_getElem (show 2 < ys.length by omega)] at k2
    obtain ⟨z0, e0⟩ := one_int hi0 k0
    obtain ⟨z4, e4⟩ := one_int hi0 k2
    obtain ⟨zs, n2, _, -, _, hzl, hgd⟩ := DataW.trod_struct hp k1
    have q0 := hgd 0 p0 hp0
    have q1 := hgd 1 p1 hp1
    have q2 := hgd 2 p2 hp2
    rw [j0.1, j0.2, c1, List.getElem?_eq_getElem (show 0 < zs.length by omega)] at q0
    rw [j1.1, j1.2, c1, List.getElem?_eq_getElem (show 1 < zs.length by omega)] at q1
    rw [j2.1, j2.2, c1, List.getElem?_eq_getElem (show 2 < zs.length by omega)] at q2
    obtain ⟨z1, e1⟩ := one_int hi0 q0
    obtain ⟨z2, e2⟩ := one_int hi0 q1
    obtain ⟨z3, e3⟩ := one_int hi0 q2
    have e1 : cs[1]? = some (.int .i64 z1) := by simpa [List.getElem?_take, List.getElem?_drop] using e1
    have e2 : cs[2]? = some (.int .i64 z2) := by simpa [List.getElem?_take, List.getElem?_drop] using e2
    have e3 : cs[3]? = some (.int .i64 z3) := by simpa [List.getElem?_take, List.getElem?_drop] using e3
    exact ⟨⟨z0, (z1, z2, z3), z4⟩, (hat 0 (by decide)).trans e0, (hat 1 (by decide)).trans e1, (hat 2 (by decide)).trans e2, (hat 3 (by decide)).trans e3, (hat 4 (by decide)).trans e4⟩
  obtain ⟨l, hll, hp⟩ := list_of_fn _ len1 each
  subst hll
  refine ⟨some a, _, l, rfl, hm, ⟨hl, (fun h => by cases h), ?_⟩⟩
  rcases Nat.eq_zero_or_pos l.length with h00 | hpos
  · rw [List.length_eq_zero_iff] at h00
    subst h00
    exact .inl rfl
  · obtain ⟨ab, ao, spot⟩ := a
    have hspot : spot = none := by simpa [Addr.add] using World.cell?_spot (hp 0 hpos).1
    subst hspot
    refine .inr ⟨ab, ao, rfl, ?_, fun i hi => ?_⟩
    · refine hlt (.cell ab (ao + 0)) ?_
      exact List.mem_append_left _ (by simp only [MemPlace.row, List.mem_map, List.mem_range]; exact ⟨0, by omega, rfl⟩)
    · have hl5 := evs_len l
      obtain ⟨g0, g1, g2, g3, g4⟩ := hp (i / 5) (by omega)
      obtain ⟨v0, v1, v2, v3, v4⟩ := evs_at (l := l) (k := i / 5) (by omega)
      have hg : l.getD (i / 5) Tr.z = l[i / 5]'(by omega) := by rw [List.getD_eq_getElem?_getD, List.getElem?_eq_getElem (by omega)]; rfl
      rw [hg] at v0 v1 v2 v3 v4
      rw [Addr.add_lit, Addr.add_lit] at g0 g1 g2 g3 g4
      rw [← List.getElem?_eq_getElem hi]
      have : i % 5 = 0 ∨ i % 5 = 1 ∨ i % 5 = 2 ∨ i % 5 = 3 ∨ i % 5 = 4 := by omega
      rcases this with h | h | h | h | h
      · rw [show ao + i = ao + i / 5 * 5 + 0 by omega, g0, show (evs l)[i]? = (evs l)[i / 5 * 5]? by congr 1; omega]; exact v0.symm
      · rw [show ao + i = ao + i / 5 * 5 + 1 by omega, g1, show (evs l)[i]? = (evs l)[i / 5 * 5 + 1]? by congr 1; omega]; exact v1.symm
      · rw [show ao + i = ao + i / 5 * 5 + 2 by omega, g2, show (evs l)[i]? = (evs l)[i / 5 * 5 + 2]? by congr 1; omega]; exact v2.symm
      · rw [show ao + i = ao + i / 5 * 5 + 3 by omega, g3, show (evs l)[i]? = (evs l)[i / 5 * 5 + 3]? by congr 1; omega]; exact v3.symm
      · rw [show ao + i = ao + i / 5 * 5 + 4 by omega, g4, show (evs l)[i]? = (evs l)[i / 5 * 5 + 4]? by congr 1; omega]; exact v4.symm
end
/-- A deed with where its slices lie. -/
structure Tr.Dv where
  d : Tr.Dd
  P : Option Addr
  cp : Nat
  K : Option Addr
  ck : Nat
def Tr.Dv.cells (x : Tr.Dv) : Array Value := #[.bool x.d.cut, .slice x.P x.d.put.length x.cp, .slice x.K x.d.keys.length x.ck]
structure Tr.Dv.ok (x : Tr.Dv) (w : World) (B : Nat) : Prop where
  p : SlC w B x.P x.cp x.d.put.length (evs x.d.put)
  k : SlC w B x.K x.ck x.d.keys.length (ivs x.d.keys)
theorem Tr.Dv.ok.below {x : Tr.Dv} {w w' : World} {B : Nat} (h : x.ok w B) (hb : Below B w w') : x.ok w' B := ⟨h.p.below hb, h.k.below hb⟩
/-- A slice's address, and the deeds that its elements read as. -/
def DvsAt (w : World) (B : Nat) (A : Option Addr) (l : List Tr.Dv) : Prop :=
  l = [] ∨ ∃ b o, A = some ⟨b, o, none⟩ ∧ b < B ∧ ∀ (i : Nat) (h : i < l.length) (j : Nat) (v : Value), (l[i].cells)[j]? = some v → w.cell? ⟨b, o + i * 3 + j, none⟩ = some v
theorem DvsAt.below {w w' : World} {B : Nat} {A : Option Addr} {l : List Tr.Dv} (h : DvsAt w B A l) (hb : Below B w w') : DvsAt w' B A l := by
  rcases h with h | ⟨b, o, e, hlt, hc⟩
  · exact .inl h
  · exact .inr ⟨b, o, e, hlt, fun i hi j v hv => (hb.cell (p := ⟨b, o + i * 3 + j, none⟩) hlt).trans (hc i hi j v hv)⟩
section
variable {H : Type} {enc : TypeId × Value → H} {w : World} {base : Nat}
theorem dents_trod {fuel : Nat} {cs : List Value} {x : DataW H × List MemPlace} (hf : DataW.trod enc Try.prog w base (fun _ => true) true fuel 69 cs = some x) (hlt : ∀ y ∈ x.2, y.block < w.heap.size) :
    ∃ (A : Option Addr) (cap : Nat) (l : List Tr.E), cs = [.slice A l.length cap] ∧ cap ≤ maxLen ∧ SlC w w.heap.size A cap l.length (evs l) :=
  ents_trod Try.underlying69 Try.underlying87 Try.underlying54 Try.underlying3 rfl rfl rfl rfl ⟨rfl, rfl⟩ ⟨rfl, rfl⟩ ⟨rfl, rfl⟩ rfl rfl rfl rfl ⟨rfl, rfl⟩ ⟨rfl, rfl⟩ ⟨rfl, rfl⟩ (by kernel_rfl) (by kernel_rfl) (by kernel_rfl) hf hlt
theorem dints_trod {fuel : Nat} {cs : List Value} {x : DataW H × List MemPlace} (hf : DataW.trod enc Try.prog w base (fun _ => true) true fuel 22 cs = some x) (hlt : ∀ y ∈ x.2, y.block < w.heap.size) :
    ∃ (A : Option Addr) (cap : Nat) (l : List Int), cs = [.slice A l.length cap] ∧ SlC w w.heap.size A cap l.length (ivs l) := by
  obtain ⟨A, c, zs, e1, e2, e3, e4, e5, e6⟩ := ints_trod Try.underlying22 Try.underlying3 (by kernel_rfl) hf hlt
  exact ⟨A, c, zs, e1, ⟨e2, e6, e4⟩⟩
end
end Go.Proofs.Ytlcchefiicalpaa
namespace Go.Proofs.Ytlcchefiicalpaa
open Go.ChangeShapes Go.WideShapes Go.ChangeAt Go.RowKit
section
variable {H : Type} {enc : TypeId × Value → H} {P : Program} {w : World} {base : Nat}
theorem mem_all {e : TypeId} {d : DataW H} {l : List (DataW H)} (hd : d ∈ l) {n : Nat} (hn : n ∈ d.weights P e) : n ∈ DataW.weightsAll P e l := by
  induction l with
  | nil => cases hd
  | cons y l ih =>
    rw [DataW.weightsAll, List.mem_append]
    rcases List.mem_cons.1 hd with rfl | h
    · exact .inl hn
    · exact .inr (ih h)
theorem trod_len {t e : TypeId} (ht : P.underlying t = some (.slice e)) {fuel : Nat} {cs : List Value} {x : DataW H × List MemPlace} (hf : DataW.trod enc P w base (fun _ => true) true fuel t cs = some x) :
    ∃ A len cap, cs = [.slice A len cap] ∧ (len = 0 ∨ ∃ k, (len + k) * P.bytesOf e ∈ x.1.weights P t) := by
  rcases Deep.open_slice ht hf with ⟨hcs, _⟩ | ⟨a, len, cap, m, n, D, Pl, hcs, _, hl, hm, hmm, hx, hi⟩
  · exact ⟨none, 0, 0, hcs, .inl rfl⟩
  · refine ⟨some a, len, cap, hcs, .inr ⟨m - len, ?_⟩⟩
    rw [hx]
    simp [DataW.weights, ht]
/-- A slice of structures whose fields are single cells; what is read of a field weighs in what is read of the slice. -/
theorem wide_trod2 {t e : TypeId} {fs : Array Field} {fuel : Nat} {cs : List Value} {x : DataW H × List MemPlace} (ht : P.underlying t = some (.slice e)) (he : P.underlying e = some (.struct fs)) (hflat : flatB P fs = true) (hC : P.cellsOf e = fs.size)
    (hf : DataW.trod enc P w base (fun _ => true) true fuel t cs = some x) (hlt : ∀ y ∈ x.2, y.block < w.heap.size) :
    cs = [.slice none 0 0] ∨ ∃ (a : Addr) (len cap : Nat), cs = [.slice (some a) len cap] ∧ len ≤ cap ∧ cap ≤ maxLen ∧ (0 < cap * fs.size → a.block < w.heap.size) ∧
      ∀ i, i < cap → ∃ vs : List Value, vs.length = fs.size ∧ (∀ j, j < fs.size → w.cell? ((a.add (i * fs.size)).add j) = vs[j]?) ∧
        ∀ (j : Nat) (f : Field), fs[j]? = some f → ∃ (v : Value) (y : DataW H × List MemPlace) (n : Nat), vs[j]? = some v ∧ DataW.trod enc P w base (fun _ => true) true n f.type [v] = some y ∧ (∀ z ∈ y.2, z.block < w.heap.size) ∧ ∀ n ∈ y.1.weights P f.type, n ∈ x.1.weights P t := by
  rcases Deep.open_slice ht hf with ⟨hcs, _⟩ | ⟨a, len, cap, m, n, D, Pl, hcs, _, hl, hm, hmm, hx, hi⟩
  · exact .inl hcs
  right
  simp only [if_true] at hmm
  subst hmm
  rw [hx] at hlt ⊢
  refine ⟨a, len, m, hcs, hl, hm, fun hpos => ?_, fun i him => ?_⟩
  · rw [hC] at hlt
    have := hlt (.cell a.block (a.off + 0)) (List.mem_append_left _ (by simp only [MemPlace.row, List.mem_map, List.mem_range]; exact ⟨0, hpos, rfl⟩))
    exact this
  · obtain ⟨cs', hc, ht'⟩ := hi i him
    rw [hC] at hc
    obtain ⟨_, hcl, hat⟩ := World.cells?_some hc
    obtain ⟨ys, n', _, hy, _, hyl, hfd⟩ := DataW.trod_struct he ht'
    refine ⟨cs', hcl, hat, fun j f hj => ?_⟩
    obtain ⟨ho, hc1⟩ := flat_of hflat hj
    have hjl : j < fs.size := by
      rcases Nat.lt_or_ge j fs.size with h | h
      · exact h
      · rw [Array.getElem?_eq_none h] at hj; cases hj
    have hcj : j < cs'.length := by omega
    have h1 := hfd j f hj
    rw [ho, hc1, List.drop_eq_getElem_cons hcj, List.take_succ_cons, List.take_zero] at h1
    rw [List.getElem?_eq_getElem (show j < ys.length by omega)] at h1
    simp only [Prod.mk.injEq] at hy
    refine ⟨cs'[j], ys[j]'(by omega), n', List.getElem?_eq_getElem hcj, h1, fun z hz => hlt z (List.mem_append_right _ ?_), fun q hq => ?_⟩
    · rw [List.mem_flatMap]
      exact ⟨i, List.mem_range.2 him, by rw [hy.2]; exact List.mem_flatMap.2 ⟨_, List.getElem_mem _, hz⟩⟩
    · have h2 : q ∈ (D i).weights P e := by
        rw [hy.1]
        simp only [DataW.weights, he]
        refine DataW.weights_mem_each (j := j) (t := f.type) (d := (ys[j]'(by omega)).1) ?_ ?_ q hq
        · rw [List.getElem?_map, Array.getElem?_toList, hj]; rfl
        · rw [List.getElem?_map, List.getElem?_eq_getElem (show j < ys.length by omega)]; rfl
      simp only [DataW.weights, ht]
      refine List.mem_cons_of_mem _ (List.mem_append.2 ?_)
      by_cases hil : i < len
      · exact .inl (mem_all (List.mem_map.2 ⟨i, List.mem_range.2 hil, rfl⟩) h2)
      · exact .inr (mem_all (List.mem_map.2 ⟨i - len, List.mem_range.2 (by omega), by rw [show len + (i - len) = i by omega]⟩) h2)
end
/-- How long a deed's slices may be. -/
def Tr.Dv.few (x : Tr.Dv) : Prop := x.d.put.length ≤ 140737488355328 ∧ x.d.keys.length ≤ 140737488355328
section
variable {H : Type} {enc : TypeId × Value → H} {w : World} {base : Nat}
theorem slen_le {n k b : Nat} (hb : 0 < b) (h : (n + k) * b ≤ reachBytes) : n ≤ 140737488355328 := by
  have h1 : n + k ≤ (n + k) * b := Nat.le_mul_of_pos_right _ hb
  have h2 : reachBytes ≤ 140737488355328 := by decide
  omega
theorem dents_len {fuel : Nat} {A : Option Addr} {n c : Nat} {x : DataW H × List MemPlace} (hf : DataW.trod enc Try.prog w base (fun _ => true) true fuel 69 [.slice A n c] = some x) (hw : ∀ n ∈ x.1.weights Try.prog 69, n ≤ reachBytes) : n ≤ 140737488355328 := by
  obtain ⟨A', n', c', e, h⟩ := trod_len Try.underlying69 hf
  injection e with e
  injection e with e1 e2 e3
  subst e2
  rcases h with rfl | ⟨k, hk⟩
  · exact Nat.zero_le _
  · exact slen_le (show 0 < Try.prog.bytesOf 87 from of_decide_eq_true (by kernel_rfl)) (hw _ hk)
theorem dints_len {fuel : Nat} {A : Option Addr} {n c : Nat} {x : DataW H × List MemPlace} (hf : DataW.trod enc Try.prog w base (fun _ => true) true fuel 22 [.slice A n c] = some x) (hw : ∀ n ∈ x.1.weights Try.prog 22, n ≤ reachBytes) : n ≤ 140737488355328 := by
  obtain ⟨A', n', c', e, h⟩ := trod_len Try.underlying22 hf
  injection e with e
  injection e with e1 e2 e3
  subst e2
  rcases h with rfl | ⟨k, hk⟩
  · exact Nat.zero_le _
  · exact slen_le (show 0 < Try.prog.bytesOf 3 from of_decide_eq_true (by kernel_rfl)) (hw _ hk)
set_option maxRecDepth 8000 in
theorem dvs_arg2 {r : Reach} {b0 : Nat} {v : Value} {d : DataW H} {p : List MemPlace} (hval : Value.okWide Try.prog w r b0 59 v) (h : DataW.Trod enc Try.prog w base (fun _ => true) true 59 v d p) (hlt : ∀ x ∈ p, x.block < w.heap.size) (hw : ∀ n ∈ d.weights Try.prog 59, n ≤ reachBytes) :
    ∃ (A : Option Addr) (cap : Nat) (l : List Tr.Dv), v = .slice A l.length cap ∧ l.length ≤ cap ∧ cap ≤ maxLen ∧ DvsAt w w.heap.size A l ∧ (∀ x ∈ l, x.ok w w.heap.size ∧ x.few) ∧ (A = none → cap = 0) := by
  obtain ⟨a1, len1, cap1, rfl⟩ := okWide_slice Try.underlying59 hval
  obtain ⟨fuel, hf⟩ := h
  rcases wide_trod2 Try.underlying59 Try.underlying77 (by kernel_rfl) (by kernel_rfl) hf hlt with hcs | ⟨a, len, cap, hcs, hl, hm, hb, hi⟩
  · simp [Value.cells] at hcs
    obtain ⟨rfl, rfl, rfl⟩ := hcs
    exact ⟨none, 0, [], rfl, Nat.le_refl _, Nat.zero_le _, .inl rfl, by simp, fun _ => rfl⟩
  simp [Value.cells] at hcs
  obtain ⟨rfl, rfl, rfl⟩ := hcs
  have each : ∀ i, i < len1 → ∃ y : Tr.Dv, (∀ (j : Nat) (v : Value), y.cells[j]? = some v → w.cell? ((a.add (i * 3)).add j) = some v) ∧ y.ok w w.heap.size ∧ y.few := by
    intro i hil
    obtain ⟨vs, _, hc, hfd⟩ := hi i (by omega)
    obtain ⟨v0, y0, n0, e0, t0, _⟩ := hfd 0 _ rfl
    obtain ⟨v1, y1, n1, e1, t1, p1, u1⟩ := hfd 1 _ rfl
    obtain ⟨v2, y2, n2, e2, t2, p2, u2⟩ := hfd 2 _ rfl
    obtain ⟨z0, hz0, _⟩ := DataW.trod_bool Try.underlying4 t0
    obtain ⟨Q, cq, l, hz1, -, q1⟩ := dents_trod t1 p1
    obtain ⟨K, ck, ks, hz2, k1⟩ := dints_trod t2 p2
    injection hz0 with hz0
    injection hz1 with hz1
    injection hz2 with hz2
    subst hz1
    subst hz2
    refine ⟨⟨⟨z0, l, ks⟩, Q, cq, K, ck⟩, fun j v hv => ?_, ⟨q1, k1⟩, dents_len t1 fun n hn => hw n (u1 n hn), dints_len t2 fun n hn => hw n (u2 n hn)⟩
    have hj : j < 3 := by
      rcases Nat.lt_or_ge j 3 with h | h
      · exact h
      · rw [Array.getElem?_eq_none h] at hv; cases hv
    rw [← hv]
    have : j = 0 ∨ j = 1 ∨ j = 2 := by omega
    rcases this with rfl | rfl | rfl
    · exact (hc 0 (by decide)).trans (by rw [e0, hz0]; rfl)
    · exact (hc 1 (by decide)).trans (by rw [e1]; rfl)
    · exact (hc 2 (by decide)).trans (by rw [e2]; rfl)
  obtain ⟨l, hll, hp⟩ := list_of_fn _ len1 each
  refine ⟨some a, cap1, l, by rw [hll], by omega, hm, ?_, fun f hfm => ?_, by simp⟩
  · by_cases h0 : len1 = 0
    · exact .inl (List.eq_nil_of_length_eq_zero (by omega))
    right
    obtain ⟨ab, ao, spot⟩ := a
    have hspot : spot = none := by simpa [Addr.add] using World.cell?_spot ((hp 0 (by omega)).1 0 _ rfl)
    subst hspot
    refine ⟨ab, ao, rfl, hb (Nat.mul_pos (by omega) (by decide)), fun i hii j v hv => ?_⟩
    have h1 := (hp i hii).1 j v hv
    rw [Addr.add_lit, Addr.add_lit] at h1
    exact h1
  · obtain ⟨i, hil, rfl⟩ := List.mem_iff_getElem.1 hfm
    exact (hp i hil).2
end
/-- Are deeds few? -/
def Tr.sumD (l : List Tr.Dv) : Nat := (l.map fun x => x.d.n).sum
def Tr.FewP (l : List Tr.Dv) : Prop := l.length ≤ 30 ∧ Tr.sumD l ≤ 300
instance (l : List Tr.Dv) : Decidable (Tr.FewP l) := by unfold Tr.FewP; infer_instance
theorem Tr.sum_next {l : List Tr.Dv} {i : Nat} (hi : i < l.length) : Tr.sumD (l.take (i + 1)) = Tr.sumD (l.take i) + l[i].d.n := by
  unfold Tr.sumD
  rw [List.take_succ_eq_append_getElem hi, List.map_append, List.sum_append]
  simp
theorem Tr.sum_le {l : List Tr.Dv} (h : ∀ x ∈ l, x.few) : Tr.sumD l ≤ l.length * 281474976710656 := by
  unfold Tr.sumD
  induction l with
  | nil => simp
  | cons x l ih =>
    have h1 := h x (List.mem_cons_self ..)
    have h2 := ih fun y hy => h y (List.mem_cons_of_mem _ hy)
    unfold Tr.Dv.few at h1
    unfold Tr.Dd.n at h2 ⊢
    simp only [List.map_cons, List.sum_cons, List.length_cons]
    omega
theorem DvsAt.at_ {w : World} {B : Nat} {A : Option Addr} {l : List Tr.Dv} (h : DvsAt w B A l) {i : Nat} (hi : i < l.length) : ∃ b o, A = some ⟨b, o, none⟩ ∧ b < B ∧ w.cell? ⟨b, o + i * 3, none⟩ = some (.bool l[i].d.cut) ∧ w.cell? ⟨b, o + i * 3 + 1, none⟩ = some (.slice l[i].P l[i].d.put.length l[i].cp) ∧ w.cell? ⟨b, o + i * 3 + 2, none⟩ = some (.slice l[i].K l[i].d.keys.length l[i].ck) := by
  rcases h with rfl | ⟨b, o, e, hb, hc⟩
  · cases hi
  · exact ⟨b, o, e, hb, hc i hi 0 _ rfl, hc i hi 1 _ rfl, hc i hi 2 _ rfl⟩
end Go.Proofs.Ytlcchefiicalpaa
