/- What SlabWrites keeps: the frames that were written, their bytes and places in rows of one's own. SlabWrites: the two appends of a round, in either order. -/
import Derived.Test.YtaainefdjbmekaaSlaJ
namespace Go.Proofs.Ytaainefdjbmekaa
open Go.RowKit Go.Maps

def inC (fr : List (Nat × Nat × List Nat)) : List Value := fr.map fun x => .slice (some ⟨x.1, 0, none⟩) x.2.2.length x.2.2.length
def atC (fr : List (Nat × Nat × List Nat)) : List Value := fr.flatMap fun x => [.int .i64 (x.2.1 : Int), .int .i64 ((x.2.2.length / 64 : Nat) : Int)]
theorem inC_one (fr : List (Nat × Nat × List Nat)) : ∀ u ∈ inC fr, u.oneCell' = true := fun u hu => by
  obtain ⟨x, _, rfl⟩ := List.mem_map.1 hu
  rfl
theorem atC_len : ∀ fr : List (Nat × Nat × List Nat), (atC fr).length = fr.length * 2
  | [] => rfl
  | x :: r => by
    show (atC r).length + 1 + 1 = _
    rw [atC_len r, List.length_cons]; omega
theorem atC_at : ∀ {fr : List (Nat × Nat × List Nat)} {i : Nat} (h : i < fr.length), (atC fr)[i * 2]? = some (.int .i64 (fr[i].2.1 : Int)) ∧ (atC fr)[i * 2 + 1]? = some (.int .i64 ((fr[i].2.2.length / 64 : Nat) : Int))
  | x :: r, 0, _ => ⟨rfl, rfl⟩
  | x :: r, i + 1, h => by
    have := atC_at (fr := r) (i := i) (by simpa using h)
    rw [show (i + 1) * 2 = i * 2 + 1 + 1 by omega]
    exact this
/-- A world that grows in rows of one's own. -/
theorem SlS.more {w wr w' : World} {P : SlP} {V : SlV} {K : Nat → Prop} {row : Option Nat} (h : SlS w wr P V K) (hg : wr.grownBy w' row) (hr : ∀ b, row = some b → K b ∧ w.heap.size ≤ b) : SlS w w' P V (fun b => K b ∨ (wr.heap.size ≤ b ∧ b < w'.heap.size)) := by
  obtain ⟨F, X, h1, h2⟩ := h
  refine ⟨F, X, h1.keep hg.size (fun b hb => hg.block b (h1.lt b hb) fun e => ?_) (h1.bel.grown hg h1.bel.size fun b hb => (hr b hb).2), fun b hb => ?_⟩
  · obtain ⟨_, n1, n2, n3⟩ := h2 b (hr b e.symm).1
    rcases hb with hb | hb | hb
    · exact n1 hb
    · exact n2 hb
    · exact n3 hb
  · rcases hb with hb | hb
    · exact ⟨Nat.lt_of_lt_of_le (h2 b hb).1 hg.size, (h2 b hb).2⟩
    · refine ⟨hb.2, fun hf => ?_, fun hf => ?_, fun hf => ?_⟩
      · have := h1.lt b (.inl hf); omega
      · have := h1.lt b (.inr (.inl hf)); omega
      · have := h1.lt b (.inr (.inr hf)); omega

/-- The state half of what is kept. -/
structure WS (V : SlV) (s : Nat) (fr : List (Nat × Nat × List Nat)) : Prop where
  pre : Pre V 96 s
  plan : V.st.plan = []
  small : SmallS V.st (10000 - s)
  jn : Sh.giveAll V.F (Sh.news V.now V.was) = Rn.pre 2 94
  fr : ∀ x ∈ fr, ∃ n, 1 ≤ n ∧ n ≤ 11 ∧ x.2.2.length = 64 * n ∧ x.2.1 + n ≤ s ∧ (∀ y ∈ x.2.2, y < 256) ∧ ∀ j, j < n → V.st.look (x.2.1 + j) = blkOf x.2.2 j
/-- The memory half. -/
structure WM (w wr : World) (K : Nat → Prop) (fr : List (Nat × Nat × List Nat)) (iv av : Value) : Prop where
  blk : ∀ x ∈ fr, ByBlk wr x.1 x.2.2 ∧ K x.1
  ri : wr.ownsRow w.heap.size 22 1 iv fr.length (inC fr)
  ra : wr.ownsRow w.heap.size 33 2 av fr.length (atC fr)
  ik : ∀ b, iv.ownBlock = some b → K b
  ak : ∀ b, av.ownBlock = some b → K b
  kb : ∀ b, K b → w.heap.size ≤ b
section
variable {w wr w' : World} {P : SlP} {V : SlV} {K K' : Nat → Prop} {s : Nat} {fr : List (Nat × Nat × List Nat)} {iv av : Value}
theorem WM.far (h : WM w wr K fr iv av) (hf : Far K wr w') (hK : ∀ b, K b → K' b) (hB : ∀ b, K' b → w.heap.size ≤ b) : WM w w' K' fr iv av :=
  ⟨fun x hx => ⟨Blk.keep (h.blk x hx).1 (hf.2 _ (h.blk x hx).2), hK _ (h.blk x hx).2⟩, own_keep h.ri fun b hb _ => hf.2 b (h.ik b hb), own_keep h.ra fun b hb _ => hf.2 b (h.ak b hb), fun b hb => hK b (h.ik b hb), fun b hb => hK b (h.ak b hb), hB⟩
/-- A frame more. -/
theorem WS.add (h : WS V s fr) {n xb : Nat} {l : List Nat} (hn : 1 ≤ n) (hn2 : n ≤ 11) (hl : l.length = 64 * n) (hs : s + n ≤ 96) (hb : ∀ y ∈ l, y < 256) : (V.write l n).1 = (s, n, 0) ∧ WS (V.write l n).2 (s + n) (fr ++ [(xb, s, l)]) ∧ Sh.uses (V.write l n).2.now s = 1 := by
  obtain ⟨h1, h2⟩ := wrs_ok (st := V.st) (a := s) (l := l) h.plan hl (by rw [h.pre.len]; exact hs) n (Nat.le_refl _)
  have hw := h.pre.write hn hs l
  rw [if_pos h1] at hw
  rw [hw]
  refine ⟨rfl, ⟨h.pre.up hn hs (wrs_blocks n), ?_, ?_, ?_, fun x hx => ?_⟩, ?_⟩
  · show (V.st.wrs s l n).2.plan = []
    rw [wrs_plan]; exact h.plan
  · exact SmallS.wrs (h.small.mono (by omega))
  · have hf := h.pre.free hs
    have := Sh.back_taken h.pre.ok.ok h.jn hn (by rw [h.pre.flen]; exact hs) hf
    rw [below_all _ _ _ h.pre.lt, h.pre.F, Rn.setN_pre (by omega), show 96 - s - n = 96 - (s + n) by omega] at this
    exact this
  · rcases List.mem_append.1 hx with hx | hx
    · obtain ⟨m, g1, g2, g3, g4, g5, g6⟩ := h.fr x hx
      refine ⟨m, g1, g2, g3, by omega, g5, fun j hj => ?_⟩
      show (V.st.wrs s l n).2.look (x.2.1 + j) = _
      rw [h2, if_neg (by omega), g6 j hj]
    · obtain rfl := List.mem_singleton.1 hx
      refine ⟨n, hn, hn2, hl, Nat.le_refl _, hb, fun j hj => ?_⟩
      show (V.st.wrs s l n).2.look (s + j) = _
      rw [h2, if_pos (by omega), Nat.add_sub_cancel_left]
  · show Sh.uses (V.now ++ [(s, n, 1)]) s = 1
    have hi : Sh.idx (V.now ++ [(s, n, 1)]) (s : Int) = some V.now.length := by
      refine Sh.idx_here (by simp) (by simp [Sh.at_]) fun j hj => ?_
      unfold Sh.at_
      rw [List.getD_eq_getElem?_getD, List.getElem?_append_left hj, List.getElem?_eq_getElem hj]
      have := h.pre.lt _ (List.getElem_mem hj)
      simp
      omega
    unfold Sh.uses
    rw [hi]
    simp [Sh.at_]
theorem WS.full (h : WS V s fr) {n : Nat} (hn : 1 ≤ n) (hs : 96 < s + n) (l : List Nat) : V.write l n = ((0, 0, 7), V) := h.pre.write_no hn hs l
theorem WS.freeN (h : WS V s fr) : Rn.freeN V.F = 96 - s := by
  rw [h.pre.F]
  unfold Rn.freeN Rn.pre
  rw [List.countP_append, List.countP_replicate, List.countP_replicate]
  simp
end
end Go.Proofs.Ytaainefdjbmekaa

namespace Go.Proofs.Ytaainefdjbmekaa
open Go.RowKit Go.Maps

theorem inC_add (fr : List (Nat × Nat × List Nat)) (x : Nat × Nat × List Nat) : inC (fr ++ [x]) = inC fr ++ [.slice (some ⟨x.1, 0, none⟩) x.2.2.length x.2.2.length] := by unfold inC; rw [List.map_append]; rfl
theorem atC_add (fr : List (Nat × Nat × List Nat)) (x : Nat × Nat × List Nat) : atC (fr ++ [x]) = atC fr ++ [.int .i64 (x.2.1 : Int), .int .i64 ((x.2.2.length / 64 : Nat) : Int)] := by
  unfold atC
  rw [List.flatMap_append, List.flatMap_cons, List.flatMap_nil, List.append_nil]
/-- The rows hold the frames fi, fa; the bytes of all frames fr lie apart. -/
structure WJ (w u : World) (P : SlP) (V : SlV) (K : Nat → Prop) (fr fi fa : List (Nat × Nat × List Nat)) (iv av : Value) : Prop where
  sl : SlS w u P V K
  blk : ∀ x ∈ fr, ByBlk u x.1 x.2.2 ∧ K x.1
  ri : u.ownsRow w.heap.size 22 1 iv fi.length (inC fi)
  ra : u.ownsRow w.heap.size 33 2 av fa.length (atC fa)
  ik : ∀ b, iv.ownBlock = some b → K b
  ak : ∀ b, av.ownBlock = some b → K b
  kb : ∀ b, K b → w.heap.size ≤ b
section
variable {w u u' : World} {P : SlP} {V : SlV} {K : Nat → Prop} {fr fi fa : List (Nat × Nat × List Nat)} {iv av v' : Value}
theorem WJ.below (h : WJ w u P V K fr fi fa iv av) (hb : Below u.heap.size u u') : WJ w u' P V K fr fi fa iv av := by
  obtain ⟨h1, hf⟩ := h.sl.step hb
  exact ⟨h1, fun x hx => ⟨Blk.keep (h.blk x hx).1 (hf.2 _ (h.blk x hx).2), (h.blk x hx).2⟩, own_keep h.ri fun b hb _ => hf.2 b (h.ik b hb), own_keep h.ra fun b hb _ => hf.2 b (h.ak b hb), h.ik, h.ak, h.kb⟩
theorem WJ.mem (h : WJ w u P V K fr fr fr iv av) : WM w u K fr iv av := ⟨h.blk, h.ri, h.ra, h.ik, h.ak, h.kb⟩
theorem WJ.appI (h : WJ w u P V K fr fi fa iv av) (x : Nat × Nat × List Nat) (ho : u'.ownsRow w.heap.size 22 1 v' (fi.length + 1) (inC fi ++ [.slice (some ⟨x.1, 0, none⟩) x.2.2.length x.2.2.length])) (hg : u.grownBy u' iv.ownBlock) (hv : v'.ownBlock = iv.ownBlock ∨ v'.ownBlock = some u.heap.size) : ∃ K', WJ w u' P V K' fr (fi ++ [x]) fa v' av := by
  refine ⟨_, h.sl.more hg fun b hb => ⟨h.ik b hb, h.kb b (h.ik b hb)⟩, fun y hy => ⟨Blk.keep (h.blk y hy).1 (hg.block _ (Blk.lt (h.blk y hy).1) ?_), .inl (h.blk y hy).2⟩, ?_, own_keep h.ra fun b hb hlt => hg.block b hlt ?_, fun b hb => ?_, fun b hb => .inl (h.ak b hb), fun b hb => ?_⟩
  · intro e
    exact own_ne h.ri (h.blk y hy).1 (by decide) _ e.symm rfl
  · rw [inC_add, List.length_append]; exact ho
  · intro e
    exact own_other h.ri h.ra (by decide) b hb e.symm
  · have hlt := (ho.lt b hb).2
    rcases hv with e | e
    · exact .inl (h.ik b (e ▸ hb))
    · rw [e] at hb; cases hb; exact .inr ⟨Nat.le_refl _, hlt⟩
  · rcases hb with hb | hb
    · exact h.kb b hb
    · exact Nat.le_trans h.sl.bel.size hb.1
theorem WJ.appA (h : WJ w u P V K fr fi fa iv av) (x : Nat × Nat × List Nat) (ho : u'.ownsRow w.heap.size 33 2 v' (fa.length + 1) (atC fa ++ [.int .i64 (x.2.1 : Int), .int .i64 ((x.2.2.length / 64 : Nat) : Int)])) (hg : u.grownBy u' av.ownBlock) (hv : v'.ownBlock = av.ownBlock ∨ v'.ownBlock = some u.heap.size) : ∃ K', WJ w u' P V K' fr fi (fa ++ [x]) iv v' := by
  refine ⟨_, h.sl.more hg fun b hb => ⟨h.ak b hb, h.kb b (h.ak b hb)⟩, fun y hy => ⟨Blk.keep (h.blk y hy).1 (hg.block _ (Blk.lt (h.blk y hy).1) ?_), .inl (h.blk y hy).2⟩, own_keep h.ri fun b hb hlt => hg.block b hlt ?_, ?_, fun b hb => .inl (h.ik b hb), fun b hb => ?_, fun b hb => ?_⟩
  · intro e
    exact own_ne h.ra (h.blk y hy).1 (by decide) _ e.symm rfl
  · intro e
    exact own_other h.ra h.ri (by decide) b hb e.symm
  · rw [atC_add, List.length_append]; exact ho
  · have hlt := (ho.lt b hb).2
    rcases hv with e | e
    · exact .inl (h.ak b (e ▸ hb))
    · rw [e] at hb; cases hb; exact .inr ⟨Nat.le_refl _, hlt⟩
  · rcases hb with hb | hb
    · exact h.kb b hb
    · exact Nat.le_trans h.sl.bel.size hb.1
/-- A new block stays readable where a row of another type grows. -/
theorem sl_grown {A : Nat} {t e : TypeId} {cs : Array Value} {n size base : Nat} {xs : List Value} (hB : Blk u A t cs) (ho : u.ownsRow base e size iv n xs) (hne : e ≠ t) (hg : u.grownBy u' iv.ownBlock) : Blk u' A t cs :=
  hB.keep (hg.block A hB.lt fun e' => own_ne ho hB hne _ e'.symm rfl)
theorem brow_parts : ∃ i, Try.prog.info? 22 = some i ∧ i.zero = some (.slice none 0 0) ∧ i.size = 1 ∧ i.bytes = 24 := by
  have h : (Try.prog.info? 22).map (fun i => (i.zero, i.size, i.bytes)) = some (some (.slice none 0 0), 1, 24) := by kernel_rfl
  obtain ⟨i, hi, hh⟩ := Option.map_eq_some_iff.1 h
  simp only [Prod.mk.injEq] at hh
  exact ⟨i, hi, hh.1, hh.2.1, hh.2.2⟩
theorem blk_sl1 {X : World} {g : Nat} {t : TypeId} {p : Value} (h : Blk X g t #[p]) : Sl X X.heap.size (some ⟨g, 0, none⟩) [p] := .inr ⟨g, 0, rfl, h.lt, fun i hi => by
  have : i = 0 := by simpa using hi
  subst this
  rw [Nat.zero_add, h.cell 0]
  rfl⟩
theorem blk_sl2 {X : World} {g : Nat} {t : TypeId} {p q : Value} (h : Blk X g t #[p, q]) : Sl X X.heap.size (some ⟨g, 0, none⟩) [p, q] := .inr ⟨g, 0, rfl, h.lt, fun i hi => by
  rcases i with _ | _ | i
  · exact h.cell 0
  · exact h.cell 1
  · simp at hi; omega⟩
theorem step_I {X : World} {ops : Array Oper} {o : Oper} {a : Act} {KK : Act → World → Prop} {Q : Exit → Act → World → Prop} {E : Prop} (hJ : WJ w X P V K fr fi fa iv av) (x : Nat × Nat × List Nat) {N g : Nat} (hN : Blk X g 22 #[.slice (some ⟨x.1, 0, none⟩) N N]) (hl : x.2.2.length = N) (hgd : o.guard = none) (s y : Operand)
    (ho : o.op = .call { callee := .builtin .append, args := #[s, y], argTypes := #[30, 30] }) (hs : a.eval s = iv) (hy : a.eval y = .slice (some ⟨g, 0, none⟩) 1 1) (hf : fi.length ≤ 100)
    (h : ∀ A c w' K', WJ w w' P V K' fr (fi ++ [x]) fa (.slice A (fi.length + 1) c) av → (∀ b cs, Blk X b 33 cs → Blk w' b 33 cs) → KK (a.put o.dst (.slice A (fi.length + 1) c)) w') :
    if Region.wanted o (yielded ops a.tmps) = true then Oper.wp Try.prog o a X KK Q else E := by
  obtain ⟨i, hi, hz, hsz, hb⟩ := brow_parts
  refine step_append3 (base := w.heap.size) (B := X.heap.size) X hgd s y _ ho Try.underlying30 hi hz hsz hb rfl (by decide) hs hJ.ri (m := 1) (c := 1) (A := some ⟨g, 0, none⟩) (news := [.slice (some ⟨x.1, 0, none⟩) N N]) hy rfl (by simp) (Nat.le_refl _) (blk_sl1 hN) (by simp [Value.oneCell']) (by unfold maxLen; omega) (by omega) hJ.sl.bel.size ?_
  intro v' w' g1 g2 g3
  obtain ⟨A, c, rfl⟩ := own_slice g1
  subst hl
  obtain ⟨K', j⟩ := hJ.appI x g1 g2 g3
  exact h A c w' K' j fun b cs hb => hb.keep (g2.block b hb.lt fun e => own_ne hJ.ri hb (by decide) _ e.symm rfl)
theorem step_A {X : World} {ops : Array Oper} {o : Oper} {a : Act} {KK : Act → World → Prop} {Q : Exit → Act → World → Prop} {E : Prop} (hJ : WJ w X P V K fr fi fa iv av) (x : Nat × Nat × List Nat) {n g : Nat} (hN : Blk X g 33 #[.int .i64 (x.2.1 : Int), .int .i64 (n : Int)]) (hl : x.2.2.length / 64 = n) (hgd : o.guard = none) (s y : Operand)
    (ho : o.op = .call { callee := .builtin .append, args := #[s, y], argTypes := #[31, 31] }) (hs : a.eval s = av) (hy : a.eval y = .slice (some ⟨g, 0, none⟩) 1 1) (hf : fa.length ≤ 100)
    (h : ∀ A c w' K', WJ w w' P V K' fr fi (fa ++ [x]) iv (.slice A (fa.length + 1) c) → (∀ b cs, av.ownBlock ≠ some b → Blk X b 33 cs → Blk w' b 33 cs) → KK (a.put o.dst (.slice A (fa.length + 1) c)) w') :
    if Region.wanted o (yielded ops a.tmps) = true then Oper.wp Try.prog o a X KK Q else E := by
  obtain ⟨i, hi, hz, hsz, hb⟩ := run_parts
  refine step_append3 (base := w.heap.size) (B := X.heap.size) X hgd s y _ ho Try.underlying31 hi hz hsz hb rfl (by decide) hs hJ.ra (m := 1) (c := 1) (A := some ⟨g, 0, none⟩) (news := [.int .i64 (x.2.1 : Int), .int .i64 (n : Int)]) hy rfl (by simp) (Nat.le_refl _) (blk_sl2 hN) (by simp [Value.oneCell']) (by unfold maxLen; omega) (by omega) hJ.sl.bel.size ?_
  intro v' w' g1 g2 g3
  obtain ⟨A, c, rfl⟩ := own_slice g1
  subst hl
  obtain ⟨K', j⟩ := hJ.appA x g1 g2 g3
  exact h A c w' K' j fun b cs hne hb => hb.keep (g2.block b hb.lt fun e => hne e.symm)
end
end Go.Proofs.Ytaainefdjbmekaa
