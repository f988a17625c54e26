/- Where a statement stands that has blocks of its own which it changes, beside its memory. -/
import Derived.Test.YtlcchefiicalpaaTlaJ
namespace Go.Proofs.Ytlcchefiicalpaa
open Go.RowKit
structure LG (B : Nat) (w0 : World) (p : Nat) (w : World) (X G : Nat → Prop) (st : Tr.MSt) : Prop where
  rep : MRep p w X st
  bel : Below B w0 w
  ge : ∀ b, X b → B ≤ b
  geG : ∀ b, G b → B ≤ b
  ltG : ∀ b, G b → b < w.heap.size
  dis : ∀ b, G b → ¬ X b
  sz : B ≤ w.heap.size
section
variable {B p : Nat} {w0 w w' : World} {X X' G : Nat → Prop} {st st' : Tr.MSt}
theorem LG.stp (h : LG B w0 p w X G st) (hr : MRep p w' X' st') (hs : Stp w X w' X') : LG B w0 p w' X' G st' :=
  ⟨hr, ⟨hs.chg.os.trans h.bel.os, hs.chg.tape.trans h.bel.tape, hs.chg.output.trans h.bel.output, Nat.le_trans h.bel.size hs.chg.size, fun b hb => (hs.chg.block b (Nat.lt_of_lt_of_le hb h.sz) (fun hx => by have := h.ge b hx; omega)).trans (h.bel.block b hb)⟩,
    fun b hb => (hs.new b hb).elim (h.ge b) fun hl => Nat.le_trans h.sz hl, h.geG, fun b hb => Nat.lt_of_lt_of_le (h.ltG b hb) hs.chg.size, fun b hb hx => (hs.new b hx).elim (h.dis b hb) fun hl => by have := h.ltG b hb; omega, Nat.le_trans h.sz hs.chg.size⟩
theorem LG.keeps (h : LG B w0 p w X G st) (hs : Stp w X w' X') {b : Nat} (hb : G b) : w'.heap[b]? = w.heap[b]? := hs.chg.block b (h.ltG b hb) (h.dis b hb)
theorem LG.below (h : LG B w0 p w X G st) (hb : Below w.heap.size w w') : LG B w0 p w' X G st :=
  h.stp (h.rep.keep (G := fun _ => False) (.of_below _ hb) fun _ _ h => h) (.of_below X hb)
/-- One's own blocks are changed, new ones made. -/
theorem LG.own (h : LG B w0 p w X G st) (hc : Chg G w w') : LG B w0 p w' X G st :=
  ⟨h.rep.keep hc fun b hx hg => h.dis b hg hx, ⟨hc.os.trans h.bel.os, hc.tape.trans h.bel.tape, hc.output.trans h.bel.output, Nat.le_trans h.bel.size hc.size, fun b hb => (hc.block b (Nat.lt_of_lt_of_le hb h.sz) (fun hg => by have := h.geG b hg; omega)).trans (h.bel.block b hb)⟩,
    h.ge, h.geG, fun b hb => Nat.lt_of_lt_of_le (h.ltG b hb) hc.size, h.dis, Nat.le_trans h.sz hc.size⟩
theorem LG.add (h : LG B w0 p w X G st) {b : Nat} (hB : B ≤ b) (hl : b < w.heap.size) (hX : ¬ X b) : LG B w0 p w X (fun c => G c ∨ c = b) st :=
  ⟨h.rep, h.bel, h.ge, fun c hc => hc.elim (h.geG c) fun e => e ▸ hB, fun c hc => hc.elim (h.ltG c) fun e => e ▸ hl, fun c hc => hc.elim (h.dis c) fun e => e ▸ hX, h.sz⟩
theorem LG.less {G' : Nat → Prop} (h : LG B w0 p w X G st) (hG : ∀ b, G' b → G b) : LG B w0 p w X G' st := ⟨h.rep, h.bel, h.ge, fun b hb => h.geG b (hG b hb), fun b hb => h.ltG b (hG b hb), fun b hb => h.dis b (hG b hb), h.sz⟩
theorem LG.fresh (h : LG B w0 p w X G st) : ¬ X w.heap.size ∧ ¬ G w.heap.size := ⟨fun hx => Nat.lt_irrefl _ (h.rep.lt hx), fun hx => Nat.lt_irrefl _ (h.ltG _ hx)⟩
/-- A new block of one's own. -/
theorem LG.new (h : LG B w0 p w X G st) (t : TypeId) (C : Array Value) : LG B w0 p (w.alloc (.cells C t)) X (fun c => G c ∨ c = w.heap.size) st ∧ Blk (w.alloc (.cells C t)) w.heap.size t C :=
  ⟨(h.below (below_alloc1 w _)).add h.sz (by simp) h.fresh.1, Blk.new w t C⟩
end
theorem lg_start {w0 w : World} (hb : Below w0.heap.size w0 w) : LG w0.heap.size w0 w.heap.size (w.alloc (.cells #[.slice none 0 0, .int .i64 0, .int .i64 0, .int .i64 0, .int .i64 0] 64)) (fun b => b = w.heap.size) (fun _ => False) ⟨[], 0, 0, 0, 0⟩ :=
  ⟨mrep_new w, hb.trans ((below_alloc1 w _).mono hb.size), fun b e => by have e : b = w.heap.size := e; have := hb.size; omega, (fun b h => h.elim), (fun b h => h.elim), (fun b h => h.elim), by have := hb.size; simp; omega⟩
/-- Roots as cells. -/
def rcs : List (Nd.T3 × Int) → List Value
  | [] => []
  | x :: l => .int .i64 x.1.1 :: .int .i64 x.1.2.1 :: .int .i64 x.1.2.2 :: .int .i64 x.2 :: rcs l
theorem rcs_len : ∀ l : List (Nd.T3 × Int), (rcs l).length = l.length * 4
  | [] => rfl
  | x :: l => by rw [rcs]; simp only [List.length_cons]; rw [rcs_len l]; omega
theorem rcs_app : ∀ l m : List (Nd.T3 × Int), rcs (l ++ m) = rcs l ++ rcs m
  | [], _ => rfl
  | x :: l, m => by rw [List.cons_append, rcs, rcs, rcs_app l m]; rfl
def rtZ : Nd.T3 × Int := ((0, 0, 0), 0)
theorem rcs_at : ∀ {l : List (Nd.T3 × Int)} {k : Nat}, k < l.length → (rcs l)[k * 4]? = some (.int .i64 (l.getD k rtZ).1.1) ∧ (rcs l)[k * 4 + 1]? = some (.int .i64 (l.getD k rtZ).1.2.1) ∧ (rcs l)[k * 4 + 2]? = some (.int .i64 (l.getD k rtZ).1.2.2) ∧ (rcs l)[k * 4 + 3]? = some (.int .i64 (l.getD k rtZ).2)
  | x :: l, 0, _ => ⟨rfl, rfl, rfl, rfl⟩
  | x :: l, k + 1, h => by
    have := rcs_at (l := l) (k := k) (by simpa using h)
    rw [show (k + 1) * 4 = k * 4 + 1 + 1 + 1 + 1 by omega, rcs]
    simp only [List.getElem?_cons_succ]
    exact this
theorem rcs_one (l : List (Nd.T3 × Int)) : ∀ u ∈ rcs l, u.oneCell' = true := by
  induction l with
  | nil => simp [rcs]
  | cons a l ih =>
    intro u hu
    rw [rcs] at hu
    simp only [List.mem_cons] at hu
    rcases hu with rfl | rfl | rfl | rfl | hu
    · rfl
    · rfl
    · rfl
    · rfl
    · exact ih u hu
theorem root_parts : ∃ i, Try.prog.info? 66 = some i ∧ i.zero = some (.agg #[.int .i64 0, .int .i64 0, .int .i64 0, .int .i64 0]) ∧ i.size = 4 ∧ i.bytes = 32 := by
  have h : (Try.prog.info? 66).map (fun i => (i.zero, i.size, i.bytes)) = some (some (.agg #[.int .i64 0, .int .i64 0, .int .i64 0, .int .i64 0]), 4, 32) := by kernel_rfl
  obtain ⟨i, hi, hz⟩ := Option.map_eq_some_iff.1 h
  simp only [Prod.mk.injEq] at hz
  exact ⟨i, hi, hz.1, hz.2.1, hz.2.2⟩
theorem sl_fourR {w : World} {a b c d : Value} {t : TypeId} : Sl (w.alloc (.cells #[a, b, c, d] t)) (w.heap.size + 1) (some ⟨w.heap.size, 0, none⟩) [a, b, c, d] := .inr ⟨w.heap.size, 0, rfl, by omega, fun i hi => by
  have hi : i < 4 := hi
  have : i = 0 ∨ i = 1 ∨ i = 2 ∨ i = 3 := by omega
  rcases this with rfl | rfl | rfl | rfl <;> exact (Blk.new w t _).cell _⟩
/-- A row of roots of one's own, read. -/
theorem roots_at {w : World} {B n : Nat} {v : Value} {l : List (Nd.T3 × Int)} (h : w.ownsRow B 66 4 v n (rcs l)) {i : Nat} (hi : i < l.length) (hn : l.length = n) : ∃ g c, v = .slice (some ⟨g, 0, none⟩) n c ∧ w.cell? ⟨g, i * 4, none⟩ = some (.int .i64 (l.getD i rtZ).1.1) ∧ w.cell? ⟨g, i * 4 + 1, none⟩ = some (.int .i64 (l.getD i rtZ).1.2.1) ∧ w.cell? ⟨g, i * 4 + 2, none⟩ = some (.int .i64 (l.getD i rtZ).1.2.2) ∧ w.cell? ⟨g, i * 4 + 3, none⟩ = some (.int .i64 (l.getD i rtZ).2) := by
  obtain ⟨g, c, rfl⟩ := own_some h (by omega)
  refine ⟨g, c, rfl, ?_⟩
  have hl := rcs_len l
  obtain ⟨r0, r1, r2, r3⟩ := rcs_at hi
  rcases own_slW' h with e | ⟨b, o, e, -, hc⟩
  · exfalso
    rw [e] at hl
    have h0 : ([] : List Value).length = 0 := rfl
    omega
  · injection e with e
    injection e with e1 e2
    subst e1
    subst e2
    have K : ∀ j, j < 4 → w.cell? ⟨g, i * 4 + j, none⟩ = (rcs l)[i * 4 + j]? := fun j hj => by
      have hlt : i * 4 + j < (rcs l).length := by rw [hl]; omega
      have := hc (i * 4 + j) hlt
      rw [Nat.zero_add] at this
      rw [this, List.getElem?_eq_getElem hlt]
    exact ⟨(K 0 (by decide)).trans r0, (K 1 (by decide)).trans r1, (K 2 (by decide)).trans r2, (K 3 (by decide)).trans r3⟩
/-- Four stores into a block. -/
theorem blk_st4 {V : World} {xb : Nat} {t : TypeId} {z0 z1 z2 z3 : Value} (h : Blk V xb t #[z0, z1, z2, z3]) (v0 v1 v2 v3 : Value) :
    ∃ s1 s2 s3 s4, V.setCell ⟨xb, 0, none⟩ v0 = s1 ∧ s1.setCell ⟨xb, 1, none⟩ v1 = s2 ∧ s2.setCell ⟨xb, 2, none⟩ v2 = s3 ∧ s3.setCell ⟨xb, 3, none⟩ v3 = s4 ∧
      (V.frozen? ⟨xb, 0, none⟩ = false ∧ s1.frozen? ⟨xb, 1, none⟩ = false ∧ s2.frozen? ⟨xb, 2, none⟩ = false ∧ s3.frozen? ⟨xb, 3, none⟩ = false) ∧
      (V.cell? ⟨xb, 0, none⟩ = some z0 ∧ s1.cell? ⟨xb, 1, none⟩ = some z1 ∧ s2.cell? ⟨xb, 2, none⟩ = some z2 ∧ s3.cell? ⟨xb, 3, none⟩ = some z3) ∧
      Blk s4 xb t #[v0, v1, v2, v3] ∧ Chg (fun b => b = xb) V s4 := by
  refine ⟨_, _, _, _, rfl, rfl, rfl, rfl, ?_⟩
  have r1 : Blk (V.setCell ⟨xb, 0, none⟩ v0) xb t #[v0, z1, z2, z3] := h.set_ 0 _
  have r2 : Blk ((V.setCell ⟨xb, 0, none⟩ v0).setCell ⟨xb, 1, none⟩ v1) xb t #[v0, v1, z2, z3] := r1.set_ 1 _
  have r3 : Blk (((V.setCell ⟨xb, 0, none⟩ v0).setCell ⟨xb, 1, none⟩ v1).setCell ⟨xb, 2, none⟩ v2) xb t #[v0, v1, v2, z3] := r2.set_ 2 _
  have r4 : Blk ((((V.setCell ⟨xb, 0, none⟩ v0).setCell ⟨xb, 1, none⟩ v1).setCell ⟨xb, 2, none⟩ v2).setCell ⟨xb, 3, none⟩ v3) xb t #[v0, v1, v2, v3] := r3.set_ 3 _
  refine ⟨⟨h.frozen 0, r1.frozen 1, r2.frozen 2, r3.frozen 3⟩, ⟨h.cell 0, r1.cell 1, r2.cell 2, r3.cell 3⟩, r4, ?_⟩
  exact ((((Chg.refl (fun b => b = xb) V).setCell (p := ⟨xb, 0, none⟩) (.inl rfl) _).setCell (p := ⟨xb, 1, none⟩) (.inl rfl) _).setCell (p := ⟨xb, 2, none⟩) (.inl rfl) _).setCell (p := ⟨xb, 3, none⟩) (.inl rfl) _
namespace Tr
theorem puts_mem {m : List E} : ∀ {l : List E} {e : E}, e ∈ puts m l → e ∈ m ∨ e ∈ l := by
  intro l
  induction l generalizing m with
  | nil => exact fun h => .inl h
  | cons x l ih =>
    intro e h
    rcases ih (m := ins m x) h with h | h
    · by_cases hx : hit m x.k
      · rw [ins_hit hx] at h
        rcases List.mem_append.1 h with h | h
        · exact .inl (List.mem_of_mem_take h)
        · rcases List.mem_cons.1 h with rfl | h
          · exact .inr (List.mem_cons_self ..)
          · exact .inl (List.mem_of_mem_drop h)
      · unfold ins at h
        rw [if_neg hx] at h
        rcases List.mem_append.1 h with h | h
        · exact .inl (List.mem_of_mem_take h)
        · rcases List.mem_cons.1 h with rfl | h
          · exact .inr (List.mem_cons_self ..)
          · exact .inl (List.mem_of_mem_drop h)
    · exact .inr (List.mem_cons_of_mem _ h)
theorem hit_mem {m : List E} {k : Int} (h : hit m k) : ∃ e ∈ m, e.k = k := by
  refine ⟨m[idx m k]'h.1, List.getElem_mem _, ?_⟩
  have := h.2
  rw [List.getD_eq_getElem?_getD, List.getElem?_eq_getElem h.1] at this
  exact this
end Tr
end Go.Proofs.Ytlcchefiicalpaa
