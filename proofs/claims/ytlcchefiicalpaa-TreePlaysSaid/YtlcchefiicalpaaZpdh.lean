/- Where a statement stands that has blocks of its own which it changes, beside its memory. The statements' Same, of equal lists. What TreeCuts wants: rows that stay readable, a store into a box of ones own, a Cut twice, a Put of what was cut. Put and Cut with arguments that are not right; what do does to a map. Where TreeFails and TreePlays stand: a memory, the box of a root, the box of a map. Calls that may fail. Stores into the memory's numbers. -/
import Derived.Test.YtlcchefiicalpaaZpde
import Derived.Test.YtlcchefiicalpaaZpdf
import Derived.Test.YtlcchefiicalpaaZpdg
import Derived.Test.YtlcchefiicalpaaZpf
import Derived.Test.YtlcchefiicalpaaZpj
namespace Go.Proofs.Ytlcchefiicalpaa
open Go.RowKit
structure LG (B : Nat) (w0 : World) (p : Nat) (w : World) (X G : Nat → Prop) (st : Tr.MSt) : Prop where
  rep : MRep p w X st
  bel : Below B w0 w
  ge : ∀ b, X b → B ≤ b
  geG : ∀ b, G b → B ≤ b
  ltG : ∀ b, G b → b < w.heap.size
  dis : ∀ b, G b → ¬ X b
  sz : B ≤ w.heap.size
section
variable {B p : Nat} {w0 w w' : World} {X X' G : Nat → Prop} {st st' : Tr.MSt}
theorem LG.stp (h : LG B w0 p w X G st) (hr : MRep p w' X' st') (hs : Stp w X w' X') : LG B w0 p w' X' G st' :=
  ⟨hr, ⟨hs.chg.os.trans h.bel.os, hs.chg.tape.trans h.bel.tape, hs.chg.output.trans h.bel.output, Nat.le_trans h.bel.size hs.chg.size, fun b hb => (hs.chg.block b (Nat.lt_of_lt_of_le hb h.sz) (fun hx => by have := h.ge b hx; omega)).trans (h.bel.block b hb)⟩,
    fun b hb => (hs.new b hb).elim (h.ge b) fun hl => Nat.le_trans h.sz hl, h.geG, fun b hb => Nat.lt_of_lt_of_le (h.ltG b hb) hs.chg.size, fun b hb hx => (hs.new b hx).elim (h.dis b hb) fun hl => by have := h.ltG b hb; omega, Nat.le_trans h.sz hs.chg.size⟩
theorem LG.keeps (h : LG B w0 p w X G st) (hs : Stp w X w' X') {b : Nat} (hb : G b) : w'.heap[b]? = w.heap[b]? := hs.chg.block b (h.ltG b hb) (h.dis b hb)
theorem LG.below (h : LG B w0 p w X G st) (hb : Below w.heap.size w w') : LG B w0 p w' X G st :=
  h.stp (h.rep.keep (G := fun _ => False) (.of_below _ hb) fun _ _ h => h) (.of_below X hb)
/-- One's own blocks are changed, new ones made. -/
theorem LG.own (h : LG B w0 p w X G st) (hc : Chg G w w') : LG B w0 p w' X G st :=
  ⟨h.rep.keep hc fun b hx hg => h.dis b hg hx, ⟨hc.os.trans h.bel.os, hc.tape.trans h.bel.tape, hc.output.trans h.bel.output, Nat.le_trans h.bel.size hc.size, fun b hb => (hc.block b (Nat.lt_of_lt_of_le hb h.sz) (fun hg => by have := h.geG b hg; omega)).trans (h.bel.block b hb)⟩,
    h.ge, h.geG, fun b hb => Nat.lt_of_lt_of_le (h.ltG b hb) hc.size, h.dis, Nat.le_trans h.sz hc.size⟩
theorem LG.add (h : LG B w0 p w X G st) {b : Nat} (hB : B ≤ b) (hl : b < w.heap.size) (hX : ¬ X b) : LG B w0 p w X (fun c => G c ∨ c = b) st :=
  ⟨h.rep, h.bel, h.ge, fun c hc => hc.elim (h.geG c) fun e => e ▸ hB, fun c hc => hc.elim (h.ltG c) fun e => e ▸ hl, fun c hc => hc.elim (h.dis c) fun e => e ▸ hX, h.sz⟩
theorem LG.less {G' : Nat → Prop} (h : LG B w0 p w X G st) (hG : ∀ b, G' b → G b) : LG B w0 p w X G' st := ⟨h.rep, h.bel, h.ge, fun b hb => h.geG b (hG b hb), fun b hb => h.ltG b (hG b hb), fun b hb => h.dis b (hG b hb), h.sz⟩
theorem LG.fresh (h : LG B w0 p w X G st) : ¬ X w.heap.size ∧ ¬ G w.heap.size := ⟨fun hx => Nat.lt_irrefl _ (h.rep.lt hx), fun hx => Nat.lt_irrefl _ (h.ltG _ hx)⟩
/-- A new block of one's own. -/
theorem LG.new (h : LG B w0 p w X G st) (t : TypeId) (C : Array Value) : LG B w0 p (w.alloc (.cells C t)) X (fun c => G c ∨ c = w.heap.size) st ∧ Blk (w.alloc (.cells C t)) w.heap.size t C :=
  ⟨(h.below (below_alloc1 w _)).add h.sz (by simp) h.fresh.1, Blk.new w t C⟩
end
/-- Roots as cells. -/
def rcs : List (Nd.T3 × Int) → List Value
  | [] => []
  | x :: l => .int .i64 x.1.1 :: .int .i64 x.1.2.1 :: .int .i64 x.1.2.2 :: .int .i64 x.2 :: rcs l
theorem rcs_len : ∀ l : List (Nd.T3 × Int), (rcs l).length = l.length * 4
  | [] => rfl
  | x :: l => by rw [rcs]; simp only [List.length_cons]; rw [rcs_len l]; omega
theorem rcs_app : ∀ l m : List (Nd.T3 × Int), rcs (l ++ m) = rcs l ++ rcs m
  | [], _ => rfl
  | x :: l, m => by rw [List.cons_append, rcs, rcs, rcs_app l m]; rfl
def rtZ : Nd.T3 × Int := ((0, 0, 0), 0)
theorem rcs_at : ∀ {l : List (Nd.T3 × Int)} {k : Nat}, k < l.length → (rcs l)[k * 4]? = some (.int .i64 (l.getD k rtZ).1.1) ∧ (rcs l)[k * 4 + 1]? = some (.int .i64 (l.getD k rtZ).1.2.1) ∧ (rcs l)[k * 4 + 2]? = some (.int .i64 (l.getD k rtZ).1.2.2) ∧ (rcs l)[k * 4 + 3]? = some (.int .i64 (l.getD k rtZ).2)
  | x :: l, 0, _ => ⟨rfl, rfl, rfl, rfl⟩
  | x :: l, k + 1, h => by
    have := rcs_at (l := l) (k := k) (by simpa using h)
    rw [show (k + 1) * 4 = k * 4 + 1 + 1 + 1 + 1 by omega, rcs]
    simp only [List.getElem?_cons_succ]
    exact this
theorem rcs_one (l : List (Nd.T3 × Int)) : ∀ u ∈ rcs l, u.oneCell' = true := by
  induction l with
  | nil => simp [rcs]
  | cons a l ih =>
    intro u hu
    rw [rcs] at hu
    simp only [List.mem_cons] at hu
    rcases hu with rfl | rfl | rfl | rfl | hu
    · rfl
    · rfl
    · rfl
    · rfl
    · exact ih u hu
theorem root_parts : ∃ i, Try.prog.info? 66 = some i ∧ i.zero = some (.agg #[.int .i64 0, .int .i64 0, .int .i64 0, .int .i64 0]) ∧ i.size = 4 ∧ i.bytes = 32 := by
  have h : (Try.prog.info? 66).map (fun i => (i.zero, i.size, i.bytes)) = some (some (.agg #[.int .i64 0, .int .i64 0, .int .i64 0, .int .i64 0]), 4, 32) := by kernel_rfl
  obtain ⟨i, hi, hz⟩ := Option.map_eq_some_iff.1 h
  simp only [Prod.mk.injEq] at hz
  exact ⟨i, hi, hz.1, hz.2.1, hz.2.2⟩
/-- A row of roots of one's own, read. -/
theorem roots_at {w : World} {B n : Nat} {v : Value} {l : List (Nd.T3 × Int)} (h : w.ownsRow B 66 4 v n (rcs l)) {i : Nat} (hi : i < l.length) (hn : l.length = n) : ∃ g c, v = .slice (some ⟨g, 0, none⟩) n c ∧ w.cell? ⟨g, i * 4, none⟩ = some (.int .i64 (l.getD i rtZ).1.1) ∧ w.cell? ⟨g, i * 4 + 1, none⟩ = some (.int .i64 (l.getD i rtZ).1.2.1) ∧ w.cell? ⟨g, i * 4 + 2, none⟩ = some (.int .i64 (l.getD i rtZ).1.2.2) ∧ w.cell? ⟨g, i * 4 + 3, none⟩ = some (.int .i64 (l.getD i rtZ).2) := by
  obtain ⟨g, c, rfl⟩ := own_some h (by omega)
  refine ⟨g, c, rfl, ?_⟩
  have hl := rcs_len l
  obtain ⟨r0, r1, r2, r3⟩ := rcs_at hi
  rcases own_slW' h with e | ⟨b, o, e, -, hc⟩
  · exfalso
    rw [e] at hl
    have h0 : ([] : List Value).length = 0 := rfl
    omega
  · injection e with e
    injection e with e1 e2
    subst e1
    subst e2
    have K : ∀ j, j < 4 → w.cell? ⟨g, i * 4 + j, none⟩ = (rcs l)[i * 4 + j]? := fun j hj => by
      have hlt : i * 4 + j < (rcs l).length := by rw [hl]; omega
      have := hc (i * 4 + j) hlt
      rw [Nat.zero_add] at this
      rw [this, List.getElem?_eq_getElem hlt]
    exact ⟨(K 0 (by decide)).trans r0, (K 1 (by decide)).trans r1, (K 2 (by decide)).trans r2, (K 3 (by decide)).trans r3⟩
/-- Four stores into a block. -/
theorem blk_st4 {V : World} {xb : Nat} {t : TypeId} {z0 z1 z2 z3 : Value} (h : Blk V xb t #[z0, z1, z2, z3]) (v0 v1 v2 v3 : Value) :
    ∃ s1 s2 s3 s4, V.setCell ⟨xb, 0, none⟩ v0 = s1 ∧ s1.setCell ⟨xb, 1, none⟩ v1 = s2 ∧ s2.setCell ⟨xb, 2, none⟩ v2 = s3 ∧ s3.setCell ⟨xb, 3, none⟩ v3 = s4 ∧
      (V.frozen? ⟨xb, 0, none⟩ = false ∧ s1.frozen? ⟨xb, 1, none⟩ = false ∧ s2.frozen? ⟨xb, 2, none⟩ = false ∧ s3.frozen? ⟨xb, 3, none⟩ = false) ∧
      (V.cell? ⟨xb, 0, none⟩ = some z0 ∧ s1.cell? ⟨xb, 1, none⟩ = some z1 ∧ s2.cell? ⟨xb, 2, none⟩ = some z2 ∧ s3.cell? ⟨xb, 3, none⟩ = some z3) ∧
      Blk s4 xb t #[v0, v1, v2, v3] ∧ Chg (fun b => b = xb) V s4 := by
  refine ⟨_, _, _, _, rfl, rfl, rfl, rfl, ?_⟩
  have r1 : Blk (V.setCell ⟨xb, 0, none⟩ v0) xb t #[v0, z1, z2, z3] := h.set_ 0 _
  have r2 : Blk ((V.setCell ⟨xb, 0, none⟩ v0).setCell ⟨xb, 1, none⟩ v1) xb t #[v0, v1, z2, z3] := r1.set_ 1 _
  have r3 : Blk (((V.setCell ⟨xb, 0, none⟩ v0).setCell ⟨xb, 1, none⟩ v1).setCell ⟨xb, 2, none⟩ v2) xb t #[v0, v1, v2, z3] := r2.set_ 2 _
  have r4 : Blk ((((V.setCell ⟨xb, 0, none⟩ v0).setCell ⟨xb, 1, none⟩ v1).setCell ⟨xb, 2, none⟩ v2).setCell ⟨xb, 3, none⟩ v3) xb t #[v0, v1, v2, v3] := r3.set_ 3 _
  refine ⟨⟨h.frozen 0, r1.frozen 1, r2.frozen 2, r3.frozen 3⟩, ⟨h.cell 0, r1.cell 1, r2.cell 2, r3.cell 3⟩, r4, ?_⟩
  exact ((((Chg.refl (fun b => b = xb) V).setCell (p := ⟨xb, 0, none⟩) (.inl rfl) _).setCell (p := ⟨xb, 1, none⟩) (.inl rfl) _).setCell (p := ⟨xb, 2, none⟩) (.inl rfl) _).setCell (p := ⟨xb, 3, none⟩) (.inl rfl) _
end Go.Proofs.Ytlcchefiicalpaa
namespace Go.Proofs.Ytlcchefiicalpaa
open Go.RowKit
set_option maxRecDepth 8000 in
set_option maxHeartbeats 8000000 in
theorem msame_any {w : World} {A A2 : Option Addr} {c c2 : Nat} {l : List Tr.E} (h : SlC w w.heap.size A c l.length (evs l)) (h2 : SlC w w.heap.size A2 c2 l.length (evs l)) (hl : l.length ≤ 100000) :
    Calls Try.prog 36 #[.slice A l.length c, .agg #[.slice A2 l.length c2]] w fun e w' => e = .returned (.bool true) ∧ Below w.heap.size w w' := by
  obtain ⟨W, hW⟩ : ∃ W, w.alloc (.cells #[.slice A2 l.length c2] 71) = W := ⟨_, rfl⟩
  have bx : Blk W w.heap.size 71 #[.slice A2 l.length c2] := by rw [← hW]; exact Blk.new _ _ _
  have hb1 : Below w.heap.size w W := by rw [← hW]; exact (Below.refl _ _).alloc (Nat.le_refl _) _
  have F1 := Lib.hid (h.below hb1)
  have F2 := Lib.hid (h2.below hb1)
  have HB := Lib.hid hb1
  obtain ⟨b, hb⟩ : ∃ b, w.heap.size = b := ⟨_, rfl⟩
  rw [hb] at bx F1 F2 HB ⊢
  obtain ⟨q, hq⟩ : ∃ q, q = l.length := ⟨_, rfl⟩
  have Hq := Lib.hid hq
  rw [← hq] at F1 F2 bx hl hW ⊢
  have x0 : W.cell? ⟨b, 0, none⟩ = some (.slice A2 q c2) := bx.cell 0
  have q6 : ((q : Int) != (q : Int)) = false := by simp
  clear bx hb1 h h2 hq
  go_enter Try.func36, Try.ntmps36
  go_wp2_with fail
  go_loopw [5] (fun v wr => ∃ i m : Nat, v = .int .i64 (i : Int) ∧ i ≤ q ∧ wr = W.drewN m) (fun v _ => q - (intOf v).toNat)
  case atStart => exact ⟨0, 0, rfl, Nat.zero_le _, (drewN_zeroN W).symm⟩
  case round =>
    obtain ⟨i, m, rfl, hi, rfl⟩ := hrel
    by_cases hik : i < q
    · have z0 : decide ((i : Int) < (q : Int)) = true := by rw [decide_eq_true_eq]; omega
      have z0' : decide (i < q) = true := by rw [decide_eq_true_eq]; exact hik
      have hki : (i : Int) < (q : Int) := by omega
      have hil : i < l.length := by rw [← Hq.out]; exact hik
      obtain ⟨g, o, rfl, -, c0, c1, c2, c3, c4⟩ := F1.out.ev (i := i) hil
      obtain ⟨g2, o2, rfl, -, d0, d1, d2, d3, d4⟩ := F2.out.ev (i := i) hil
      clear hil
      generalize (l.getD i Tr.z).k = ek at *
      generalize (l.getD i Tr.z).p.1 = e1 at *
      generalize (l.getD i Tr.z).p.2.1 = e2 at *
      generalize (l.getD i Tr.z).p.2.2 = e3 at *
      generalize (l.getD i Tr.z).g = eg at *
      have q5 : (ek != ek) = false := by simp
      have q7 : (eg != eg) = false := by simp
      go_wp2_with fail
      go_quiet (fail)
      go_wp2_with fail
      go_roundw
      case rel => exact ⟨i + 1, _, by go_num, by omega, rfl⟩
      case measure => simp [intOf]; omega
    · have hik' : i = q := by omega
      have z0 : decide ((i : Int) < (q : Int)) = false := by rw [decide_eq_false_iff_not]; omega
      have z0' : decide (i < q) = false := by rw [decide_eq_false_iff_not]; exact hik
      go_wp2_with fail
      go_returns
      have := HB.out
      exact ⟨rfl, ⟨this.os, this.tape, this.output, this.size, this.block⟩⟩
end Go.Proofs.Ytlcchefiicalpaa
namespace Go.Proofs.Ytlcchefiicalpaa
open Go.RowKit
theorem SlC.chg {w s : World} {rb : Nat} {D : Option Addr} {d n : Nat} {xs : List Value} (h : SlC w w.heap.size D d n xs) (hc : Chg (fun b => b = rb) w s) (hr : ∀ a, D = some a → a.block ≠ rb) : SlC s s.heap.size D d n xs := by
  refine ⟨h.le, h.nil, ?_⟩
  rcases h.sl with h0 | ⟨b, o, e, hb, hcc⟩
  · exact .inl h0
  · refine .inr ⟨b, o, e, Nat.lt_of_lt_of_le hb hc.size, fun i hi => ?_⟩
    rw [← hcc i hi]
    exact cell_heap (hc.block b hb (hr _ e))
theorem fast_slc2 {X : Nat → Prop} {w : World} {D : Option Addr} {d n : Nat} {xs : List Value} (h : SlC w w.heap.size D d n xs) (hX : xs = [] ∨ ∀ a, D = some a → ¬ X a.block) : Fast X w fun u => SlC u u.heap.size D d n xs := fun u k => by
  refine ⟨h.le, h.nil, ?_⟩
  rcases h.sl with h0 | ⟨b, o, e, hb, hc⟩
  · exact .inl h0
  · rcases hX with h0 | hX
    · exact .inl h0
    · refine .inr ⟨b, o, e, Nat.lt_of_lt_of_le hb k.size, fun i hi => ?_⟩
      rw [← hc i hi]
      exact cell_heap (k.block b hb (hX _ e))
theorem lw_chg {B p rb : Nat} {w0 w s : World} {X : Nat → Prop} {st : Tr.MSt} {K K' : World → Prop} (h : LW B w0 p w X st K) (hc : Chg (fun b => b = rb) w s) (hX : ¬ X rb) (hB : B ≤ rb) (hK : Fast X s K') : LW B w0 p s X st K' :=
  ⟨h.rep.keep hc fun b hx hg => hX (hg ▸ hx), ⟨hc.os.trans h.bel.os, hc.tape.trans h.bel.tape, hc.output.trans h.bel.output, Nat.le_trans h.bel.size hc.size, fun b hb => (hc.block b (Nat.lt_of_lt_of_le hb h.sz) (fun e => by have e : b = rb := e; omega)).trans (h.bel.block b hb)⟩, h.ge, Nat.le_trans h.sz hc.size, hK⟩
end Go.Proofs.Ytlcchefiicalpaa
namespace Go.Proofs.Ytlcchefiicalpaa
open Go.RowKit
/-- A call that is refused: the memory is as it was. -/
def NoO (p : Nat) (w : World) (X : Nat → Prop) (st : Tr.MSt) (e : Ending) (w' : World) : Prop := ∃ X' k' h', e = .returned (.tuple #[Tr.rootV k' h', .int .i64 1]) ∧ MRep p w' X' st ∧ Stp w X w' X'
section
variable {p : Nat} {w : World} {X : Nat → Prop} {st : Tr.MSt} {k : Nd.T3} {h : Int} {m : List Tr.E}
theorem tput_bad (hr : MRep p w X st) (hk : Tr.RootOk st.L k h m) {L : List Tr.E} {A : Option Addr} {c n : Nat} (hl : SlC w w.heap.size A c n (evs L)) (hn : L.length = n) (few : n ≤ 100000) (hL : ¬ ∀ e ∈ L, Tr.EOk e) :
    Calls Try.prog 39 #[memV p, Tr.rootV k h, .slice A n c] w (NoO p w X st) := by
  subst hn
  refine (put_any (memI p) inorder_any hr hl rfl few hk.kr fun hy => absurd hy hL).mono fun e w' he => ?_
  rw [Tr.putP_no _ hL] at he
  obtain ⟨X', e1, e2, -, k', h', e3⟩ := he
  exact ⟨X', k', h', e3, e1, e2⟩
theorem tcut_bad (hr : MRep p w X st) (hk : Tr.RootOk st.L k h m) {ks : List Int} {A : Option Addr} {c n : Nat} (hl : SlC w w.heap.size A c n (ivs ks)) (hn : ks.length = n) (few : n ≤ 100000) (hL : ¬ ∀ x ∈ ks, 0 ≤ x ∧ x < 512) :
    Calls Try.prog 40 #[memV p, Tr.rootV k h, .slice A n c] w (NoO p w X st) := by
  subst hn
  refine (cut_any (memI p) inorder_any hr hl rfl few hk.kr fun hy => absurd hy hL).mono fun e w' he => ?_
  rw [Tr.cutP_no _ hL] at he
  obtain ⟨X', e1, e2, -, k', h', e3⟩ := he
  exact ⟨X', k', h', e3, e1, e2⟩
end
theorem keysOk_iff {ks : List Int} : Tr.KeysOk ks ↔ ∀ x ∈ ks, 0 ≤ x ∧ x < 512 := by
  constructor
  · intro h x hx
    obtain ⟨j, hj, rfl⟩ := List.mem_iff_getElem.1 hx
    have := h j hj
    unfold Nd.at_ at this
    rw [List.getD_eq_getElem?_getD, List.getElem?_eq_getElem hj] at this
    exact this
  · intro h j hj
    unfold Nd.at_
    rw [List.getD_eq_getElem?_getD, List.getElem?_eq_getElem hj]
    exact h _ (List.getElem_mem _)
/-- A deed: entries put, or keys cut. -/
structure Tr.Dd where
  cut : Bool
  put : List Tr.E
  keys : List Int
instance (l : List Tr.E) : Decidable (Tr.OkL l) := by unfold Tr.OkL; infer_instance
instance (l : List Int) : Decidable (Tr.KeysOk l) := by unfold Tr.KeysOk; infer_instance
namespace Tr
def Dd.ok (d : Dd) : Prop := if d.cut = true then KeysOk d.keys else OkL d.put
instance (d : Dd) : Decidable d.ok := by unfold Dd.ok; infer_instance
/-- What a deed makes of a map. -/
def Dd.on (d : Dd) (m : List E) : List E := if d.ok then (if d.cut = true then cuts m d.keys else puts m d.put) else m
def Dd.n (d : Dd) : Nat := d.put.length + d.keys.length
end Tr
/-- Where a call stands that works with a memory: the memory now, what was stepped over, what stays. -/
structure DW (p : Nat) (w : World) (X0 : Nat → Prop) (W : World) (X : Nat → Prop) (st : Tr.MSt) (K : World → Prop) : Prop where
  rep : MRep p W X st
  stp : Stp w X0 W X
  kp : Fast X W K
section
variable {p : Nat} {w W W' : World} {X0 X X' : Nat → Prop} {st st' : Tr.MSt} {K P : World → Prop}
theorem DW.go (h : DW p w X0 W X st K) (hr : MRep p W' X' st') (hs : Stp W X W' X') : DW p w X0 W' X' st' K := ⟨hr, h.stp.trans hs, h.kp.step hs⟩
theorem DW.below (h : DW p w X0 W X st K) (hb : Below W.heap.size W W') : DW p w X0 W' X st K := h.go (h.rep.keep (G := fun _ => False) (.of_below _ hb) fun _ _ h => h) (.of_below X hb)
theorem DW.and_ (h : DW p w X0 W X st K) (hp : Fast X W P) : DW p w X0 W X st fun u => K u ∧ P u := ⟨h.rep, h.stp, h.kp.and_ hp⟩
theorem DW.fresh (h : DW p w X0 W X st K) : ¬ X W.heap.size := fun hx => Nat.lt_irrefl _ (h.rep.lt hx)
theorem DW.new (h : DW p w X0 W X st K) (t : TypeId) (C : Array Value) : DW p w X0 (W.alloc (.cells C t)) X st fun u => K u ∧ Blk u W.heap.size t C :=
  (h.below (below_alloc1 W _)).and_ (Fast.blk (Blk.new W t C) h.fresh)
theorem DW.imp (h : DW p w X0 W X st K) (hK : ∀ u, K u → P u) : DW p w X0 W X st P := ⟨h.rep, h.stp, h.kp.mono hK⟩
theorem DW.now (h : DW p w X0 W X st K) : K W := h.kp.now
theorem mrep_sv (h : MRep p w X st) : w.cell? ⟨p, 2, none⟩ = some (.int .i64 st.sv) := by
  obtain ⟨A, c, vs, h⟩ := h
  exact h.blk.cell 2
end
/-- What do leaves: the root and the map of the deed. -/
def DoO (p : Nat) (w : World) (X G : Nat → Prop) (st : Tr.MSt) (n : Nat) (m : List Tr.E) (e : Ending) (w' : World) : Prop := ∃ X' st' k' h' D d, e = .returned (.tuple #[Tr.rootV k' h', .agg #[.slice D m.length d], .bool true]) ∧ MRep p w' X' st' ∧ Stp w X w' X' ∧ (∃ q, Tr.Mor st st' q ∧ q ≤ n) ∧ Tr.RootOk st'.L k' h' m ∧ Fast (fun b => X' b ∨ G b) w' fun u => SlC u u.heap.size D d m.length (evs m)
/-- The stores at do's end, in either order. -/
theorem do_end {b3 b4 : Nat} {W : World} {z0 z1 z2 z3 y : Value} {t t' : TypeId} (B3 : Blk W b3 t #[z0, z1, z2, z3]) (B4 : Blk W b4 t' #[y]) (hne : b3 ≠ b4) (v0 v1 v2 v3 u : Value) :
    ∃ s1 s2 s3 s4 s5 t0 t1 t2 t3 t4, (W.setCell ⟨b3, 0, none⟩ v0 = s1 ∧ s1.setCell ⟨b3, 1, none⟩ v1 = s2 ∧ s2.setCell ⟨b3, 2, none⟩ v2 = s3 ∧ s3.setCell ⟨b3, 3, none⟩ v3 = s4 ∧ s4.setCell ⟨b4, 0, none⟩ u = s5) ∧
      (W.setCell ⟨b4, 0, none⟩ u = t0 ∧ t0.setCell ⟨b3, 0, none⟩ v0 = t1 ∧ t1.setCell ⟨b3, 1, none⟩ v1 = t2 ∧ t2.setCell ⟨b3, 2, none⟩ v2 = t3 ∧ t3.setCell ⟨b3, 3, none⟩ v3 = t4) ∧
      (W.frozen? ⟨b3, 0, none⟩ = false ∧ s1.frozen? ⟨b3, 1, none⟩ = false ∧ s2.frozen? ⟨b3, 2, none⟩ = false ∧ s3.frozen? ⟨b3, 3, none⟩ = false ∧ s4.frozen? ⟨b4, 0, none⟩ = false) ∧
      (W.frozen? ⟨b4, 0, none⟩ = false ∧ t0.frozen? ⟨b3, 0, none⟩ = false ∧ t1.frozen? ⟨b3, 1, none⟩ = false ∧ t2.frozen? ⟨b3, 2, none⟩ = false ∧ t3.frozen? ⟨b3, 3, none⟩ = false) ∧
      (W.cell? ⟨b3, 0, none⟩ = some z0 ∧ s1.cell? ⟨b3, 1, none⟩ = some z1 ∧ s2.cell? ⟨b3, 2, none⟩ = some z2 ∧ s3.cell? ⟨b3, 3, none⟩ = some z3 ∧ s4.cell? ⟨b4, 0, none⟩ = some y) ∧
      (W.cell? ⟨b4, 0, none⟩ = some y ∧ t0.cell? ⟨b3, 0, none⟩ = some z0 ∧ t1.cell? ⟨b3, 1, none⟩ = some z1 ∧ t2.cell? ⟨b3, 2, none⟩ = some z2 ∧ t3.cell? ⟨b3, 3, none⟩ = some z3) ∧
      (Chg (fun b => b = b3 ∨ b = b4) W s4 ∧ Chg (fun b => b = b3 ∨ b = b4) W s5 ∧ Chg (fun b => b = b3 ∨ b = b4) W t0 ∧ Chg (fun b => b = b3 ∨ b = b4) W t4) ∧
      (Blk s5 b3 t #[v0, v1, v2, v3] ∧ Blk s5 b4 t' #[u]) ∧ (Blk t4 b3 t #[v0, v1, v2, v3] ∧ Blk t4 b4 t' #[u]) := by
  obtain ⟨s1, s2, s3, s4, p1, p2, p3, p4, ⟨f1, f2, f3, f4⟩, ⟨g1, g2, g3, g4⟩, k1, k2⟩ := blk_st4 B3 v0 v1 v2 v3
  have B4s : Blk s4 b4 t' #[y] := B4.keep (k2.block _ B4.lt hne.symm)
  have c4 : Chg (fun b => b = b3 ∨ b = b4) W s4 := k2.mono fun _ h => .inl h
  have c5 : Chg (fun b => b = b3 ∨ b = b4) W (s4.setCell ⟨b4, 0, none⟩ u) := c4.setCell (p := ⟨b4, 0, none⟩) (.inl (.inr rfl)) u
  have B5 : Blk (s4.setCell ⟨b4, 0, none⟩ u) b4 t' #[u] := B4s.set_ 0 u
  have d0 : Chg (fun b => b = b4) W (W.setCell ⟨b4, 0, none⟩ u) := (Chg.refl (fun b => b = b4) W).setCell (p := ⟨b4, 0, none⟩) (.inl rfl) u
  have B4t : Blk (W.setCell ⟨b4, 0, none⟩ u) b4 t' #[u] := B4.set_ 0 u
  have B3t : Blk (W.setCell ⟨b4, 0, none⟩ u) b3 t #[z0, z1, z2, z3] := B3.keep (d0.block _ B3.lt hne)
  obtain ⟨t1, t2, t3, t4, q1, q2, q3, q4, ⟨h1, h2, h3, h4⟩, ⟨j1, j2, j3, j4⟩, m1, m2⟩ := blk_st4 B3t v0 v1 v2 v3
  have e0 : Chg (fun b => b = b3 ∨ b = b4) W (W.setCell ⟨b4, 0, none⟩ u) := d0.mono fun _ h => .inr h
  have hs : Chg (fun b => b = b4) s4 (s4.setCell ⟨b4, 0, none⟩ u) := (Chg.refl (fun b => b = b4) s4).setCell (p := ⟨b4, 0, none⟩) (.inl rfl) u
  exact ⟨s1, s2, s3, s4, _, _, t1, t2, t3, t4, ⟨p1, p2, p3, p4, rfl⟩, ⟨rfl, q1, q2, q3, q4⟩, ⟨f1, f2, f3, f4, B4s.frozen 0⟩, ⟨B4.frozen 0, h1, h2, h3, h4⟩, ⟨g1, g2, g3, g4, B4s.cell 0⟩, ⟨B4.cell 0, j1, j2, j3, j4⟩, ⟨c4, c5, e0, e0.then_ (m2.mono fun _ h => .inl h)⟩,
    ⟨k1.keep (hs.block _ k1.lt hne), B5⟩, ⟨m1, B4t.keep (m2.block _ B4t.lt hne.symm)⟩⟩
theorem DW.chg {b3 b4 p : Nat} {w W V : World} {X0 X G : Nat → Prop} {st : Tr.MSt} {K : World → Prop} (h : DW p w X0 W X st K) (hc : Chg (fun b => b = b3 ∨ b = b4) W V) (hX : ¬ X b3 ∧ ¬ X b4) (hge : w.heap.size ≤ b3 ∧ w.heap.size ≤ b4) {D : Option Addr} {n d : Nat} {xs : List Value} (hs : SlC W W.heap.size D d n xs) (hD : ∀ a, D = some a → ¬ X a.block ∧ a.block ≠ b3 ∧ a.block ≠ b4 ∧ ¬ G a.block) :
    MRep p V.drew X st ∧ Stp w X0 V.drew X ∧ Fast (fun b => X b ∨ G b) V.drew fun u => SlC u u.heap.size D d n xs := by
  have h1 : MRep p V X st := h.rep.keep hc fun b hb hg => hg.elim (fun e => hX.1 (e ▸ hb)) fun e => hX.2 (e ▸ hb)
  have hd : Below V.heap.size V V.drew := (Below.refl _ _).drew
  have h2 : Stp w X0 V X := ⟨⟨hc.os.trans h.stp.chg.os, hc.tape.trans h.stp.chg.tape, hc.output.trans h.stp.chg.output, Nat.le_trans h.stp.chg.size hc.size, fun b hb hx => (hc.block b (Nat.lt_of_lt_of_le hb h.stp.chg.size) fun hg => hg.elim (fun e => by omega) fun e => by omega).trans (h.stp.chg.block b hb hx)⟩, h.stp.new⟩
  have h3 : SlC V V.heap.size D d n xs := by
    refine ⟨hs.le, hs.nil, ?_⟩
    rcases hs.sl with h0 | ⟨b, o, e, hb, hcc⟩
    · exact .inl h0
    · refine .inr ⟨b, o, e, Nat.lt_of_lt_of_le hb hc.size, fun i hi => ?_⟩
      rw [← hcc i hi]
      exact cell_heap (hc.block b hb fun hg => hg.elim (hD _ e).2.1 (hD _ e).2.2.1)
  exact ⟨h1.keep (G := fun _ => False) (.of_below _ hd) fun _ _ h => h, h2.below hd, (fast_slc2 (X := fun b => X b ∨ G b) h3 (.inr fun a ha hx => hx.elim (hD a ha).1 (hD a ha).2.2.2)).below hd⟩
theorem DW.chg2 {b3 b4 p : Nat} {w W V : World} {X0 X G : Nat → Prop} {st : Tr.MSt} {K P : World → Prop} (h : DW p w X0 W X st K) (hc : Chg (fun b => b = b3 ∨ b = b4) W V) (hX : ¬ X b3 ∧ ¬ X b4) (hge : w.heap.size ≤ b3 ∧ w.heap.size ≤ b4) (hP : Fast (fun b => X0 b ∨ G b) w P) :
    MRep p V.drew X st ∧ Stp w X0 V.drew X ∧ Fast (fun b => X b ∨ G b) V.drew P := by
  have h1 : MRep p V X st := h.rep.keep hc fun b hb hg => hg.elim (fun e => hX.1 (e ▸ hb)) fun e => hX.2 (e ▸ hb)
  have hd : Below V.heap.size V V.drew := (Below.refl _ _).drew
  have h2 : Stp w X0 V X := ⟨⟨hc.os.trans h.stp.chg.os, hc.tape.trans h.stp.chg.tape, hc.output.trans h.stp.chg.output, Nat.le_trans h.stp.chg.size hc.size, fun b hb hx => (hc.block b (Nat.lt_of_lt_of_le hb h.stp.chg.size) fun hg => hg.elim (fun e => by omega) fun e => by omega).trans (h.stp.chg.block b hb hx)⟩, h.stp.new⟩
  have h3 : Fast (fun b => (X b ∨ G b) ∨ (b = b3 ∨ b = b4)) W P := Fast.new hP (h.stp.left G) fun b hb => hb.elim (fun e => by omega) fun e => by omega
  have h4 : Fast (fun b => X b ∨ G b) V P := fun u ku => h3 u ((hc.mono fun _ e => .inr e).then_ (ku.mono fun _ hx => .inl hx))
  exact ⟨h1.keep (G := fun _ => False) (.of_below _ hd) fun _ _ h => h, h2.below hd, h4.below hd⟩
theorem dw_box {p bx : Nat} {w W V s : World} {X0 X X' : Nat → Prop} {st st' : Tr.MSt} {K : World → Prop} {t : TypeId} {C : Array Value} (h : DW p w X0 W X st K) (hr : MRep p V X' st') (k : Stp W X V X') (hbx : W.heap.size ≤ bx) (hc : Chg (fun b => b = bx) V s) (hb : Blk s bx t C) (hX' : ¬ X' bx) : DW p w X0 s X' st' fun u => K u ∧ Blk u bx t C := by
  have h1 := h.go hr k
  have h0 := h.stp.chg.size
  have h2 : Fast (fun b => X' b ∨ b = bx) V K := h.kp.new k fun b hb => by have hb : b = bx := hb; omega
  exact ⟨hr.keep hc fun b hx hg => hX' (hg ▸ hx), ⟨⟨hc.os.trans h1.stp.chg.os, hc.tape.trans h1.stp.chg.tape, hc.output.trans h1.stp.chg.output, Nat.le_trans h1.stp.chg.size hc.size, fun b hb hx => (hc.block b (Nat.lt_of_lt_of_le hb h1.stp.chg.size) fun e => by have e : b = bx := e; omega).trans (h1.stp.chg.block b hb hx)⟩, h1.stp.new⟩,
    Fast.and_ (fun u ku => h2 u ((hc.mono fun _ e => .inr e).then_ (ku.mono fun _ hx => .inl hx))) (Fast.blk hb hX')⟩
end Go.Proofs.Ytlcchefiicalpaa
namespace Go.Proofs.Ytlcchefiicalpaa
open Go.RowKit
structure Fm (B : Nat) (w0 : World) (p : Nat) (w : World) (X : Nat → Prop) (st : Tr.MSt) (rb mb : Nat) (cr : Array Value) (D : Option Addr) (n d : Nat) (xs : List Value) (K : World → Prop) : Prop where
  rep : MRep p w X st
  bel : Below B w0 w
  ge : ∀ b, X b → B ≤ b
  sz : B ≤ w.heap.size
  br : Blk w rb 66 cr
  bm : Blk w mb 71 #[.slice D n d]
  sl : Fast (fun b => X b ∨ (b = rb ∨ b = mb)) w fun u => SlC u u.heap.size D d n xs
  kp : Fast (fun b => X b ∨ (b = rb ∨ b = mb)) w K
  fr : ¬ X rb
  fm : ¬ X mb
  ne : rb ≠ mb
  gr : B ≤ rb
  gm : B ≤ mb
section
variable {B p rb mb n d n' d' : Nat} {w0 w w' V : World} {X X' : Nat → Prop} {st st' : Tr.MSt} {cr cr' : Array Value} {D D' : Option Addr} {xs xs' : List Value} {K P : World → Prop}
theorem Fm.stp (h : Fm B w0 p w X st rb mb cr D n d xs K) (hr : MRep p w' X' st') (hs : Stp w X w' X') : Fm B w0 p w' X' st' rb mb cr D n d xs K :=
  ⟨hr, ⟨hs.chg.os.trans h.bel.os, hs.chg.tape.trans h.bel.tape, hs.chg.output.trans h.bel.output, Nat.le_trans h.bel.size hs.chg.size, fun b hb => (hs.chg.block b (Nat.lt_of_lt_of_le hb h.sz) (fun hx => by have := h.ge b hx; omega)).trans (h.bel.block b hb)⟩,
    fun b hb => (hs.new b hb).elim (h.ge b) fun hl => Nat.le_trans h.sz hl, Nat.le_trans h.sz hs.chg.size, h.br.keep (hs.chg.block _ h.br.lt h.fr), h.bm.keep (hs.chg.block _ h.bm.lt h.fm), h.sl.step (hs.left _), h.kp.step (hs.left _), hs.far h.br.lt h.fr, hs.far h.bm.lt h.fm, h.ne, h.gr, h.gm⟩
theorem Fm.below (h : Fm B w0 p w X st rb mb cr D n d xs K) (hb : Below w.heap.size w w') : Fm B w0 p w' X st rb mb cr D n d xs K :=
  h.stp (h.rep.keep (G := fun _ => False) (.of_below _ hb) fun _ _ h => h) (.of_below X hb)
theorem Fm.now (h : Fm B w0 p w X st rb mb cr D n d xs K) : K w := h.kp.now
theorem Fm.fresh (h : Fm B w0 p w X st rb mb cr D n d xs K) : ¬ X w.heap.size ∧ rb < w.heap.size ∧ mb < w.heap.size := ⟨fun hx => Nat.lt_irrefl _ (h.rep.lt hx), h.br.lt, h.bm.lt⟩
theorem Fm.and_ (h : Fm B w0 p w X st rb mb cr D n d xs K) (hp : Fast (fun b => X b ∨ (b = rb ∨ b = mb)) w P) : Fm B w0 p w X st rb mb cr D n d xs fun u => K u ∧ P u := ⟨h.rep, h.bel, h.ge, h.sz, h.br, h.bm, h.sl, h.kp.and_ hp, h.fr, h.fm, h.ne, h.gr, h.gm⟩
theorem Fm.imp (h : Fm B w0 p w X st rb mb cr D n d xs K) (hK : ∀ u, K u → P u) : Fm B w0 p w X st rb mb cr D n d xs P := ⟨h.rep, h.bel, h.ge, h.sz, h.br, h.bm, h.sl, h.kp.mono hK, h.fr, h.fm, h.ne, h.gr, h.gm⟩
theorem Fm.new (h : Fm B w0 p w X st rb mb cr D n d xs K) (t : TypeId) (C : Array Value) : Fm B w0 p (w.alloc (.cells C t)) X st rb mb cr D n d xs fun u => K u ∧ Blk u w.heap.size t C :=
  (h.below (below_alloc1 w _)).and_ (Fast.blk (Blk.new w t C) fun hx => hx.elim h.fresh.1 fun e => e.elim (fun e => by have := h.br.lt; omega) fun e => by have := h.bm.lt; omega)
theorem Fm.bel_of {u : World} (h : Fm B w0 p w X st rb mb cr D n d xs K) (hc : Chg X w u) : Below B w0 u := ⟨hc.os.trans h.bel.os, hc.tape.trans h.bel.tape, hc.output.trans h.bel.output, Nat.le_trans h.bel.size hc.size, fun b hb => (hc.block b (Nat.lt_of_lt_of_le hb h.sz) (fun hx => by have := h.ge b hx; omega)).trans (h.bel.block b hb)⟩
theorem Fm.bel_chg {u : World} (h : Fm B w0 p w X st rb mb cr D n d xs K) (hc : Chg (fun b => b = rb ∨ b = mb) w u) : Below B w0 u := ⟨hc.os.trans h.bel.os, hc.tape.trans h.bel.tape, hc.output.trans h.bel.output, Nat.le_trans h.bel.size hc.size, fun b hb => (hc.block b (Nat.lt_of_lt_of_le hb h.sz) (fun hx => hx.elim (fun e => by have := h.gr; omega) fun e => by have := h.gm; omega)).trans (h.bel.block b hb)⟩
/-- A call of do, and what it gave stored in the boxes. -/
theorem Fm.put (h : Fm B w0 p w X st rb mb cr D n d xs K) (hr : MRep p w' X' st') (hs : Stp w X w' X') (hsl : Fast (fun b => X' b ∨ (b = rb ∨ b = mb)) w' fun u => SlC u u.heap.size D' d' n' xs') (hc : Chg (fun b => b = rb ∨ b = mb) w' V) (b1 : Blk V rb 66 cr') (b2 : Blk V mb 71 #[.slice D' n' d']) :
    Fm B w0 p V X' st' rb mb cr' D' n' d' xs' K := by
  have h1 := h.stp hr hs
  have hi : ∀ {Q : World → Prop}, Fast (fun b => X' b ∨ (b = rb ∨ b = mb)) w' Q → Fast (fun b => X' b ∨ (b = rb ∨ b = mb)) V Q := fun hq u ku => hq u ((hc.mono fun _ e => .inr e).then_ ku)
  exact ⟨hr.keep hc fun b hx hg => hg.elim (fun e => h1.fr (e ▸ hx)) fun e => h1.fm (e ▸ hx), ⟨hc.os.trans h1.bel.os, hc.tape.trans h1.bel.tape, hc.output.trans h1.bel.output, Nat.le_trans h1.bel.size hc.size, fun b hb => (hc.block b (Nat.lt_of_lt_of_le hb h1.sz) fun hg => hg.elim (fun e => by have := h.gr; omega) fun e => by have := h.gm; omega).trans (h1.bel.block b hb)⟩, h1.ge, Nat.le_trans h1.sz hc.size, b1, b2, hi hsl, hi h1.kp, h1.fr, h1.fm, h.ne, h.gr, h.gm⟩
/-- A store into another box of one's own. -/
theorem Fm.chg {x : Nat} (h : Fm B w0 p w X st rb mb cr D n d xs K) (hc : Chg (fun b => b = x) w V) (hx : ¬ X x ∧ x ≠ rb ∧ x ≠ mb) (hB : B ≤ x) (hs : Fast (fun b => X b ∨ (b = rb ∨ b = mb)) V fun u => SlC u u.heap.size D d n xs) (hK : Fast (fun b => X b ∨ (b = rb ∨ b = mb)) V P) : Fm B w0 p V X st rb mb cr D n d xs P :=
  ⟨h.rep.keep hc fun b hb hg => hx.1 (by have hg : b = x := hg; exact hg ▸ hb), ⟨hc.os.trans h.bel.os, hc.tape.trans h.bel.tape, hc.output.trans h.bel.output, Nat.le_trans h.bel.size hc.size, fun b hb => (hc.block b (Nat.lt_of_lt_of_le hb h.sz) fun e => by have e : b = x := e; omega).trans (h.bel.block b hb)⟩, h.ge, Nat.le_trans h.sz hc.size, h.br.keep (hc.block _ h.br.lt hx.2.1.symm), h.bm.keep (hc.block _ h.bm.lt hx.2.2.symm), hs, hK, h.fr, h.fm, h.ne, h.gr, h.gm⟩
end
/-- A store into a box that is new since the beginning. -/
theorem DW.own {p x : Nat} {w W V : World} {X0 X : Nat → Prop} {st : Tr.MSt} {K P : World → Prop} (h : DW p w X0 W X st K) (hc : Chg (fun b => b = x) W V) (hX : ¬ X x) (hge : w.heap.size ≤ x) (hP : Fast X V P) : DW p w X0 V X st P :=
  ⟨h.rep.keep hc fun b hb hg => hX (by have hg : b = x := hg; exact hg ▸ hb), ⟨⟨hc.os.trans h.stp.chg.os, hc.tape.trans h.stp.chg.tape, hc.output.trans h.stp.chg.output, Nat.le_trans h.stp.chg.size hc.size, fun b hb hx => (hc.block b (Nat.lt_of_lt_of_le hb h.stp.chg.size) fun hg => by have hg : b = x := hg; omega).trans (h.stp.chg.block b hb hx)⟩, h.stp.new⟩, hP⟩
end Go.Proofs.Ytlcchefiicalpaa
