/- The statements' memory, as it lies in a world: its block, its row of nodes, the blocks of each node. The statements' memory: Save, where it takes nothing. -/
import Derived.Test.YtlcchefiicalpaaZwba
import Derived.Test.YtlcchefiicalpaaZwe
import Derived.Test.YtlcchefiicalpaaZwi
import Derived.Test.YtlcchefiicalpaaZwj
namespace Go.Proofs.Ytlcchefiicalpaa
open Go.RowKit
/-- A node in the blocks X: it can be read whatever becomes of the others. -/
def NdJ (X : Nat → Prop) (w : World) (v : Value) (n : Nd.N) : Prop := ∀ u : World, w.heap.size ≤ u.heap.size → (∀ k, X k → k < w.heap.size → u.heap[k]? = w.heap[k]?) → NdAt u u.heap.size v n
theorem NdJ.now {X : Nat → Prop} {w : World} {v : Value} {n : Nd.N} (h : NdJ X w v n) : NdAt w w.heap.size v n := h w (Nat.le_refl _) fun _ _ _ => rfl
theorem NdJ.keep {X X' : Nat → Prop} {w w' : World} {v : Value} {n : Nd.N} (h : NdJ X w v n) (hs : w.heap.size ≤ w'.heap.size) (hX : ∀ b, X b → b < w.heap.size → X' b) (hk : ∀ b, X b → b < w.heap.size → w'.heap[b]? = w.heap[b]?) : NdJ X' w' v n := fun u hu hb =>
  h u (Nat.le_trans hs hu) fun k hx hl => (hb k (hX k hx hl) (Nat.lt_of_lt_of_le hl hs)).trans (hk k hx hl)
theorem NdI.j {B : Nat} {w : World} {v : Value} {n : Nd.N} (h : NdI B w v n) {X : Nat → Prop} (hX : ∀ b, B ≤ b → b < w.heap.size → X b) : NdJ X w v n := fun u hu hb => h u hu fun k hk hl => hb k (hX k hk hl) hl
/-- What is new since w0 can be read whatever becomes of older blocks. -/
theorem NdI.new {w0 w : World} {B : Nat} {X : Nat → Prop} {v : Value} {n : Nd.N} (h : NdI B w v n) (hB : w0.heap.size ≤ B) (hX : ∀ b, X b → b < B) : NdN w0 X w v n := fun u hc =>
  h u hc.size fun k hk hl => hc.block k hl fun hx => hx.elim (fun hx => by have := hX k hx; omega) (fun hx => by omega)
theorem nd_zero (X : Nat → Prop) (w0 w : World) : NdN w0 X w ndZ Nd.zero := fun _ _ => ⟨none, 0, none, 0, none, 0, none, 0, rfl, ⟨Nat.le_refl _, fun _ => rfl, .inl rfl⟩, ⟨Nat.le_refl _, fun _ => rfl, .inl rfl⟩, ⟨Nat.le_refl _, fun _ => rfl, .inl rfl⟩, ⟨Nat.le_refl _, fun _ => rfl, .inl rfl⟩⟩
/-- The nodes' cells, one after the other. -/
def ncs (vs : List (Array Value)) : List Value := vs.flatMap (·.toList)
theorem ncs_app (l m : List (Array Value)) : ncs (l ++ m) = ncs l ++ ncs m := List.flatMap_append
theorem ncs_len : ∀ {vs : List (Array Value)}, (∀ v ∈ vs, v.size = 5) → (ncs vs).length = vs.length * 5
  | [], _ => rfl
  | v :: l, h => by
    have h1 := h v (List.mem_cons_self ..)
    have ih := ncs_len (vs := l) fun x hx => h x (List.mem_cons_of_mem _ hx)
    show (v.toList ++ ncs l).length = _
    rw [List.length_append, ih, Array.length_toList, h1, List.length_cons]; omega
theorem ncs_at : ∀ {vs : List (Array Value)}, (∀ v ∈ vs, v.size = 5) → ∀ {i j : Nat} {v : Array Value}, vs[i]? = some v → j < 5 → (ncs vs)[i * 5 + j]? = v[j]?
  | [], _, i, _, _, h, _ => by cases i <;> cases h
  | y :: l, h, 0, j, v, hv, hj => by
    injection hv with hv
    subst hv
    show (y.toList ++ ncs l)[0 * 5 + j]? = _
    rw [Nat.zero_mul, Nat.zero_add, List.getElem?_append_left (by rw [Array.length_toList, h y (List.mem_cons_self ..)]; exact hj), Array.getElem?_toList]
  | y :: l, h, i + 1, j, v, hv, hj => by
    have ih := ncs_at (vs := l) (fun x hx => h x (List.mem_cons_of_mem _ hx)) (i := i) (j := j) (v := v) (by simpa using hv) hj
    show (y.toList ++ ncs l)[(i + 1) * 5 + j]? = _
    have hy : y.toList.length = 5 := by rw [Array.length_toList]; exact h y (List.mem_cons_self ..)
    rw [List.getElem?_append_right (by rw [hy]; omega), hy, show (i + 1) * 5 + j - 5 = i * 5 + j by omega, ih]
/-- The memory at block p. -/
structure MemR (p : Nat) (A : Option Addr) (c : Nat) (vs : List (Array Value)) (w : World) (X : Nat → Prop) (st : Tr.MSt) : Prop where
  blk : Blk w p 64 #[.slice A st.L.length c, .int .i64 st.ld, .int .i64 st.sv, .int .i64 st.bl, .int .i64 st.bs]
  row : w.ownsRow 0 35 5 (.slice A st.L.length c) st.L.length (ncs vs)
  hp : X p
  hr : ∀ b, (Value.slice A st.L.length c).ownBlock = some b → X b ∧ b ≠ p
  len : vs.length = st.L.length
  five : ∀ v ∈ vs, v.size = 5
  nod : ∀ (i : Nat) (v : Array Value) (n : Nd.N), vs[i]? = some v → st.L[i]? = some n → NdJ (fun b => X b ∧ b ≠ p ∧ ¬ (Value.slice A st.L.length c).ownBlock = some b) w (.agg v) n ∧ FewOk n
  lt : ∀ b, X b → b < w.heap.size
  few : st.L.length ≤ 8001
def MRep (p : Nat) (w : World) (X : Nat → Prop) (st : Tr.MSt) : Prop := ∃ A c vs, MemR p A c vs w X st
theorem MRep.lt {p : Nat} {w : World} {X : Nat → Prop} {st : Tr.MSt} {b : Nat} (h : MRep p w X st) (hb : X b) : b < w.heap.size := by
  obtain ⟨A, c, vs, h⟩ := h
  exact h.lt b hb
theorem MemR.keep {p : Nat} {A : Option Addr} {c : Nat} {vs : List (Array Value)} {w w' : World} {X : Nat → Prop} {st : Tr.MSt} {G : Nat → Prop} (h : MemR p A c vs w X st) (hc : Chg G w w') (hd : ∀ b, X b → ¬ G b) : MemR p A c vs w' X st := by
  have hk : ∀ b, X b → w'.heap[b]? = w.heap[b]? := fun b hb => hc.block b (h.lt b hb) (hd b hb)
  refine ⟨h.blk.keep (hk p h.hp), own_keep h.row fun b hb _ => hk b (h.hr b hb).1, h.hp, h.hr, h.len, h.five, fun i v n hv hn => ?_, fun b hb => Nat.lt_of_lt_of_le (h.lt b hb) hc.size, h.few⟩
  exact ⟨(h.nod i v n hv hn).1.keep hc.size (fun _ hb _ => hb) fun b hb _ => hk b hb.1, (h.nod i v n hv hn).2⟩
theorem MRep.keep {p : Nat} {w w' : World} {X : Nat → Prop} {st : Tr.MSt} {G : Nat → Prop} (h : MRep p w X st) (hc : Chg G w w') (hd : ∀ b, X b → ¬ G b) : MRep p w' X st := by
  obtain ⟨A, c, vs, h⟩ := h
  exact ⟨A, c, vs, h.keep hc hd⟩
theorem mem_err {st : Tr.MSt} {k : Nd.T3} {e : Int} (h : (Tr.mem.ld st k).2 = .error e) : e = 6 := by
  unfold Tr.mem at h
  dsimp only at h
  split at h
  · injection h with h; exact h.symm
  · cases h
theorem mem_errS {st : Tr.MSt} {n : Nd.N} {e : Int} (h : (Tr.mem.sv st n).2 = .error e) : e = 7 := by
  unfold Tr.mem at h
  dsimp only at h
  split at h
  · injection h with h; exact h.symm
  · cases h
end Go.Proofs.Ytlcchefiicalpaa
namespace Go.Proofs.Ytlcchefiicalpaa
open Go.RowKit
/-- The memory with another count of saves. -/
theorem MemR.save1 {p : Nat} {A : Option Addr} {c : Nat} {vs : List (Array Value)} {w : World} {X : Nat → Prop} {st : Tr.MSt} (h : MemR p A c vs w X st) (x : Int) : MemR p A c vs (w.setCell ⟨p, 2, none⟩ (.int .i64 x)) X { st with sv := x } := by
  have hk : ∀ b, b ≠ p → (w.setCell ⟨p, 2, none⟩ (.int .i64 x)).heap[b]? = w.heap[b]? := fun b hb => Below.heap_setCell _ _ _ _ hb
  have hs : (w.setCell ⟨p, 2, none⟩ (.int .i64 x)).heap.size = w.heap.size := by simp [World.setCell]
  refine ⟨h.blk.set_ 2 _, own_keep h.row fun b hb _ => hk b (h.hr b hb).2, h.hp, h.hr, h.len, h.five, fun i v n hv hn => ?_, fun b hb => by rw [hs]; exact h.lt b hb, h.few⟩
  exact ⟨(h.nod i v n hv hn).1.keep (Nat.le_of_eq hs.symm) (fun _ hb _ => hb) fun b hb _ => hk b hb.2.1, (h.nod i v n hv hn).2⟩
theorem few_ok {n : Nd.N} (h : Nd.Ok n) : FewOk n := by
  have hf := h.few
  unfold FewOk
  by_cases h0 : n.h = 0
  · obtain ⟨h1, h2, h3, _⟩ := h.leaf h0
    rw [h1, h2, h3]; simp; omega
  · obtain ⟨h1, _, h3, h4, _⟩ := h.inner h0
    rw [h1, h3, h4]; simp; omega
/-- Three stores into a block. -/
theorem blk_st3 {V : World} {xb : Nat} {t : TypeId} {z0 z1 z2 : Value} (h : Blk V xb t #[z0, z1, z2]) (v0 v1 v2 : Value) :
    ∃ s1 s2 s3, V.setCell ⟨xb, 0, none⟩ v0 = s1 ∧ s1.setCell ⟨xb, 1, none⟩ v1 = s2 ∧ s2.setCell ⟨xb, 2, none⟩ v2 = s3 ∧
      (V.frozen? ⟨xb, 0, none⟩ = false ∧ s1.frozen? ⟨xb, 1, none⟩ = false ∧ s2.frozen? ⟨xb, 2, none⟩ = false) ∧
      (V.cell? ⟨xb, 0, none⟩ = some z0 ∧ s1.cell? ⟨xb, 1, none⟩ = some z1 ∧ s2.cell? ⟨xb, 2, none⟩ = some z2) ∧
      Blk s3 xb t #[v0, v1, v2] ∧ Chg (fun b => b = xb) V s3 := by
  refine ⟨_, _, _, rfl, rfl, rfl, ?_⟩
  have r1 : Blk (V.setCell ⟨xb, 0, none⟩ v0) xb t #[v0, z1, z2] := h.set_ 0 _
  have r2 : Blk ((V.setCell ⟨xb, 0, none⟩ v0).setCell ⟨xb, 1, none⟩ v1) xb t #[v0, v1, z2] := r1.set_ 1 _
  have r3 : Blk (((V.setCell ⟨xb, 0, none⟩ v0).setCell ⟨xb, 1, none⟩ v1).setCell ⟨xb, 2, none⟩ v2) xb t #[v0, v1, v2] := r2.set_ 2 _
  refine ⟨⟨h.frozen 0, r1.frozen 1, r2.frozen 2⟩, ⟨h.cell 0, r1.cell 1, r2.cell 2⟩, r3, ?_⟩
  exact (((Chg.refl (fun b => b = xb) V).setCell (p := ⟨xb, 0, none⟩) (.inl rfl) _).setCell (p := ⟨xb, 1, none⟩) (.inl rfl) _).setCell (p := ⟨xb, 2, none⟩) (.inl rfl) _
theorem mem_sv_no {st : Tr.MSt} {n : Nd.N} (h : (0 < st.bs ∧ st.bs ≤ wrap64 (st.sv + 1)) ∨ 8000 < st.L.length) : Tr.mem.sv st n = ({ st with sv := wrap64 (st.sv + 1) }, .error 7) := by unfold Tr.mem; dsimp only; rw [if_pos h]
theorem mem_sv_yes {st : Tr.MSt} {n : Nd.N} (h : ¬ ((0 < st.bs ∧ st.bs ≤ wrap64 (st.sv + 1)) ∨ 8000 < st.L.length)) : Tr.mem.sv st n = ({ st with sv := wrap64 (st.sv + 1), L := st.L ++ [n] }, .ok ((st.L.length : Int) + 2, 1, 7)) := by unfold Tr.mem; dsimp only; rw [if_neg h]
/-- What Save answers and leaves. -/
def SvQ (p : Nat) (w : World) (X : Nat → Prop) (R : Tr.Res Tr.MSt Nd.T3) (e : Ending) (w' : World) : Prop := StR Tr.MSt (MRep p) w X R.1 (fun _ _ => ∃ k c, e = .returned (.tuple #[Tr.kidV k, .int .i64 c]) ∧ (match R.2 with
    | .error e => c = e
    | .ok k' => c = 0 ∧ k = k')) w'
set_option maxRecDepth 8000 in
set_option maxHeartbeats 16000000 in
theorem msave_no {p : Nat} {w : World} {X : Nat → Prop} {st : Tr.MSt} {v : Value} {n : Nd.N} (hr : MRep p w X st) (hn : NdX X w v n) (hE : (0 < st.bs ∧ st.bs ≤ wrap64 (st.sv + 1)) ∨ 8000 < st.L.length) :
    Calls Try.prog 139 #[.pointer (some ⟨p, 0, none⟩), v] w (SvQ p w X (Tr.mem.sv st n)) := by
  obtain ⟨A, c, vs, hm⟩ := hr
  have hnow := hn.now
  obtain ⟨A1, c1, A2, c2, A3, c3, A4, c4, rfl, hf⟩ := hnow
  obtain ⟨k1, e1⟩ : ∃ k, k = n.ks.length := ⟨_, rfl⟩
  obtain ⟨k2, e2⟩ : ∃ k, k = n.ps.length := ⟨_, rfl⟩
  obtain ⟨k3, e3⟩ : ∃ k, k = n.gs.length := ⟨_, rfl⟩
  obtain ⟨k4, e4⟩ : ∃ k, k = n.cs.length := ⟨_, rfl⟩
  obtain ⟨k0, e0⟩ : ∃ k, k = n.h := ⟨_, rfl⟩
  rw [← e0, ← e1, ← e2, ← e3, ← e4] at hn ⊢
  clear e0 e1 e2 e3 e4
  obtain ⟨W0, hW0⟩ : ∃ W, w.alloc (.cells #[.int .i64 k0, .slice A1 k1 c1, .slice A2 k2 c2, .slice A3 k3 c3, .slice A4 k4 c4] 35) = W := ⟨_, rfl⟩
  obtain ⟨W1, hW1⟩ : ∃ W, W0.alloc (.cells #[.int .i64 0, .int .i64 0, .int .i64 0] 58) = W := ⟨_, rfl⟩
  obtain ⟨b0, hb0⟩ : ∃ b, w.heap.size = b := ⟨_, rfl⟩
  obtain ⟨b1, hb1⟩ : ∃ b, b0 + 1 = b := ⟨_, rfl⟩
  obtain ⟨m, hml⟩ : ∃ m, m = st.L.length := ⟨_, rfl⟩
  have bel0 : Below w.heap.size w W0 := by rw [← hW0]; exact below_alloc1 _ _
  have bel1 : Below W0.heap.size W0 W1 := by rw [← hW1]; exact below_alloc1 _ _
  have bx : Blk W1 b0 35 #[.int .i64 k0, .slice A1 k1 c1, .slice A2 k2 c2, .slice A3 k3 c3, .slice A4 k4 c4] := (show Blk W0 b0 _ _ from by rw [← hW0, ← hb0]; exact Blk.new _ _ _).keep (bel1.block b0 (by rw [← hW0, ← hb0]; simp))
  have by1 : Blk W1 b1 58 #[.int .i64 0, .int .i64 0, .int .i64 0] := by
    rw [← hW1, ← hb1, ← hb0, show w.heap.size + 1 = W0.heap.size by rw [← hW0]; simp]; exact Blk.new _ _ _
  have bel : Below w.heap.size w W1 := bel0.trans (bel1.mono bel0.size)
  have hM1 : MemR p A c vs W1 X st := hm.keep (G := fun _ => False) (.of_below _ bel) fun _ _ h => h
  have hpb : p < b0 := by rw [← hb0]; exact hm.lt p hm.hp
  obtain ⟨s1, hs1⟩ : ∃ s, s = wrap64 (st.sv + 1) := ⟨_, rfl⟩
  obtain ⟨RR, hRR⟩ : ∃ R, Tr.mem.sv st n = R := ⟨_, rfl⟩
  rw [hRR]
  obtain ⟨bs, hbs⟩ : ∃ b, b = st.bs := ⟨_, rfl⟩
  have HNo := Lib.hid (show ((0 < bs ∧ bs ≤ s1) ∨ 8000 < m) → RR = ({ st with sv := s1 }, .error 7) from fun h => by rw [← hRR, hs1]; exact mem_sv_no (by rw [← hs1, ← hml, ← hbs]; exact h))
  obtain ⟨W2, hW2⟩ : ∃ W, W1.setCell ⟨p, 2, none⟩ (.int .i64 s1) = W := ⟨_, rfl⟩
  have hM2 := hM1.save1 s1
  rw [hW2] at hM2
  have x0 : W1.cell? ⟨p, 2, none⟩ = some (.int .i64 st.sv) := hM1.blk.cell 2
  have x1 := hM1.blk.frozen 2
  have C2 := Lib.hid (show Chg X w W2 from (Chg.of_below X bel).then_ (by rw [← hW2]; exact (Chg.refl X W1).setCell (.inl hm.hp) _))
  have HM2 := Lib.hid hM2
  have Hbel := Lib.hid bel
  have bx2 : Blk W2 b0 35 #[.int .i64 k0, .slice A1 k1 c1, .slice A2 k2 c2, .slice A3 k3 c3, .slice A4 k4 c4] := bx.keep (by rw [← hW2]; exact Below.heap_setCell _ _ _ _ (by show b0 ≠ p; omega))
  have by2 : Blk W2 b1 58 #[.int .i64 0, .int .i64 0, .int .i64 0] := by1.keep (by rw [← hW2]; exact Below.heap_setCell _ _ _ _ (by show b1 ≠ p; omega))
  have BX := Lib.hid bx2
  have BY := Lib.hid by2
  have y0 : W2.cell? ⟨p, 0, none⟩ = some (.slice A m c) := by rw [hml]; exact hM2.blk.cell 0
  have y2 : W2.cell? ⟨p, 2, none⟩ = some (.int .i64 s1) := hM2.blk.cell 2
  have y4 : W2.cell? ⟨p, 4, none⟩ = some (.int .i64 st.bs) := hM2.blk.cell 4
  rw [← hbs] at y4
  have HHm := Lib.hid hm
  have HE := Lib.hid (show (0 < bs ∧ bs ≤ s1) ∨ 8000 < m by rw [hbs, hs1, hml]; exact hE)
  have HNx := Lib.hid hn
  have Hml := Lib.hid hml
  clear hM1 hM2 bx by1 bx2 by2 bel bel0 bel1 hm hE hn hRR hbs hml hf
  go_enter Try.func139, Try.ntmps139
  go_upto_region 2 with fail
  have hs0 : W0.heap.size = b1 := by rw [← hW0, ← hb1, ← hb0]; simp
  rw [hs0, ← hs1, hW2]
  clear hs0 hW0 hW1 hW2 x0 x1 hs1
  by_cases g1 : 0 < bs
  · have d1 : decide ((0 : Int) < bs) = true := decide_eq_true g1
    by_cases g2 : bs ≤ s1
    · have d2 : decide (bs ≤ s1) = true := decide_eq_true g2
      go_quiet (fail)
      obtain ⟨W3, hW3⟩ : ∃ W, W2.drewN nq = W := ⟨_, rfl⟩
      rw [hW3]
      have hb23 : Below W2.heap.size W2 W3 := by rw [← hW3]; exact ⟨rfl, rfl, rfl, Nat.le_refl _, fun _ _ => rfl⟩
      clear hW3 y0 y2 y4
      obtain ⟨t1, t2, t3, u1, u2, u3, ⟨f0, f1, f2⟩, ⟨z0, z1, z2⟩, r3, hc3⟩ := blk_st3 (BY.out.keep (hb23.block b1 BY.out.lt)) (.int .i64 0) (.int .i64 0) (.int .i64 0)
      have v0 : t3.cell? ⟨b1, 0, none⟩ = some (.int .i64 0) := r3.cell 0
      have v1 : t3.cell? ⟨b1, 1, none⟩ = some (.int .i64 0) := r3.cell 1
      have v2 : t3.cell? ⟨b1, 2, none⟩ = some (.int .i64 0) := r3.cell 2
      have HRR := Lib.hid (HNo.out (by omega))
      have HR3 := Lib.hid (show MRep p t3 X { st with sv := s1 } ∧ Stp w X t3 X from by
        have hc : Chg (fun b => b = b1) W2 t3 := (Chg.of_below _ hb23).then_ hc3
        refine ⟨⟨A, c, vs, HM2.out.keep hc fun b hb e => ?_⟩, ⟨⟨hc.os.trans C2.out.os, hc.tape.trans C2.out.tape, hc.output.trans C2.out.output, Nat.le_trans C2.out.size hc.size, fun i hi hX => (hc.block i (Nat.lt_of_lt_of_le hi C2.out.size) (by show i ≠ b1; omega)).trans (C2.out.block i hi hX)⟩, fun b hb => .inl hb⟩⟩
        have := HHm.out.lt b hb
        show False
        subst e; omega)
      have HQ := Lib.hid (show SvQ p w X RR (.returned (.tuple #[Tr.kidV (0, 0, 0), .int .i64 7])) t3 from by rw [HRR.out]; exact ⟨X, HR3.out.1, HR3.out.2, (0, 0, 0), 7, rfl, rfl⟩)
      clear r3 hc3 hb23
      go_wp2_with fail
      refine bodyPost_ret (v := .tuple #[Tr.kidV (0, 0, 0), .int .i64 7]) ?_ rfl HQ.out
      simp [results, Try.results139]
      go_simp
      simp [Tr.kidV]
    · have d2 : decide (bs ≤ s1) = false := decide_eq_false g2
      by_cases g3 : 8000 < m
      · have d3 : decide ((8000 : Int) < (m : Int)) = true := by rw [decide_eq_true_eq]; omega
        have d3' : decide (8000 < m) = true := decide_eq_true g3
        go_quiet (fail)
        obtain ⟨W3, hW3⟩ : ∃ W, W2.drewN nq = W := ⟨_, rfl⟩
        rw [hW3]
        have hb23 : Below W2.heap.size W2 W3 := by rw [← hW3]; exact ⟨rfl, rfl, rfl, Nat.le_refl _, fun _ _ => rfl⟩
        clear hW3 y0 y2 y4
        obtain ⟨t1, t2, t3, u1, u2, u3, ⟨f0, f1, f2⟩, ⟨z0, z1, z2⟩, r3, hc3⟩ := blk_st3 (BY.out.keep (hb23.block b1 BY.out.lt)) (.int .i64 0) (.int .i64 0) (.int .i64 0)
        have v0 : t3.cell? ⟨b1, 0, none⟩ = some (.int .i64 0) := r3.cell 0
        have v1 : t3.cell? ⟨b1, 1, none⟩ = some (.int .i64 0) := r3.cell 1
        have v2 : t3.cell? ⟨b1, 2, none⟩ = some (.int .i64 0) := r3.cell 2
        have HRR := Lib.hid (HNo.out (by omega))
        have HR3 := Lib.hid (show MRep p t3 X { st with sv := s1 } ∧ Stp w X t3 X from by
          have hc : Chg (fun b => b = b1) W2 t3 := (Chg.of_below _ hb23).then_ hc3
          refine ⟨⟨A, c, vs, HM2.out.keep hc fun b hb e => ?_⟩, ⟨⟨hc.os.trans C2.out.os, hc.tape.trans C2.out.tape, hc.output.trans C2.out.output, Nat.le_trans C2.out.size hc.size, fun i hi hX => (hc.block i (Nat.lt_of_lt_of_le hi C2.out.size) (by show i ≠ b1; omega)).trans (C2.out.block i hi hX)⟩, fun b hb => .inl hb⟩⟩
          have := HHm.out.lt b hb
          show False
          subst e; omega)
        have HQ := Lib.hid (show SvQ p w X RR (.returned (.tuple #[Tr.kidV (0, 0, 0), .int .i64 7])) t3 from by rw [HRR.out]; exact ⟨X, HR3.out.1, HR3.out.2, (0, 0, 0), 7, rfl, rfl⟩)
        clear r3 hc3 hb23
        go_wp2_with fail
        refine bodyPost_ret (v := .tuple #[Tr.kidV (0, 0, 0), .int .i64 7]) ?_ rfl HQ.out
        simp [results, Try.results139]
        go_simp
        simp [Tr.kidV]
      · have d3 : decide ((8000 : Int) < (m : Int)) = false := by rw [decide_eq_false_iff_not]; omega
        have d3' : decide (8000 < m) = false := decide_eq_false g3
        exact absurd HE.out (by omega)
  · have d1 : decide ((0 : Int) < bs) = false := decide_eq_false g1
    by_cases g3 : 8000 < m
    · have d3 : decide ((8000 : Int) < (m : Int)) = true := by rw [decide_eq_true_eq]; omega
      have d3' : decide (8000 < m) = true := decide_eq_true g3
      go_quiet (fail)
      obtain ⟨W3, hW3⟩ : ∃ W, W2.drewN nq = W := ⟨_, rfl⟩
      rw [hW3]
      have hb23 : Below W2.heap.size W2 W3 := by rw [← hW3]; exact ⟨rfl, rfl, rfl, Nat.le_refl _, fun _ _ => rfl⟩
      clear hW3 y0 y2 y4
      obtain ⟨t1, t2, t3, u1, u2, u3, ⟨f0, f1, f2⟩, ⟨z0, z1, z2⟩, r3, hc3⟩ := blk_st3 (BY.out.keep (hb23.block b1 BY.out.lt)) (.int .i64 0) (.int .i64 0) (.int .i64 0)
      have v0 : t3.cell? ⟨b1, 0, none⟩ = some (.int .i64 0) := r3.cell 0
      have v1 : t3.cell? ⟨b1, 1, none⟩ = some (.int .i64 0) := r3.cell 1
      have v2 : t3.cell? ⟨b1, 2, none⟩ = some (.int .i64 0) := r3.cell 2
      have HRR := Lib.hid (HNo.out (by omega))
      have HR3 := Lib.hid (show MRep p t3 X { st with sv := s1 } ∧ Stp w X t3 X from by
        have hc : Chg (fun b => b = b1) W2 t3 := (Chg.of_below _ hb23).then_ hc3
        refine ⟨⟨A, c, vs, HM2.out.keep hc fun b hb e => ?_⟩, ⟨⟨hc.os.trans C2.out.os, hc.tape.trans C2.out.tape, hc.output.trans C2.out.output, Nat.le_trans C2.out.size hc.size, fun i hi hX => (hc.block i (Nat.lt_of_lt_of_le hi C2.out.size) (by show i ≠ b1; omega)).trans (C2.out.block i hi hX)⟩, fun b hb => .inl hb⟩⟩
        have := HHm.out.lt b hb
        show False
        subst e; omega)
      have HQ := Lib.hid (show SvQ p w X RR (.returned (.tuple #[Tr.kidV (0, 0, 0), .int .i64 7])) t3 from by rw [HRR.out]; exact ⟨X, HR3.out.1, HR3.out.2, (0, 0, 0), 7, rfl, rfl⟩)
      clear r3 hc3 hb23
      go_wp2_with fail
      refine bodyPost_ret (v := .tuple #[Tr.kidV (0, 0, 0), .int .i64 7]) ?_ rfl HQ.out
      simp [results, Try.results139]
      go_simp
      simp [Tr.kidV]
    · have d3 : decide ((8000 : Int) < (m : Int)) = false := by rw [decide_eq_false_iff_not]; omega
      have d3' : decide (8000 < m) = false := decide_eq_false g3
      exact absurd HE.out (by omega)
end Go.Proofs.Ytlcchefiicalpaa
