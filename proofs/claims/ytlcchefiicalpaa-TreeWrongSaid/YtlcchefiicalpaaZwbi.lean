/- The statements' memory: Load. The statements' memory: Save, where it takes the node; both. The statements' memory is a store. -/
import Derived.Test.YtlcchefiicalpaaZwbb
import Derived.Test.YtlcchefiicalpaaZwbh
namespace Go.Proofs.Ytlcchefiicalpaa
open Go.RowKit
/-- The memory with another count of loads. -/
theorem MemR.load1 {p : Nat} {A : Option Addr} {c : Nat} {vs : List (Array Value)} {w : World} {X : Nat → Prop} {st : Tr.MSt} (h : MemR p A c vs w X st) (x : Int) : MemR p A c vs (w.setCell ⟨p, 1, none⟩ (.int .i64 x)) X { st with ld := x } := by
  have hk : ∀ b, b ≠ p → (w.setCell ⟨p, 1, none⟩ (.int .i64 x)).heap[b]? = w.heap[b]? := fun b hb => Below.heap_setCell _ _ _ _ hb
  have hs : (w.setCell ⟨p, 1, none⟩ (.int .i64 x)).heap.size = w.heap.size := by simp [World.setCell]
  refine ⟨h.blk.set_ 1 _, own_keep h.row fun b hb _ => hk b (h.hr b hb).2, h.hp, h.hr, h.len, h.five, fun i v n hv hn => ?_, fun b hb => by rw [hs]; exact h.lt b hb, h.few⟩
  exact ⟨(h.nod i v n hv hn).1.keep (Nat.le_of_eq hs.symm) (fun _ hb _ => hb) fun b hb _ => hk b hb.2.1, (h.nod i v n hv hn).2⟩
theorem mem_ld_no {st : Tr.MSt} {k : Nd.T3} (h : (0 < st.bl ∧ st.bl ≤ wrap64 (st.ld + 1)) ∨ k.1 < 2 ∨ (st.L.length : Int) ≤ k.1 - 2) : Tr.mem.ld st k = ({ st with ld := wrap64 (st.ld + 1) }, .error 6) := by unfold Tr.mem; dsimp only; rw [if_pos h]
theorem mem_ld_yes {st : Tr.MSt} {k : Nd.T3} (h : ¬ ((0 < st.bl ∧ st.bl ≤ wrap64 (st.ld + 1)) ∨ k.1 < 2 ∨ (st.L.length : Int) ≤ k.1 - 2)) : Tr.mem.ld st k = ({ st with ld := wrap64 (st.ld + 1) }, .ok (Tr.nd st.L k.1)) := by unfold Tr.mem; dsimp only; rw [if_neg h]
theorem cell_heap {w w' : World} {b i : Nat} (h : w'.heap[b]? = w.heap[b]?) : w'.cell? ⟨b, i, none⟩ = w.cell? ⟨b, i, none⟩ := World.cell?_of_block (w := w) h
theorem nat_all {w : World} {B : Nat} {v : Value} {n : Nd.N} (h : NdAt w B v n) (hB : B ≤ w.heap.size) : NdAt w w.heap.size v n := h.more hB
theorem ld_chg {w W2 t : World} {X : Nat → Prop} {b1 : Nat} (C2 : Chg X w W2) (hc : Chg (fun b => b = b1) W2 t) (h1 : w.heap.size ≤ b1) : Chg X w t :=
  ⟨hc.os.trans C2.os, hc.tape.trans C2.tape, hc.output.trans C2.output, Nat.le_trans C2.size hc.size, fun i hi hX => (hc.block i (Nat.lt_of_lt_of_le hi C2.size) (by show i ≠ b1; omega)).trans (C2.block i hi hX)⟩
theorem ld_new {w w4 w5 t : World} {X : Nat → Prop} {b1 : Nat} {v : Value} {n : Nd.N} (h : NdI w4.heap.size w5 v n) (hc : Chg (fun b => b = b1) w5 t) (h1 : b1 < w4.heap.size) (h2 : w.heap.size ≤ w4.heap.size) (hX : ∀ b, X b → b < w4.heap.size) : NdN w X t v n := fun u k =>
  h u (Nat.le_trans hc.size k.size) fun j hj hl => (k.block j (Nat.lt_of_lt_of_le hl hc.size) (fun hx => hx.elim (fun hx => by have := hX j hx; omega) (fun hx => by omega))).trans (hc.block j hl (by show j ≠ b1; omega))
theorem ld_keep {w w' : World} {p b0 b1 g i : Nat} {v0 v1 z0 z1 z2 z3 z4 : Value} (h : w.cell? ⟨p, 0, none⟩ = some v0 ∧ w.cell? ⟨b0, 0, none⟩ = some v1 ∧ w.cell? ⟨g, i * 5, none⟩ = some z0 ∧ w.cell? ⟨g, i * 5 + 1, none⟩ = some z1 ∧ w.cell? ⟨g, i * 5 + 2, none⟩ = some z2 ∧ w.cell? ⟨g, i * 5 + 3, none⟩ = some z3 ∧ w.cell? ⟨g, i * 5 + 4, none⟩ = some z4) (hc : Chg (fun b => b = b1) w w') (hl : p < w.heap.size ∧ b0 < w.heap.size ∧ g < w.heap.size) (h1 : p ≠ b1) (h2 : b0 ≠ b1) (h3 : g ≠ b1) :
    w'.cell? ⟨p, 0, none⟩ = some v0 ∧ w'.cell? ⟨b0, 0, none⟩ = some v1 ∧ w'.cell? ⟨g, i * 5, none⟩ = some z0 ∧ w'.cell? ⟨g, i * 5 + 1, none⟩ = some z1 ∧ w'.cell? ⟨g, i * 5 + 2, none⟩ = some z2 ∧ w'.cell? ⟨g, i * 5 + 3, none⟩ = some z3 ∧ w'.cell? ⟨g, i * 5 + 4, none⟩ = some z4 := by
  have K : ∀ b j, b < w.heap.size → b ≠ b1 → w'.cell? ⟨b, j, none⟩ = w.cell? ⟨b, j, none⟩ := fun b j hb hne => cell_heap (hc.block b hb hne)
  rw [K p 0 hl.1 h1, K b0 0 hl.2.1 h2, K g _ hl.2.2 h3, K g _ hl.2.2 h3, K g _ hl.2.2 h3, K g _ hl.2.2 h3, K g _ hl.2.2 h3]
  exact h
/-- What Load answers and leaves. -/
def LdQ (p : Nat) (w : World) (X : Nat → Prop) (R : Tr.Res Tr.MSt Nd.N) (e : Ending) (w' : World) : Prop := StR Tr.MSt (MRep p) w X R.1 (fun w' X' => ∃ v c, e = .returned (.tuple #[v, .int .i64 c]) ∧ (match R.2 with
    | .error e => c = e ∧ NdN w X' w' v Nd.zero
    | .ok n => c = 0 ∧ NdN w X' w' v n)) w'
/-- The node at a place, as its cells lie in the row. -/
theorem MemR.at_ {p : Nat} {A : Option Addr} {c : Nat} {vs : List (Array Value)} {w : World} {X : Nat → Prop} {st : Tr.MSt} (h : MemR p A c vs w X st) {i : Nat} (hi : i < st.L.length) :
    ∃ g z0 z1 z2 z3 z4, A = some ⟨g, 0, none⟩ ∧ g < w.heap.size ∧ X g ∧ (w.cell? ⟨g, i * 5, none⟩ = some z0 ∧ w.cell? ⟨g, i * 5 + 1, none⟩ = some z1 ∧ w.cell? ⟨g, i * 5 + 2, none⟩ = some z2 ∧ w.cell? ⟨g, i * 5 + 3, none⟩ = some z3 ∧ w.cell? ⟨g, i * 5 + 4, none⟩ = some z4) ∧ NdAt w w.heap.size (.agg #[z0, z1, z2, z3, z4]) (st.L.getD i Nd.zero) ∧ FewOk (st.L.getD i Nd.zero) := by
  have hv : i < vs.length := by rw [h.len]; exact hi
  obtain ⟨v, hv1⟩ : ∃ v, vs[i]? = some v := ⟨_, List.getElem?_eq_getElem hv⟩
  have h5 : v.size = 5 := h.five v (by rw [List.getElem?_eq_getElem hv] at hv1; injection hv1 with e; subst e; exact List.getElem_mem _)
  obtain ⟨l, hl⟩ : ∃ l, v.toList = l := ⟨_, rfl⟩
  have hl5 : l.length = 5 := by rw [← hl]; simpa using h5
  match l, hl5 with
  | [z0, z1, z2, z3, z4], _ =>
    have hva : v = #[z0, z1, z2, z3, z4] := by rw [← Array.toList_inj]; exact hl
    subst hva
    have hn : st.L[i]? = some (st.L.getD i Nd.zero) := by rw [List.getD_eq_getElem?_getD, List.getElem?_eq_getElem hi]; rfl
    obtain ⟨n1, n2⟩ := h.nod i _ _ hv1 hn
    obtain ⟨g, ca, hA⟩ := own_some h.row (by omega)
    injection hA with hA1 hA2 hA3
    subst hA1
    have hC : ∀ j, j < 5 → w.cell? ⟨g, i * 5 + j, none⟩ = (#[z0, z1, z2, z3, z4] : Array Value)[j]? := fun j hj => by
      have hat := ncs_at h.five (i := i) (j := j) hv1 hj
      rw [← hat]
      rcases own_slW' h.row with e | ⟨b, o, e, -, hcell⟩
      · exfalso
        have := ncs_len h.five
        rw [e] at this
        have h0 : ([] : List Value).length = 0 := rfl
        omega
      · injection e with e
        injection e with e1 e2 _
        subst e1
        have hlt : i * 5 + j < (ncs vs).length := by rw [ncs_len h.five]; omega
        have := hcell (i * 5 + j) hlt
        rw [← e2, Nat.zero_add] at this
        rw [this, List.getElem?_eq_getElem hlt]
    exact ⟨g, z0, z1, z2, z3, z4, rfl, h.lt g (h.hr g rfl).1, (h.hr g rfl).1, ⟨hC 0 (by decide), hC 1 (by decide), hC 2 (by decide), hC 3 (by decide), hC 4 (by decide)⟩, n1.now, n2⟩
set_option maxRecDepth 8000 in
set_option maxHeartbeats 16000000 in
theorem mload_any {p : Nat} {w : World} {X : Nat → Prop} {st : Tr.MSt} (hr : MRep p w X st) (k : Nd.T3) (hkr : Tr.KR k) :
    Calls Try.prog 138 #[.pointer (some ⟨p, 0, none⟩), Tr.kidV k] w (LdQ p w X (Tr.mem.ld st k)) := by
  obtain ⟨A, c, vs, hm⟩ := hr
  obtain ⟨ka, kn, kg⟩ := k
  unfold Tr.KR at hkr
  dsimp only at hkr
  obtain ⟨W0, hW0⟩ : ∃ W, w.alloc (.cells #[.int .i64 ka, .int .i64 kn, .int .i64 kg] 58) = W := ⟨_, rfl⟩
  obtain ⟨W1, hW1⟩ : ∃ W, W0.alloc (.cells #[.int .i64 0, .slice none 0 0, .slice none 0 0, .slice none 0 0, .slice none 0 0] 35) = W := ⟨_, rfl⟩
  obtain ⟨b0, hb0⟩ : ∃ b, w.heap.size = b := ⟨_, rfl⟩
  obtain ⟨b1, hb1⟩ : ∃ b, b0 + 1 = b := ⟨_, rfl⟩
  obtain ⟨m, hml⟩ : ∃ m, m = st.L.length := ⟨_, rfl⟩
  have bel0 : Below w.heap.size w W0 := by rw [← hW0]; exact below_alloc1 _ _
  have bel1 : Below W0.heap.size W0 W1 := by rw [← hW1]; exact below_alloc1 _ _
  have bx : Blk W1 b0 58 #[.int .i64 ka, .int .i64 kn, .int .i64 kg] := (show Blk W0 b0 _ _ from by rw [← hW0, ← hb0]; exact Blk.new _ _ _).keep (bel1.block b0 (by rw [← hW0, ← hb0]; simp))
  have by1 : Blk W1 b1 35 #[.int .i64 0, .slice none 0 0, .slice none 0 0, .slice none 0 0, .slice none 0 0] := by
    rw [← hW1, ← hb1, ← hb0, show w.heap.size + 1 = W0.heap.size by rw [← hW0]; simp]; exact Blk.new _ _ _
  have bel : Below w.heap.size w W1 := bel0.trans (bel1.mono bel0.size)
  have hM1 : MemR p A c vs W1 X st := hm.keep (G := fun _ => False) (.of_below _ bel) fun _ _ h => h
  have hpb : p < b0 := by rw [← hb0]; exact hm.lt p hm.hp
  obtain ⟨s1, hs1⟩ : ∃ s, s = wrap64 (st.ld + 1) := ⟨_, rfl⟩
  obtain ⟨RR, hRR⟩ : ∃ R, Tr.mem.ld st (ka, kn, kg) = R := ⟨_, rfl⟩
  rw [hRR]
  obtain ⟨bl, hbl⟩ : ∃ b, b = st.bl := ⟨_, rfl⟩
  have HNo := Lib.hid (show ((0 < bl ∧ bl ≤ s1) ∨ ka < 2 ∨ (m : Int) ≤ ka - 2) → RR = ({ st with ld := s1 }, .error 6) from fun h => by rw [← hRR, hs1]; exact mem_ld_no (by rw [← hs1, ← hml, ← hbl]; exact h))
  have HYes := Lib.hid (show ¬ ((0 < bl ∧ bl ≤ s1) ∨ ka < 2 ∨ (m : Int) ≤ ka - 2) → RR = ({ st with ld := s1 }, .ok (Tr.nd st.L ka)) from fun h => by rw [← hRR, hs1]; exact mem_ld_yes (by rw [← hs1, ← hml, ← hbl]; exact h))
  obtain ⟨W2, hW2⟩ : ∃ W, W1.setCell ⟨p, 1, none⟩ (.int .i64 s1) = W := ⟨_, rfl⟩
  have hM2 := hM1.load1 s1
  rw [hW2] at hM2
  have x0 : W1.cell? ⟨p, 1, none⟩ = some (.int .i64 st.ld) := hM1.blk.cell 1
  have x1 := hM1.blk.frozen 1
  have C2 := Lib.hid (show Chg X w W2 from (Chg.of_below X bel).then_ (by rw [← hW2]; exact (Chg.refl X W1).setCell (.inl hm.hp) _))
  have HM2 := Lib.hid hM2
  have bx2 : Blk W2 b0 58 #[.int .i64 ka, .int .i64 kn, .int .i64 kg] := bx.keep (by rw [← hW2]; exact Below.heap_setCell _ _ _ _ (by show b0 ≠ p; omega))
  have by2 : Blk W2 b1 35 #[.int .i64 0, .slice none 0 0, .slice none 0 0, .slice none 0 0, .slice none 0 0] := by1.keep (by rw [← hW2]; exact Below.heap_setCell _ _ _ _ (by show b1 ≠ p; omega))
  have BX := Lib.hid bx2
  have BY := Lib.hid by2
  have y0 : W2.cell? ⟨p, 0, none⟩ = some (.slice A m c) := by rw [hml]; exact hM2.blk.cell 0
  have y1 : W2.cell? ⟨p, 1, none⟩ = some (.int .i64 s1) := hM2.blk.cell 1
  have y3 : W2.cell? ⟨p, 3, none⟩ = some (.int .i64 st.bl) := hM2.blk.cell 3
  have u0 : W2.cell? ⟨b0, 0, none⟩ = some (.int .i64 ka) := bx2.cell 0
  rw [← hbl] at y3
  have HHm := Lib.hid hm
  have Hml := Lib.hid hml
  have Hlt := Lib.hid (show p < b0 ∧ b0 < b1 ∧ b0 = w.heap.size ∧ (∀ b, X b → b < b0) from ⟨hpb, by omega, hb0.symm, fun b hb => by rw [← hb0]; exact hm.lt b hb⟩)
  have HKr := Lib.hid hkr
  have Hhid := Lib.hid (show b0 ≠ b1 by omega)
  clear hM1 hM2 bx by1 bx2 by2 bel bel0 bel1 hm hRR hbl hml hkr
  unfold Tr.kidV
  go_enter Try.func138, Try.ntmps138
  go_upto_region 2 with fail
  have hs0 : W0.heap.size = b1 := by rw [← hW0, ← hb1, ← hb0]; simp
  rw [hs0, ← hs1, hW2]
  clear hs0 hW0 hW1 hW2 x0 x1 hs1 hb0 hb1 hpb
  by_cases g1 : 0 < bl ∧ bl ≤ s1
  · have d1 : decide ((0 : Int) < bl) = true := decide_eq_true g1.1
    have d2 : decide (bl ≤ s1) = true := decide_eq_true g1.2
    go_quiet (fail)
    obtain ⟨W3, hW3⟩ : ∃ W, W2.drewN nq = W := ⟨_, rfl⟩
    rw [hW3]
    have hb23 : Below W2.heap.size W2 W3 := by rw [← hW3]; exact ⟨rfl, rfl, rfl, Nat.le_refl _, fun _ _ => rfl⟩
    clear hW3 y0 y1 y3 u0
    obtain ⟨t1, t2, t3, t4, t5, u1, u2, u3, u4, u5, ⟨f0, f1, f2, f3, f4⟩, ⟨z0, z1, z2, z3, z4⟩, r5, hc5⟩ := blk_st5 (BY.out.keep (hb23.block b1 BY.out.lt)) (.int .i64 0) (.slice none 0 0) (.slice none 0 0) (.slice none 0 0) (.slice none 0 0)
    have v0 : t5.cell? ⟨b1, 0, none⟩ = some (.int .i64 0) := r5.cell 0
    have v1 : t5.cell? ⟨b1, 1, none⟩ = some (.slice none 0 0) := r5.cell 1
    have v2 : t5.cell? ⟨b1, 2, none⟩ = some (.slice none 0 0) := r5.cell 2
    have v3 : t5.cell? ⟨b1, 3, none⟩ = some (.slice none 0 0) := r5.cell 3
    have v4 : t5.cell? ⟨b1, 4, none⟩ = some (.slice none 0 0) := r5.cell 4
    have HRR := Lib.hid (HNo.out (by omega))
    have HQ := Lib.hid (show LdQ p w X RR (.returned (.tuple #[ndZ, .int .i64 6])) t5 from by
      have hc : Chg (fun b => b = b1) W2 t5 := (Chg.of_below _ hb23).then_ hc5
      rw [HRR.out]
      refine ⟨X, ⟨A, c, vs, HM2.out.keep hc fun b hb e => ?_⟩, ⟨ld_chg C2.out hc (by have := Hlt.out; omega), fun b hb => .inl hb⟩, ndZ, 6, rfl, rfl, nd_zero X w t5⟩
      have h1 := Hlt.out.2.2.2 b hb
      have h2 := Hlt.out.2.1
      omega)
    clear r5 hc5 hb23
    go_wp2_with fail
    refine bodyPost_ret (v := .tuple #[ndZ, .int .i64 6]) ?_ rfl HQ.out
    simp [results, Try.results138]
    go_simp
    simp [ndZ]
  · by_cases g0 : 0 < bl
    · have d1 : decide ((0 : Int) < bl) = true := decide_eq_true g0
      have d2 : decide (bl ≤ s1) = false := decide_eq_false fun h => g1 ⟨g0, h⟩
      by_cases g2 : ka < 2
      · have d3 : decide (ka < 2) = true := decide_eq_true g2
        go_quiet (fail)
        obtain ⟨W3, hW3⟩ : ∃ W, W2.drewN nq = W := ⟨_, rfl⟩
        rw [hW3]
        have hb23 : Below W2.heap.size W2 W3 := by rw [← hW3]; exact ⟨rfl, rfl, rfl, Nat.le_refl _, fun _ _ => rfl⟩
        clear hW3 y0 y1 y3 u0
        obtain ⟨t1, t2, t3, t4, t5, u1, u2, u3, u4, u5, ⟨f0, f1, f2, f3, f4⟩, ⟨z0, z1, z2, z3, z4⟩, r5, hc5⟩ := blk_st5 (BY.out.keep (hb23.block b1 BY.out.lt)) (.int .i64 0) (.slice none 0 0) (.slice none 0 0) (.slice none 0 0) (.slice none 0 0)
        have v0 : t5.cell? ⟨b1, 0, none⟩ = some (.int .i64 0) := r5.cell 0
        have v1 : t5.cell? ⟨b1, 1, none⟩ = some (.slice none 0 0) := r5.cell 1
        have v2 : t5.cell? ⟨b1, 2, none⟩ = some (.slice none 0 0) := r5.cell 2
        have v3 : t5.cell? ⟨b1, 3, none⟩ = some (.slice none 0 0) := r5.cell 3
        have v4 : t5.cell? ⟨b1, 4, none⟩ = some (.slice none 0 0) := r5.cell 4
        have HRR := Lib.hid (HNo.out (by omega))
        have HQ := Lib.hid (show LdQ p w X RR (.returned (.tuple #[ndZ, .int .i64 6])) t5 from by
          have hc : Chg (fun b => b = b1) W2 t5 := (Chg.of_below _ hb23).then_ hc5
          rw [HRR.out]
          refine ⟨X, ⟨A, c, vs, HM2.out.keep hc fun b hb e => ?_⟩, ⟨ld_chg C2.out hc (by have := Hlt.out; omega), fun b hb => .inl hb⟩, ndZ, 6, rfl, rfl, nd_zero X w t5⟩
          have h1 := Hlt.out.2.2.2 b hb
          have h2 := Hlt.out.2.1
          omega)
        clear r5 hc5 hb23
        go_wp2_with fail
        refine bodyPost_ret (v := .tuple #[ndZ, .int .i64 6]) ?_ rfl HQ.out
        simp [results, Try.results138]
        go_simp
        simp [ndZ]
      · have d3 : decide (ka < 2) = false := decide_eq_false g2
        by_cases g3 : (m : Int) ≤ ka - 2
        · have d4 : decide ((m : Int) ≤ ka - 2) = true := decide_eq_true g3
          have e1 : wrap64 (ka - 2) = ka - 2 := by have := HKr.out; simp only [wrap64]; omega
          go_quiet (fail)
          obtain ⟨W3, hW3⟩ : ∃ W, W2.drewN nq = W := ⟨_, rfl⟩
          rw [hW3]
          have hb23 : Below W2.heap.size W2 W3 := by rw [← hW3]; exact ⟨rfl, rfl, rfl, Nat.le_refl _, fun _ _ => rfl⟩
          clear hW3 y0 y1 y3 u0
          obtain ⟨t1, t2, t3, t4, t5, u1, u2, u3, u4, u5, ⟨f0, f1, f2, f3, f4⟩, ⟨z0, z1, z2, z3, z4⟩, r5, hc5⟩ := blk_st5 (BY.out.keep (hb23.block b1 BY.out.lt)) (.int .i64 0) (.slice none 0 0) (.slice none 0 0) (.slice none 0 0) (.slice none 0 0)
          have v0 : t5.cell? ⟨b1, 0, none⟩ = some (.int .i64 0) := r5.cell 0
          have v1 : t5.cell? ⟨b1, 1, none⟩ = some (.slice none 0 0) := r5.cell 1
          have v2 : t5.cell? ⟨b1, 2, none⟩ = some (.slice none 0 0) := r5.cell 2
          have v3 : t5.cell? ⟨b1, 3, none⟩ = some (.slice none 0 0) := r5.cell 3
          have v4 : t5.cell? ⟨b1, 4, none⟩ = some (.slice none 0 0) := r5.cell 4
          have HRR := Lib.hid (HNo.out (by omega))
          have HQ := Lib.hid (show LdQ p w X RR (.returned (.tuple #[ndZ, .int .i64 6])) t5 from by
            have hc : Chg (fun b => b = b1) W2 t5 := (Chg.of_below _ hb23).then_ hc5
            rw [HRR.out]
            refine ⟨X, ⟨A, c, vs, HM2.out.keep hc fun b hb e => ?_⟩, ⟨ld_chg C2.out hc (by have := Hlt.out; omega), fun b hb => .inl hb⟩, ndZ, 6, rfl, rfl, nd_zero X w t5⟩
            have h1 := Hlt.out.2.2.2 b hb
            have h2 := Hlt.out.2.1
            omega)
          clear r5 hc5 hb23
          go_wp2_with fail
          refine bodyPost_ret (v := .tuple #[ndZ, .int .i64 6]) ?_ rfl HQ.out
          simp [results, Try.results138]
          go_simp
          simp [ndZ]
        · have d4 : decide ((m : Int) ≤ ka - 2) = false := decide_eq_false g3
          obtain ⟨i, hi⟩ : ∃ i : Nat, ka - 2 = (i : Int) := ⟨(ka - 2).toNat, by omega⟩
          have him : i < m := by omega
          obtain ⟨g, z0, z1, z2, z3, z4, hA, hg, hXg, ⟨q0, q1, q2, q3, q4⟩, hN, hF⟩ := HM2.out.at_ (i := i) (by rw [← Hml.out]; exact him)
          subst hA
          have e1 : wrap64 (ka - 2) = (i : Int) := by have := HKr.out; simp only [wrap64]; omega
          have e2 : IntKind.i64.wrap (ka - 2) = (i : Int) := by have := HKr.out; rw [IntKind.wrap_i64]; omega
          have dm1 : decide ((m : Int) ≤ (i : Int)) = false := by rw [decide_eq_false_iff_not]; omega
          have dm2 : decide (m ≤ i) = false := by rw [decide_eq_false_iff_not]; omega
          have im1 : (i : Int) < (m : Int) := by omega
          have HN := Lib.hid (show Tr.nd st.L ka = st.L.getD i Nd.zero from by unfold Tr.nd; rw [show (ka - 2).toNat = i by omega])
          have HA := Lib.hid hN
          have HF := Lib.hid hF
          have HQ := Lib.hid (show W2.cell? ⟨g, i * 5, none⟩ = some z0 ∧ W2.cell? ⟨g, i * 5 + 1, none⟩ = some z1 ∧ W2.cell? ⟨g, i * 5 + 2, none⟩ = some z2 ∧ W2.cell? ⟨g, i * 5 + 3, none⟩ = some z3 ∧ W2.cell? ⟨g, i * 5 + 4, none⟩ = some z4 from ⟨q0, q1, q2, q3, q4⟩)
          have Hg := Lib.hid (show g < W2.heap.size ∧ g ≠ b1 from ⟨hg, by have := Hlt.out.2.2.2 g hXg; have := Hlt.out.2.1; omega⟩)
          have HRR := Lib.hid (HYes.out (by omega))
          have HY := Lib.hid (show W2.cell? ⟨p, 0, none⟩ = some (.slice (some ⟨g, 0, none⟩) m c) ∧ W2.cell? ⟨b0, 0, none⟩ = some (.int .i64 ka) from ⟨y0, u0⟩)
          have Hp2 := Lib.hid (show p < W2.heap.size ∧ b0 < W2.heap.size from ⟨HM2.out.lt p HM2.out.hp, BX.out.lt⟩)
          clear q0 q1 q2 q3 q4 hN hF hg hXg hi him HNo HYes
          go_quiet (fail)
          obtain ⟨W3, hW3⟩ : ∃ W, W2.drewN nq = W := ⟨_, rfl⟩
          rw [hW3]
          have hb23 : Below W2.heap.size W2 W3 := by rw [← hW3]; exact ⟨rfl, rfl, rfl, Nat.le_refl _, fun _ _ => rfl⟩
          clear hW3 y0 y1 y3 u0
          have B3 := Lib.hid hb23
          have Kp := Lib.hid (fun (V : World) (h : Below W3.heap.size W3 V) => show V.cell? ⟨p, 0, none⟩ = some (.slice (some ⟨g, 0, none⟩) m c) ∧ V.cell? ⟨b0, 0, none⟩ = some (.int .i64 ka) ∧ V.cell? ⟨g, i * 5, none⟩ = some z0 ∧ V.cell? ⟨g, i * 5 + 1, none⟩ = some z1 ∧ V.cell? ⟨g, i * 5 + 2, none⟩ = some z2 ∧ V.cell? ⟨g, i * 5 + 3, none⟩ = some z3 ∧ V.cell? ⟨g, i * 5 + 4, none⟩ = some z4 from by
            have hB := B3.out.trans (h.mono B3.out.size)
            have K := fun (b i : Nat) (hb : b < W2.heap.size) => cell_heap (i := i) (hB.block b hb)
            exact ⟨(K p 0 Hp2.out.1).trans HY.out.1, (K b0 0 Hp2.out.2).trans HY.out.2, (K g _ Hg.out.1).trans HQ.out.1, (K g _ Hg.out.1).trans HQ.out.2.1, (K g _ Hg.out.1).trans HQ.out.2.2.1, (K g _ Hg.out.1).trans HQ.out.2.2.2.1, (K g _ Hg.out.1).trans HQ.out.2.2.2.2⟩)
          have hbc : Below W3.heap.size W3 W3.drew := (Below.refl _ _).drew
          have HBk := Lib.hid (fun (V : World) (h : Below W3.heap.size W3 V) => back_any (nat_all (HA.out.below (B3.out.trans (h.mono B3.out.size))) (Nat.le_trans B3.out.size h.size)) HF.out)
          clear hb23
          go_upto_region 4 with fail
          go_region_held3 (fun V => V.cell? ⟨p, 0, none⟩ = some (.slice (some ⟨g, 0, none⟩) m c) ∧ V.cell? ⟨b0, 0, none⟩ = some (.int .i64 ka) ∧ V.cell? ⟨g, i * 5, none⟩ = some z0 ∧ V.cell? ⟨g, i * 5 + 1, none⟩ = some z1 ∧ V.cell? ⟨g, i * 5 + 2, none⟩ = some z2 ∧ V.cell? ⟨g, i * 5 + 3, none⟩ = some z3 ∧ V.cell? ⟨g, i * 5 + 4, none⟩ = some z4) (first | exact Kp.out _ hbc | exact S5.out) (first
            | (go_at_call 26; ((with_reducible refine (HBk.out _ hbc).mono ?_); rintro e w4 ⟨v4, rfl, n4, b4⟩; have hbc := hbc.trans (b4.mono hbc.size); have N4 := Lib.hid n4; clear n4 b4))
            | (go_at_call 20; ((with_reducible refine (node_new N4.out HF.out).mono ?_); rintro e w5 ⟨v5, rfl, n5, b5⟩; (obtain ⟨A1, c1, A2, c2, A3, c3, A4, c4, e5, -⟩ := n5 w5 (Nat.le_refl _) fun _ _ _ => rfl); subst e5; have hbc4 := hbc; have hbc := hbc.trans (b5.mono hbc.size); have N5 := Lib.hid n5; have h45 := Lib.hid hbc4; have B5 := Lib.hid hbc; (obtain ⟨k1, e1'⟩ : ∃ k, k = (st.L.getD i Nd.zero).ks.length := ⟨_, rfl⟩); (obtain ⟨k2, e2'⟩ : ∃ k, k = (st.L.getD i Nd.zero).ps.length := ⟨_, rfl⟩); (obtain ⟨k3, e3'⟩ : ∃ k, k = (st.L.getD i Nd.zero).gs.length := ⟨_, rfl⟩); (obtain ⟨k4, e4'⟩ : ∃ k, k = (st.L.getD i Nd.zero).cs.length := ⟨_, rfl⟩); (obtain ⟨k0, e0'⟩ : ∃ k, k = (st.L.getD i Nd.zero).h := ⟨_, rfl⟩); rw [← e0', ← e1', ← e2', ← e3', ← e4'] at N5 ⊢; clear e0' e1' e2' e3' e4'; (obtain ⟨t1, t2, t3, t4, t5, u1, u2, u3, u4, u5, ⟨f0, f1, f2, f3, f4⟩, ⟨d0, d1, d2, d3, d4⟩, r5, hc5⟩ := blk_st5 (BY.out.keep ((B3.out.trans (hbc.mono B3.out.size)).block b1 BY.out.lt)) (.int .i64 k0) (.slice A1 k1 c1) (.slice A2 k2 c2) (.slice A3 k3 c3) (.slice A4 k4 c4)); (have R5 := Lib.hid r5); (have C5 := Lib.hid hc5); (have S5 := Lib.hid (ld_keep (Kp.out _ hbc) hc5 (by have h1 := Hp2.out; have h2 := Hg.out.1; have h3 := Nat.le_trans B3.out.size hbc.size; omega) (by have := Hlt.out; omega) Hhid.out Hg.out.2)); clear n5 b5 r5 hc5)))
          all_goals
            have v0 := R5.out.cell 0
            have v1 := R5.out.cell 1
            have v2 := R5.out.cell 2
            have v3 := R5.out.cell 3
            have v4 := R5.out.cell 4
            go_wp2_with fail
            refine bodyPost_ret (v := .tuple #[.agg #[.int .i64 k0, .slice A1 k1 c1, .slice A2 k2 c2, .slice A3 k3 c3, .slice A4 k4 c4], .int .i64 0]) ?_ rfl ?_
            · simp [results, Try.results138]
              go_simp
            · have hc : Chg (fun b => b = b1) W2 t5 := (Chg.of_below _ (B3.out.trans (B5.out.mono B3.out.size))).then_ C5.out
              have hX0 : ∀ b, X b → b ≠ b1 := fun b hb e => by have h1 := Hlt.out.2.2.2 b hb; have h2 := Hlt.out.2.1; omega
              have hs4 : W2.heap.size ≤ w4.heap.size := Nat.le_trans B3.out.size h45.out.size
              rw [HRR.out, HN.out]
              exact ⟨X, ⟨_, _, _, HM2.out.keep hc hX0⟩, ⟨ld_chg C2.out hc (by have := Hlt.out; omega), fun b hb => .inl hb⟩, _, 0, rfl, rfl, ld_new N5.out C5.out (by have := BY.out.lt; omega) (Nat.le_trans C2.out.size hs4) (fun b hb => Nat.lt_of_lt_of_le (HM2.out.lt b hb) hs4)⟩
    · have d1 : decide ((0 : Int) < bl) = false := decide_eq_false g0
      by_cases g2 : ka < 2
      · have d3 : decide (ka < 2) = true := decide_eq_true g2
        go_quiet (fail)
        obtain ⟨W3, hW3⟩ : ∃ W, W2.drewN nq = W := ⟨_, rfl⟩
        rw [hW3]
        have hb23 : Below W2.heap.size W2 W3 := by rw [← hW3]; exact ⟨rfl, rfl, rfl, Nat.le_refl _, fun _ _ => rfl⟩
        clear hW3 y0 y1 y3 u0
        obtain ⟨t1, t2, t3, t4, t5, u1, u2, u3, u4, u5, ⟨f0, f1, f2, f3, f4⟩, ⟨z0, z1, z2, z3, z4⟩, r5, hc5⟩ := blk_st5 (BY.out.keep (hb23.block b1 BY.out.lt)) (.int .i64 0) (.slice none 0 0) (.slice none 0 0) (.slice none 0 0) (.slice none 0 0)
        have v0 : t5.cell? ⟨b1, 0, none⟩ = some (.int .i64 0) := r5.cell 0
        have v1 : t5.cell? ⟨b1, 1, none⟩ = some (.slice none 0 0) := r5.cell 1
        have v2 : t5.cell? ⟨b1, 2, none⟩ = some (.slice none 0 0) := r5.cell 2
        have v3 : t5.cell? ⟨b1, 3, none⟩ = some (.slice none 0 0) := r5.cell 3
        have v4 : t5.cell? ⟨b1, 4, none⟩ = some (.slice none 0 0) := r5.cell 4
        have HRR := Lib.hid (HNo.out (by omega))
        have HQ := Lib.hid (show LdQ p w X RR (.returned (.tuple #[ndZ, .int .i64 6])) t5 from by
          have hc : Chg (fun b => b = b1) W2 t5 := (Chg.of_below _ hb23).then_ hc5
          rw [HRR.out]
          refine ⟨X, ⟨A, c, vs, HM2.out.keep hc fun b hb e => ?_⟩, ⟨ld_chg C2.out hc (by have := Hlt.out; omega), fun b hb => .inl hb⟩, ndZ, 6, rfl, rfl, nd_zero X w t5⟩
          have h1 := Hlt.out.2.2.2 b hb
          have h2 := Hlt.out.2.1
          omega)
        clear r5 hc5 hb23
        go_wp2_with fail
        refine bodyPost_ret (v := .tuple #[ndZ, .int .i64 6]) ?_ rfl HQ.out
        simp [results, Try.results138]
        go_simp
        simp [ndZ]
      · have d3 : decide (ka < 2) = false := decide_eq_false g2
        by_cases g3 : (m : Int) ≤ ka - 2
        · have d4 : decide ((m : Int) ≤ ka - 2) = true := decide_eq_true g3
          have e1 : wrap64 (ka - 2) = ka - 2 := by have := HKr.out; simp only [wrap64]; omega
          go_quiet (fail)
          obtain ⟨W3, hW3⟩ : ∃ W, W2.drewN nq = W := ⟨_, rfl⟩
          rw [hW3]
          have hb23 : Below W2.heap.size W2 W3 := by rw [← hW3]; exact ⟨rfl, rfl, rfl, Nat.le_refl _, fun _ _ => rfl⟩
          clear hW3 y0 y1 y3 u0
          obtain ⟨t1, t2, t3, t4, t5, u1, u2, u3, u4, u5, ⟨f0, f1, f2, f3, f4⟩, ⟨z0, z1, z2, z3, z4⟩, r5, hc5⟩ := blk_st5 (BY.out.keep (hb23.block b1 BY.out.lt)) (.int .i64 0) (.slice none 0 0) (.slice none 0 0) (.slice none 0 0) (.slice none 0 0)
          have v0 : t5.cell? ⟨b1, 0, none⟩ = some (.int .i64 0) := r5.cell 0
          have v1 : t5.cell? ⟨b1, 1, none⟩ = some (.slice none 0 0) := r5.cell 1
          have v2 : t5.cell? ⟨b1, 2, none⟩ = some (.slice none 0 0) := r5.cell 2
          have v3 : t5.cell? ⟨b1, 3, none⟩ = some (.slice none 0 0) := r5.cell 3
          have v4 : t5.cell? ⟨b1, 4, none⟩ = some (.slice none 0 0) := r5.cell 4
          have HRR := Lib.hid (HNo.out (by omega))
          have HQ := Lib.hid (show LdQ p w X RR (.returned (.tuple #[ndZ, .int .i64 6])) t5 from by
            have hc : Chg (fun b => b = b1) W2 t5 := (Chg.of_below _ hb23).then_ hc5
            rw [HRR.out]
            refine ⟨X, ⟨A, c, vs, HM2.out.keep hc fun b hb e => ?_⟩, ⟨ld_chg C2.out hc (by have := Hlt.out; omega), fun b hb => .inl hb⟩, ndZ, 6, rfl, rfl, nd_zero X w t5⟩
            have h1 := Hlt.out.2.2.2 b hb
            have h2 := Hlt.out.2.1
            omega)
          clear r5 hc5 hb23
          go_wp2_with fail
          refine bodyPost_ret (v := .tuple #[ndZ, .int .i64 6]) ?_ rfl HQ.out
          simp [results, Try.results138]
          go_simp
          simp [ndZ]
        · have d4 : decide ((m : Int) ≤ ka - 2) = false := decide_eq_false g3
          obtain ⟨i, hi⟩ : ∃ i : Nat, ka - 2 = (i : Int) := ⟨(ka - 2).toNat, by omega⟩
          have him : i < m := by omega
          obtain ⟨g, z0, z1, z2, z3, z4, hA, hg, hXg, ⟨q0, q1, q2, q3, q4⟩, hN, hF⟩ := HM2.out.at_ (i := i) (by rw [← Hml.out]; exact him)
          subst hA
          have e1 : wrap64 (ka - 2) = (i : Int) := by have := HKr.out; simp only [wrap64]; omega
          have e2 : IntKind.i64.wrap (ka - 2) = (i : Int) := by have := HKr.out; rw [IntKind.wrap_i64]; omega
          have dm1 : decide ((m : Int) ≤ (i : Int)) = false := by rw [decide_eq_false_iff_not]; omega
          have dm2 : decide (m ≤ i) = false := by rw [decide_eq_false_iff_not]; omega
          have im1 : (i : Int) < (m : Int) := by omega
          have HN := Lib.hid (show Tr.nd st.L ka = st.L.getD i Nd.zero from by unfold Tr.nd; rw [show (ka - 2).toNat = i by omega])
          have HA := Lib.hid hN
          have HF := Lib.hid hF
          have HQ := Lib.hid (show W2.cell? ⟨g, i * 5, none⟩ = some z0 ∧ W2.cell? ⟨g, i * 5 + 1, none⟩ = some z1 ∧ W2.cell? ⟨g, i * 5 + 2, none⟩ = some z2 ∧ W2.cell? ⟨g, i * 5 + 3, none⟩ = some z3 ∧ W2.cell? ⟨g, i * 5 + 4, none⟩ = some z4 from ⟨q0, q1, q2, q3, q4⟩)
          have Hg := Lib.hid (show g < W2.heap.size ∧ g ≠ b1 from ⟨hg, by have := Hlt.out.2.2.2 g hXg; have := Hlt.out.2.1; omega⟩)
          have HRR := Lib.hid (HYes.out (by omega))
          have HY := Lib.hid (show W2.cell? ⟨p, 0, none⟩ = some (.slice (some ⟨g, 0, none⟩) m c) ∧ W2.cell? ⟨b0, 0, none⟩ = some (.int .i64 ka) from ⟨y0, u0⟩)
          have Hp2 := Lib.hid (show p < W2.heap.size ∧ b0 < W2.heap.size from ⟨HM2.out.lt p HM2.out.hp, BX.out.lt⟩)
          clear q0 q1 q2 q3 q4 hN hF hg hXg hi him HNo HYes
          go_quiet (fail)
          obtain ⟨W3, hW3⟩ : ∃ W, W2.drewN nq = W := ⟨_, rfl⟩
          rw [hW3]
          have hb23 : Below W2.heap.size W2 W3 := by rw [← hW3]; exact ⟨rfl, rfl, rfl, Nat.le_refl _, fun _ _ => rfl⟩
          clear hW3 y0 y1 y3 u0
          have B3 := Lib.hid hb23
          have Kp := Lib.hid (fun (V : World) (h : Below W3.heap.size W3 V) => show V.cell? ⟨p, 0, none⟩ = some (.slice (some ⟨g, 0, none⟩) m c) ∧ V.cell? ⟨b0, 0, none⟩ = some (.int .i64 ka) ∧ V.cell? ⟨g, i * 5, none⟩ = some z0 ∧ V.cell? ⟨g, i * 5 + 1, none⟩ = some z1 ∧ V.cell? ⟨g, i * 5 + 2, none⟩ = some z2 ∧ V.cell? ⟨g, i * 5 + 3, none⟩ = some z3 ∧ V.cell? ⟨g, i * 5 + 4, none⟩ = some z4 from by
            have hB := B3.out.trans (h.mono B3.out.size)
            have K := fun (b i : Nat) (hb : b < W2.heap.size) => cell_heap (i := i) (hB.block b hb)
            exact ⟨(K p 0 Hp2.out.1).trans HY.out.1, (K b0 0 Hp2.out.2).trans HY.out.2, (K g _ Hg.out.1).trans HQ.out.1, (K g _ Hg.out.1).trans HQ.out.2.1, (K g _ Hg.out.1).trans HQ.out.2.2.1, (K g _ Hg.out.1).trans HQ.out.2.2.2.1, (K g _ Hg.out.1).trans HQ.out.2.2.2.2⟩)
          have hbc : Below W3.heap.size W3 W3.drew := (Below.refl _ _).drew
          have HBk := Lib.hid (fun (V : World) (h : Below W3.heap.size W3 V) => back_any (nat_all (HA.out.below (B3.out.trans (h.mono B3.out.size))) (Nat.le_trans B3.out.size h.size)) HF.out)
          clear hb23
          go_upto_region 4 with fail
          go_region_held3 (fun V => V.cell? ⟨p, 0, none⟩ = some (.slice (some ⟨g, 0, none⟩) m c) ∧ V.cell? ⟨b0, 0, none⟩ = some (.int .i64 ka) ∧ V.cell? ⟨g, i * 5, none⟩ = some z0 ∧ V.cell? ⟨g, i * 5 + 1, none⟩ = some z1 ∧ V.cell? ⟨g, i * 5 + 2, none⟩ = some z2 ∧ V.cell? ⟨g, i * 5 + 3, none⟩ = some z3 ∧ V.cell? ⟨g, i * 5 + 4, none⟩ = some z4) (first | exact Kp.out _ hbc | exact S5.out) (first
            | (go_at_call 26; ((with_reducible refine (HBk.out _ hbc).mono ?_); rintro e w4 ⟨v4, rfl, n4, b4⟩; have hbc := hbc.trans (b4.mono hbc.size); have N4 := Lib.hid n4; clear n4 b4))
            | (go_at_call 20; ((with_reducible refine (node_new N4.out HF.out).mono ?_); rintro e w5 ⟨v5, rfl, n5, b5⟩; (obtain ⟨A1, c1, A2, c2, A3, c3, A4, c4, e5, -⟩ := n5 w5 (Nat.le_refl _) fun _ _ _ => rfl); subst e5; have hbc4 := hbc; have hbc := hbc.trans (b5.mono hbc.size); have N5 := Lib.hid n5; have h45 := Lib.hid hbc4; have B5 := Lib.hid hbc; (obtain ⟨k1, e1'⟩ : ∃ k, k = (st.L.getD i Nd.zero).ks.length := ⟨_, rfl⟩); (obtain ⟨k2, e2'⟩ : ∃ k, k = (st.L.getD i Nd.zero).ps.length := ⟨_, rfl⟩); (obtain ⟨k3, e3'⟩ : ∃ k, k = (st.L.getD i Nd.zero).gs.length := ⟨_, rfl⟩); (obtain ⟨k4, e4'⟩ : ∃ k, k = (st.L.getD i Nd.zero).cs.length := ⟨_, rfl⟩); (obtain ⟨k0, e0'⟩ : ∃ k, k = (st.L.getD i Nd.zero).h := ⟨_, rfl⟩); rw [← e0', ← e1', ← e2', ← e3', ← e4'] at N5 ⊢; clear e0' e1' e2' e3' e4'; (obtain ⟨t1, t2, t3, t4, t5, u1, u2, u3, u4, u5, ⟨f0, f1, f2, f3, f4⟩, ⟨d0, d1, d2, d3, d4⟩, r5, hc5⟩ := blk_st5 (BY.out.keep ((B3.out.trans (hbc.mono B3.out.size)).block b1 BY.out.lt)) (.int .i64 k0) (.slice A1 k1 c1) (.slice A2 k2 c2) (.slice A3 k3 c3) (.slice A4 k4 c4)); (have R5 := Lib.hid r5); (have C5 := Lib.hid hc5); (have S5 := Lib.hid (ld_keep (Kp.out _ hbc) hc5 (by have h1 := Hp2.out; have h2 := Hg.out.1; have h3 := Nat.le_trans B3.out.size hbc.size; omega) (by have := Hlt.out; omega) Hhid.out Hg.out.2)); clear n5 b5 r5 hc5)))
          all_goals
            have v0 := R5.out.cell 0
            have v1 := R5.out.cell 1
            have v2 := R5.out.cell 2
            have v3 := R5.out.cell 3
            have v4 := R5.out.cell 4
            go_wp2_with fail
            refine bodyPost_ret (v := .tuple #[.agg #[.int .i64 k0, .slice A1 k1 c1, .slice A2 k2 c2, .slice A3 k3 c3, .slice A4 k4 c4], .int .i64 0]) ?_ rfl ?_
            · simp [results, Try.results138]
              go_simp
            · have hc : Chg (fun b => b = b1) W2 t5 := (Chg.of_below _ (B3.out.trans (B5.out.mono B3.out.size))).then_ C5.out
              have hX0 : ∀ b, X b → b ≠ b1 := fun b hb e => by have h1 := Hlt.out.2.2.2 b hb; have h2 := Hlt.out.2.1; omega
              have hs4 : W2.heap.size ≤ w4.heap.size := Nat.le_trans B3.out.size h45.out.size
              rw [HRR.out, HN.out]
              exact ⟨X, ⟨_, _, _, HM2.out.keep hc hX0⟩, ⟨ld_chg C2.out hc (by have := Hlt.out; omega), fun b hb => .inl hb⟩, _, 0, rfl, rfl, ld_new N5.out C5.out (by have := BY.out.lt; omega) (Nat.le_trans C2.out.size hs4) (fun b hb => Nat.lt_of_lt_of_le (HM2.out.lt b hb) hs4)⟩
end Go.Proofs.Ytlcchefiicalpaa
namespace Go.Proofs.Ytlcchefiicalpaa
open Go.RowKit
theorem nd_parts : ∃ i, Try.prog.info? 35 = some i ∧ i.zero = some (.agg #[.int .i64 0, .slice none 0 0, .slice none 0 0, .slice none 0 0, .slice none 0 0]) ∧ i.size = 5 ∧ i.bytes = 104 := by
  have h : (Try.prog.info? 35).map (fun i => (i.zero, i.size, i.bytes)) = some (some (.agg #[.int .i64 0, .slice none 0 0, .slice none 0 0, .slice none 0 0, .slice none 0 0]), 5, 104) := by kernel_rfl
  obtain ⟨i, hi, hz⟩ := Option.map_eq_some_iff.1 h
  simp only [Prod.mk.injEq] at hz
  exact ⟨i, hi, hz.1, hz.2.1, hz.2.2⟩
theorem sl_five_ {w : World} {a b c d e : Value} {t : TypeId} : Sl (w.alloc (.cells #[a, b, c, d, e] t)) (w.heap.size + 1) (some ⟨w.heap.size, 0, none⟩) [a, b, c, d, e] := .inr ⟨w.heap.size, 0, rfl, by omega, fun i hi => by
  have hi : i < 5 := hi
  have : i = 0 ∨ i = 1 ∨ i = 2 ∨ i = 3 ∨ i = 4 := by omega
  rcases this with rfl | rfl | rfl | rfl | rfl <;> exact (Blk.new w t _).cell _⟩
/-- The node's cells in a block that stays. -/
theorem sv_keep {w w' : World} {b0 : Nat} {z0 z1 z2 z3 z4 : Value} (h : Blk w b0 35 #[z0, z1, z2, z3, z4]) (hk : w'.heap[b0]? = w.heap[b0]?) : w'.cell? ⟨b0, 0, none⟩ = some z0 ∧ w'.cell? ⟨b0, 1, none⟩ = some z1 ∧ w'.cell? ⟨b0, 2, none⟩ = some z2 ∧ w'.cell? ⟨b0, 3, none⟩ = some z3 ∧ w'.cell? ⟨b0, 4, none⟩ = some z4 := by
  have h := h.keep hk
  exact ⟨h.cell 0, h.cell 1, h.cell 2, h.cell 3, h.cell 4⟩
/-- The memory with one node more. -/
theorem MemR.more {p m : Nat} {A A' : Option Addr} {c c' : Nat} {vs : List (Array Value)} {w W2 w4 w5 w7 w8 W9 t : World} {X : Nat → Prop} {st : Tr.MSt} {s1 : Int} {b1 : Nat} {n : Nd.N} {z0 z1 z2 z3 z4 : Value} (hml : m = st.L.length)
    (hM : MemR p A c vs W2 X { st with sv := s1 }) (C2 : Chg X w W2) (hX : ∀ b, X b → b < w.heap.size) (hb1 : w.heap.size ≤ b1 ∧ b1 < W2.heap.size) (b4 : Below W2.heap.size W2 w4) (b5 : Below w4.heap.size w4 w5) (hN : NdI w4.heap.size w5 (.agg #[z0, z1, z2, z3, z4]) n) (hF : FewOk n)
    (hw7 : Below w5.heap.size w5 w7) (hg : w7.grownBy w8 (Value.slice A m c).ownBlock) (ho : w8.ownsRow 0 35 5 (.slice A' (m + 1) c') (m + 1) (ncs vs ++ [z0, z1, z2, z3, z4]))
    (hv : (Value.slice A' (m + 1) c').ownBlock = (Value.slice A m c).ownBlock ∨ (Value.slice A' (m + 1) c').ownBlock = some w7.heap.size)
    (hW9 : w8.setCell ⟨p, 0, none⟩ (.slice A' (m + 1) c') = W9) (hc : Chg (fun b => b = b1) W9 t) (few : m ≤ 8000) :
    MRep p t (fun b => X b ∨ (w.heap.size ≤ b ∧ b < t.heap.size)) { st with sv := s1, L := st.L ++ [n] } ∧ Stp w X t (fun b => X b ∨ (w.heap.size ≤ b ∧ b < t.heap.size)) := by
  subst hml
  subst hW9
  have hs45 := Nat.le_trans b4.size b5.size
  have hs7 := Nat.le_trans hs45 hw7.size
  have hs8 := Nat.le_trans hs7 hg.size
  have hs57 := hw7.size
  have hs78 := hg.size
  have hs24 := b4.size
  have hs45' := b5.size
  have hsz : (w8.setCell ⟨p, 0, none⟩ (.slice A' (st.L.length + 1) c')).heap.size = w8.heap.size := by simp [World.setCell]
  have hst : w8.heap.size ≤ t.heap.size := by have := hc.size; rw [hsz] at this; exact this
  have hwW := C2.size
  have hB27 : Below W2.heap.size W2 w7 := (b4.trans (b5.mono b4.size)).trans (hw7.mono hs45)
  have hXW : ∀ b, X b → b < W2.heap.size := hM.lt
  -- what stays: older blocks but p and the old row
  have hk : ∀ b, b < W2.heap.size → b ≠ p → b ≠ b1 → ¬ (Value.slice A st.L.length c).ownBlock = some b → t.heap[b]? = W2.heap[b]? := fun b hb h1 h2 h3 => by
    rw [hc.block b (by rw [hsz]; omega) h2, Below.heap_setCell _ _ _ _ h1, hg.block b (by omega) (fun e => h3 e.symm), hB27.block b hb]
  have hk5 : ∀ b, w4.heap.size ≤ b → b < w5.heap.size → t.heap[b]? = w5.heap[b]? := fun b hb hb' => by
    have h1 : b ≠ p := fun e => by have := hXW p hM.hp; have := b4.size; omega
    have h2 : b ≠ b1 := fun e => by have := b4.size; omega
    have h3 : ¬ (Value.slice A st.L.length c).ownBlock = some b := fun e => by have := hXW b (hM.hr b e).1; have := b4.size; omega
    have hl7 : b < w7.heap.size := Nat.lt_of_lt_of_le hb' hw7.size
    rw [hc.block b (by rw [hsz]; have := hg.size; omega) h2, Below.heap_setCell _ _ _ _ h1, hg.block b hl7 (fun e => h3 e.symm), hw7.block b hb']
  have hpl : p < W2.heap.size := hXW p hM.hp
  have hp1 : p ≠ b1 := fun e => by have := hX p hM.hp; omega
  have hpr : ∀ b, (Value.slice A st.L.length c).ownBlock = some b → b ≠ p := fun b e => (hM.hr b e).2
  have hnew : ∀ b, (Value.slice A' (st.L.length + 1) c').ownBlock = some b → (X b ∨ w7.heap.size ≤ b) ∧ b ≠ p ∧ b ≠ b1 ∧ b < w8.heap.size := fun b e => by
    have hlt := (ho.lt b e).2
    rcases hv with hv | hv
    · have e' := hv.symm.trans e
      exact ⟨.inl (hM.hr b e').1, (hM.hr b e').2, fun h => by have := hX b (hM.hr b e').1; omega, hlt⟩
    · have e' := hv.symm.trans e
      injection e' with e'
      subst e'
      exact ⟨.inr (Nat.le_refl _), by omega, by omega, hlt⟩
  refine ⟨⟨A', c', vs ++ [#[z0, z1, z2, z3, z4]], ?_⟩, ?_⟩
  · refine ⟨?_, ?_, .inl hM.hp, fun b e => ?_, ?_, ?_, fun i v m hvi hmi => ?_, fun b hb => ?_, ?_⟩
    · have h1 : Blk w8 p 64 #[.slice A st.L.length c, .int .i64 st.ld, .int .i64 s1, .int .i64 st.bl, .int .i64 st.bs] := hM.blk.keep (by rw [hg.block p (by omega) (fun e => hpr p e.symm rfl), hB27.block p hpl])
      have h2 := (h1.set_ 0 (.slice A' (st.L.length + 1) c')).keep (hc.block p (by rw [hsz]; omega) hp1)
      show Blk t p 64 #[.slice A' (st.L ++ [n]).length c', .int .i64 st.ld, .int .i64 s1, .int .i64 st.bl, .int .i64 st.bs]
      rw [List.length_append, List.length_singleton]
      exact h2
    · show t.ownsRow 0 35 5 (.slice A' (st.L ++ [n]).length c') (st.L ++ [n]).length (ncs (vs ++ [#[z0, z1, z2, z3, z4]]))
      rw [List.length_append, List.length_singleton, ncs_app]
      show t.ownsRow 0 35 5 (.slice A' (st.L.length + 1) c') (st.L.length + 1) (ncs vs ++ [z0, z1, z2, z3, z4])
      refine own_keep ho fun b e _ => ?_
      obtain ⟨-, h2, h3, h4⟩ := hnew b e
      rw [hc.block b (by rw [hsz]; exact h4) h3, Below.heap_setCell _ _ _ _ h2]
    · have e : (Value.slice A' (st.L.length + 1) c').ownBlock = some b := by
        have := e
        rw [show ({ st with sv := s1, L := st.L ++ [n] } : Tr.MSt).L.length = st.L.length + 1 from by show (st.L ++ [n]).length = _; rw [List.length_append, List.length_singleton]] at this
        exact this
      obtain ⟨h1, h2, -, h4⟩ := hnew b e
      exact ⟨h1.imp id fun h => ⟨by omega, by omega⟩, h2⟩
    · show (vs ++ [_]).length = (st.L ++ [n]).length
      rw [List.length_append, List.length_append, hM.len]; rfl
    · intro v hvm
      rcases List.mem_append.1 hvm with h | h
      · exact hM.five v h
      · rw [List.mem_singleton] at h; subst h; rfl
    · have hmi : (st.L ++ [n])[i]? = some m := hmi
      have eL : ({ st with sv := s1, L := st.L ++ [n] } : Tr.MSt).L.length = st.L.length + 1 := by show (st.L ++ [n]).length = _; rw [List.length_append, List.length_singleton]
      rw [eL]
      rcases Nat.lt_or_ge i vs.length with hlt | hge
      · rw [List.getElem?_append_left hlt] at hvi
        rw [List.getElem?_append_left (by have := hM.len; show i < st.L.length; rw [show st.L.length = vs.length from this.symm]; exact hlt)] at hmi
        obtain ⟨q1, q2⟩ := hM.nod i v m hvi hmi
        refine ⟨q1.keep (by omega) (fun b hb hbl => ⟨.inl hb.1, hb.2.1, fun e => ?_⟩) fun b hb hbl => hk b hbl hb.2.1 (fun e => by have := hX b hb.1; omega) hb.2.2, q2⟩
        rcases hv with hv | hv
        · exact hb.2.2 (hv.symm.trans e)
        · have e' := hv.symm.trans e
          injection e' with e'
          have := hX b hb.1
          omega
      · have hi : i = vs.length := by
          have : i < (vs ++ [#[z0, z1, z2, z3, z4]]).length := (List.getElem?_eq_some_iff.1 hvi).1
          rw [List.length_append, List.length_singleton] at this
          omega
        subst hi
        have e1 : v = #[z0, z1, z2, z3, z4] := by
          rw [List.getElem?_append_right (Nat.le_refl _), Nat.sub_self] at hvi
          injection hvi with e; exact e.symm
        have e2 : m = n := by
          have hl := hM.len
          rw [List.getElem?_append_right (by show st.L.length ≤ vs.length; rw [hl]; exact Nat.le_refl _)] at hmi
          rw [show vs.length - st.L.length = 0 by rw [hl]; exact Nat.sub_self _] at hmi
          injection hmi with e; exact e.symm
        subst e1
        subst e2
        refine ⟨fun u hu hb => hN u (by omega) fun b hb4 hb5 => ?_, hF⟩
        refine (hb b ⟨.inr ⟨by have := b4.size; omega, by have := hw7.size; omega⟩, fun e => by have := b4.size; omega, fun e => ?_⟩ (by have := hw7.size; omega)).trans (hk5 b hb4 hb5)
        rcases hv with hv | hv
        · have := hXW b (hM.hr b (hv.symm.trans e)).1
          have := b4.size
          omega
        · have e' := hv.symm.trans e
          injection e' with e'
          have := hw7.size
          omega
    · rcases hb with hb | hb
      · have := hX b hb; omega
      · exact hb.2
    · show (st.L ++ [n]).length ≤ 8001
      rw [List.length_append, List.length_singleton]; omega
  · refine ⟨⟨?_, ?_, ?_, by omega, fun b hb hbX => ?_⟩, fun b hb => hb.imp id fun h => h.1⟩
    · exact hc.os.trans (hg.os.trans (hB27.os.trans C2.os))
    · exact hc.tape.trans (hg.tape.trans (hB27.tape.trans C2.tape))
    · exact hc.output.trans (hg.output.trans (hB27.output.trans C2.output))
    · rw [hk b (by omega) (fun e => hbX (e ▸ hM.hp)) (by omega) (fun e => hbX (hM.hr b e).1)]
      exact C2.block b hb hbX
theorem sv_app {W2 w7 w8 : World} {row : Option Nat} (hb : Below W2.heap.size W2 w7) (hg : w7.grownBy w8 row) {b : Nat} (hr : row ≠ some b) (hl : b < W2.heap.size) : w8.heap[b]? = W2.heap[b]? :=
  (hg.block b (Nat.lt_of_lt_of_le hl hb.size) (fun e => hr e.symm)).trans (hb.block b hl)
def ldRow : Op := Op.load 62 (.tmp 41)
set_option maxRecDepth 8000 in
set_option maxHeartbeats 16000000 in
theorem msave_yes {p : Nat} {w : World} {X : Nat → Prop} {st : Tr.MSt} {v : Value} {n : Nd.N} (hr : MRep p w X st) (hn : NdX X w v n) (hok : Nd.Ok n) (hE : ¬ ((0 < st.bs ∧ st.bs ≤ wrap64 (st.sv + 1)) ∨ 8000 < st.L.length)) :
    Calls Try.prog 139 #[.pointer (some ⟨p, 0, none⟩), v] w (SvQ p w X (Tr.mem.sv st n)) := by
  obtain ⟨A, c, vs, hm⟩ := hr
  have hnow := hn.now
  obtain ⟨A1, c1, A2, c2, A3, c3, A4, c4, rfl, hf⟩ := hnow
  obtain ⟨k1, e1⟩ : ∃ k, k = n.ks.length := ⟨_, rfl⟩
  obtain ⟨k2, e2⟩ : ∃ k, k = n.ps.length := ⟨_, rfl⟩
  obtain ⟨k3, e3⟩ : ∃ k, k = n.gs.length := ⟨_, rfl⟩
  obtain ⟨k4, e4⟩ : ∃ k, k = n.cs.length := ⟨_, rfl⟩
  obtain ⟨k0, e0⟩ : ∃ k, k = n.h := ⟨_, rfl⟩
  rw [← e0, ← e1, ← e2, ← e3, ← e4] at hn ⊢
  clear e0 e1 e2 e3 e4
  obtain ⟨W0, hW0⟩ : ∃ W, w.alloc (.cells #[.int .i64 k0, .slice A1 k1 c1, .slice A2 k2 c2, .slice A3 k3 c3, .slice A4 k4 c4] 35) = W := ⟨_, rfl⟩
  obtain ⟨W1, hW1⟩ : ∃ W, W0.alloc (.cells #[.int .i64 0, .int .i64 0, .int .i64 0] 58) = W := ⟨_, rfl⟩
  obtain ⟨b0, hb0⟩ : ∃ b, w.heap.size = b := ⟨_, rfl⟩
  obtain ⟨b1, hb1⟩ : ∃ b, b0 + 1 = b := ⟨_, rfl⟩
  obtain ⟨m, hml⟩ : ∃ m, m = st.L.length := ⟨_, rfl⟩
  have bel0 : Below w.heap.size w W0 := by rw [← hW0]; exact below_alloc1 _ _
  have bel1 : Below W0.heap.size W0 W1 := by rw [← hW1]; exact below_alloc1 _ _
  have bx : Blk W1 b0 35 #[.int .i64 k0, .slice A1 k1 c1, .slice A2 k2 c2, .slice A3 k3 c3, .slice A4 k4 c4] := (show Blk W0 b0 _ _ from by rw [← hW0, ← hb0]; exact Blk.new _ _ _).keep (bel1.block b0 (by rw [← hW0, ← hb0]; simp))
  have by1 : Blk W1 b1 58 #[.int .i64 0, .int .i64 0, .int .i64 0] := by
    rw [← hW1, ← hb1, ← hb0, show w.heap.size + 1 = W0.heap.size by rw [← hW0]; simp]; exact Blk.new _ _ _
  have bel : Below w.heap.size w W1 := bel0.trans (bel1.mono bel0.size)
  have hM1 : MemR p A c vs W1 X st := hm.keep (G := fun _ => False) (.of_below _ bel) fun _ _ h => h
  have hpb : p < b0 := by rw [← hb0]; exact hm.lt p hm.hp
  obtain ⟨s1, hs1⟩ : ∃ s, s = wrap64 (st.sv + 1) := ⟨_, rfl⟩
  obtain ⟨RR, hRR⟩ : ∃ R, Tr.mem.sv st n = R := ⟨_, rfl⟩
  rw [hRR]
  obtain ⟨bs, hbs⟩ : ∃ b, b = st.bs := ⟨_, rfl⟩
  have HYes := Lib.hid (show ¬ ((0 < bs ∧ bs ≤ s1) ∨ 8000 < m) → RR = ({ st with sv := s1, L := st.L ++ [n] }, .ok ((st.L.length : Int) + 2, 1, 7)) from fun h => by rw [← hRR, hs1]; exact mem_sv_yes (by rw [← hs1, ← hml, ← hbs]; exact h))
  obtain ⟨W2, hW2⟩ : ∃ W, W1.setCell ⟨p, 2, none⟩ (.int .i64 s1) = W := ⟨_, rfl⟩
  have hM2 := hM1.save1 s1
  rw [hW2] at hM2
  have x0 : W1.cell? ⟨p, 2, none⟩ = some (.int .i64 st.sv) := hM1.blk.cell 2
  have x1 := hM1.blk.frozen 2
  have C2 := Lib.hid (show Chg X w W2 from (Chg.of_below X bel).then_ (by rw [← hW2]; exact (Chg.refl X W1).setCell (.inl hm.hp) _))
  have HM2 := Lib.hid hM2
  have Hbel := Lib.hid bel
  have bx2 : Blk W2 b0 35 #[.int .i64 k0, .slice A1 k1 c1, .slice A2 k2 c2, .slice A3 k3 c3, .slice A4 k4 c4] := bx.keep (by rw [← hW2]; exact Below.heap_setCell _ _ _ _ (by show b0 ≠ p; omega))
  have by2 : Blk W2 b1 58 #[.int .i64 0, .int .i64 0, .int .i64 0] := by1.keep (by rw [← hW2]; exact Below.heap_setCell _ _ _ _ (by show b1 ≠ p; omega))
  have BX := Lib.hid bx2
  have BY := Lib.hid by2
  have y0 : W2.cell? ⟨p, 0, none⟩ = some (.slice A m c) := by rw [hml]; exact hM2.blk.cell 0
  have y2 : W2.cell? ⟨p, 2, none⟩ = some (.int .i64 s1) := hM2.blk.cell 2
  have y4 : W2.cell? ⟨p, 4, none⟩ = some (.int .i64 st.bs) := hM2.blk.cell 4
  rw [← hbs] at y4
  have HHm := Lib.hid hm
  have HE := Lib.hid (show ¬ ((0 < bs ∧ bs ≤ s1) ∨ 8000 < m) by rw [hbs, hs1, hml]; exact hE)
  have HFw := Lib.hid (few_ok hok)
  have HRow := Lib.hid (show W2.ownsRow 0 35 5 (.slice A m c) m (ncs vs) from by rw [hml]; exact hM2.row)
  have Hhr := Lib.hid (show ∀ b, (Value.slice A m c).ownBlock = some b → X b ∧ b ≠ p from by rw [hml]; exact hM2.hr)
  obtain ⟨li, hli, hlz, hls, hlb⟩ := nd_parts
  have Hlt := Lib.hid (show p < b0 ∧ b0 < b1 ∧ b0 = w.heap.size ∧ (∀ b, X b → b < w.heap.size) from ⟨hpb, by omega, hb0.symm, hm.lt⟩)
  have Hne := Lib.hid (show p ≠ b0 ∧ p ≠ b1 from ⟨by omega, by omega⟩)
  have HNx := Lib.hid hn
  have Hml := Lib.hid hml
  clear hok hM1 hM2 bx by1 bx2 by2 bel bel0 bel1 hm hE hn hRR hbs hml hf
  go_enter Try.func139, Try.ntmps139
  go_upto_region 2 with fail
  have hs0 : W0.heap.size = b1 := by rw [← hW0, ← hb1, ← hb0]; simp
  rw [hs0, ← hs1, hW2]
  clear hs0 hW0 hW1 hW2 x0 x1 hs1 hb0 hb1 hpb
  by_cases g1 : 0 < bs
  · have d1 : decide ((0 : Int) < bs) = true := decide_eq_true g1
    have d2 : decide (bs ≤ s1) = false := decide_eq_false fun h => HE.out (.inl ⟨g1, h⟩)
    have g3 : ¬ 8000 < m := fun h => HE.out (.inr h)
    have d3 : decide ((8000 : Int) < (m : Int)) = false := by rw [decide_eq_false_iff_not]; omega
    have d3' : decide (8000 < m) = false := decide_eq_false g3
    have HRR := Lib.hid (HYes.out HE.out)
    have Hm8 := Lib.hid (show m ≤ 8000 by omega)
    have HY := Lib.hid y0
    have mf : m + 1 ≤ maxLen ∧ (m + 1) * 104 ≤ 140737488355328 := ⟨by unfold maxLen; omega, by omega⟩
    have Hmf := Lib.hid mf
    have ms : wrap64 ((m : Int) + 1 + 1) = (m : Int) + 2 := by simp only [wrap64]; omega
    have ms2 : IntKind.i64.wrap ((m : Int) + 1 + 1) = (m : Int) + 2 := by rw [IntKind.wrap_i64]; omega
    clear g3 HYes mf
    go_quiet (fail)
    obtain ⟨W3, hW3⟩ : ∃ W, W2.drewN nq = W := ⟨_, rfl⟩
    rw [hW3]
    have hb23 : Below W2.heap.size W2 W3 := by rw [← hW3]; exact ⟨rfl, rfl, rfl, Nat.le_refl _, fun _ _ => rfl⟩
    clear hW3 y0 y2 y4
    have B3 := Lib.hid hb23
    have Kp := Lib.hid (fun (V : World) (h : Below W3.heap.size W3 V) => sv_keep (w' := V) BX.out ((B3.out.trans (h.mono B3.out.size)).block b0 BX.out.lt))
    have hpW : p < W2.heap.size := HM2.out.lt p HM2.out.hp
    have HpW := Lib.hid hpW
    have Yp := Lib.hid (fun (V : World) (h : Below W3.heap.size W3 V) => show V.cell? ⟨p, 0, none⟩ = some (.slice A m c) from (cell_heap ((B3.out.trans (h.mono B3.out.size)).block p HpW.out)).trans HY.out)
    have hbc : Below W3.heap.size W3 W3.drew := (Below.refl _ _).drew
    have yp1 := Yp.out _ hbc
    have hnb : ∀ V, Below W3.heap.size W3 V → NdAt V V.heap.size (.agg #[.int .i64 k0, .slice A1 k1 c1, .slice A2 k2 c2, .slice A3 k3 c3, .slice A4 k4 c4]) n := fun V h => HNx.out V (C2.out.then_ (Chg.of_below X (B3.out.trans (h.mono B3.out.size))))
    have HBk := Lib.hid (fun (V : World) (h : Below W3.heap.size W3 V) => back_any (hnb V h) HFw.out)
    clear hb23 hpW hnb
    go_upto_region 4 with fail
    have hl1 : ldRow = Op.load 62 (.tmp 41) := rfl
    rw [← hl1]
    go_region_held3 (fun V => V.cell? ⟨b0, 0, none⟩ = some (.int .i64 k0) ∧ V.cell? ⟨b0, 1, none⟩ = some (.slice A1 k1 c1) ∧ V.cell? ⟨b0, 2, none⟩ = some (.slice A2 k2 c2) ∧ V.cell? ⟨b0, 3, none⟩ = some (.slice A3 k3 c3) ∧ V.cell? ⟨b0, 4, none⟩ = some (.slice A4 k4 c4)) (first | exact S9.out | exact S8.out | exact Kp.out _ B7.out | exact Kp.out _ hbc) (first
      | (go_at_call 26; ((with_reducible refine (HBk.out _ hbc).mono ?_); rintro e w4 ⟨v4, rfl, n4, b4⟩; have hbc := hbc.trans (b4.mono hbc.size); have N4 := Lib.hid n4; have yp4 := Yp.out _ hbc; clear n4 b4))
      | (go_at_call 20; ((with_reducible refine (node_new N4.out HFw.out).mono ?_); rintro e w5 ⟨v5, rfl, n5, b5⟩; (obtain ⟨D1, d1, D2, d2, D3, d3, D4, d4, e5, -⟩ := n5 w5 (Nat.le_refl _) fun _ _ _ => rfl); subst e5; have H4 := Lib.hid hbc; have H5 := Lib.hid b5; have hbc := hbc.trans (b5.mono hbc.size); have N5 := Lib.hid n5; have yp5 := Yp.out _ hbc; (obtain ⟨q1, e1'⟩ : ∃ k, k = n.ks.length := ⟨_, rfl⟩); (obtain ⟨q2, e2'⟩ : ∃ k, k = n.ps.length := ⟨_, rfl⟩); (obtain ⟨q3, e3'⟩ : ∃ k, k = n.gs.length := ⟨_, rfl⟩); (obtain ⟨q4, e4'⟩ : ∃ k, k = n.cs.length := ⟨_, rfl⟩); (obtain ⟨q0, e0'⟩ : ∃ k, k = n.h := ⟨_, rfl⟩); rw [← e0', ← e1', ← e2', ← e3', ← e4'] at N5 ⊢; clear e0' e1' e2' e3' e4'; have H7 := Lib.hid (below_alloc1 w5 (.cells #[.int .i64 q0, .slice D1 q1 d1, .slice D2 q2 d2, .slice D3 q3 d3, .slice D4 q4 d4] 35)); have B7 := Lib.hid (hbc.trans (H7.out.mono hbc.size)); have yp7 := Yp.out _ B7.out; clear n5 b5))
      | (refine step_append3 (base := 0) _ rfl (.tmp 42) (.tmp 46) _ rfl Try.underlying62 hli hlz hls hlb rfl (by decide) rfl (own_below HRow.out (B3.out.trans (B7.out.mono B3.out.size))) (m := 1) (news := [.int .i64 q0, .slice D1 q1 d1, .slice D2 q2 d2, .slice D3 q3 d3, .slice D4 q4 d4]) rfl rfl (by simp) (Nat.le_refl _) sl_five_ (by simp [Value.oneCell']) Hmf.out.1 Hmf.out.2 (Nat.zero_le _) ?_; intro v8 w8 h1 h2 h3; (obtain ⟨A', c', rfl⟩ := own_slice h1); have H8 := Lib.hid h2; have H8o := Lib.hid h1; have H8v := Lib.hid h3; have hB7 := B3.out.trans (B7.out.mono B3.out.size); have hp8 := sv_app hB7 h2 (fun e => (Hhr.out p e).2 rfl) HpW.out; have hq8 := sv_app hB7 h2 (fun e => by have h1 := Hlt.out.2.2.2 b0 (Hhr.out b0 e).1; have h2 := Hlt.out.2.2.1; omega) BX.out.lt; have hr8 := sv_app hB7 h2 (fun e => by have h1 := Hlt.out.2.2.2 b1 (Hhr.out b1 e).1; have h2 := Hlt.out.2.2.1; have h3 := Hlt.out.2.1; omega) BY.out.lt; have P8 := HM2.out.blk.keep hp8; have p8f : w8.frozen? ⟨p, 0, none⟩ = false := P8.frozen 0; have p8c : w8.cell? ⟨p, 0, none⟩ = some (.slice A m c) := (cell_heap hp8).trans HY.out; (obtain ⟨W9, hW9⟩ : ∃ W, w8.setCell ⟨p, 0, none⟩ (.slice A' (m + 1) c') = W := ⟨_, rfl⟩); have P9 := P8.set_ 0 (.slice A' (m + 1) c'); rw [hW9] at P9; have p9c : W9.cell? ⟨p, 0, none⟩ = some (.slice A' (m + 1) c') := P9.cell 0; have S8 := Lib.hid (sv_keep BX.out hq8); have S9 := Lib.hid (sv_keep (w' := W9) BX.out ((by rw [← hW9]; exact Below.heap_setCell _ _ _ _ (fun e => Hne.out.1 e.symm) : W9.heap[b0]? = w8.heap[b0]?).trans hq8)); have R9 := Lib.hid (BY.out.keep ((by rw [← hW9]; exact Below.heap_setCell _ _ _ _ (fun e => Hne.out.2 e.symm) : W9.heap[b1]? = w8.heap[b1]?).trans hr8)); clear h1 h2 h3 hB7 hp8 hq8 hr8 P8 P9))
    all_goals
      obtain ⟨t1, t2, t3, u1, u2, u3, ⟨f0, f1, f2⟩, ⟨z0, z1, z2⟩, r3, hc3⟩ := blk_st3 R9.out (.int .i64 ((m : Int) + 2)) (.int .i64 1) (.int .i64 7)
      have v0 : t3.cell? ⟨b1, 0, none⟩ = some (.int .i64 ((m : Int) + 2)) := r3.cell 0
      have v1 : t3.cell? ⟨b1, 1, none⟩ = some (.int .i64 1) := r3.cell 1
      have v2 : t3.cell? ⟨b1, 2, none⟩ = some (.int .i64 7) := r3.cell 2
      have HQ := Lib.hid (show SvQ p w X RR (.returned (.tuple #[Tr.kidV ((m : Int) + 2, 1, 7), .int .i64 0])) t3 from by
        have hM := MemR.more Hml.out HM2.out C2.out Hlt.out.2.2.2 ⟨by have := Hlt.out; omega, BY.out.lt⟩ (B3.out.trans (H4.out.mono B3.out.size)) H5.out N5.out HFw.out H7.out H8.out H8o.out H8v.out hW9 hc3 Hm8.out
        rw [HRR.out]
        exact ⟨_, hM.1, hM.2, ((m : Int) + 2, 1, 7), 0, rfl, rfl, by rw [← Hml.out]⟩)
      clear r3 hc3 hW9
      go_wp2_with fail
      refine bodyPost_ret (v := .tuple #[Tr.kidV ((m : Int) + 2, 1, 7), .int .i64 0]) ?_ rfl HQ.out
      simp [results, Try.results139]
      go_simp
      simp [Tr.kidV]
  · have d1 : decide ((0 : Int) < bs) = false := decide_eq_false g1
    have g3 : ¬ 8000 < m := fun h => HE.out (.inr h)
    have d3 : decide ((8000 : Int) < (m : Int)) = false := by rw [decide_eq_false_iff_not]; omega
    have d3' : decide (8000 < m) = false := decide_eq_false g3
    have HRR := Lib.hid (HYes.out HE.out)
    have Hm8 := Lib.hid (show m ≤ 8000 by omega)
    have HY := Lib.hid y0
    have mf : m + 1 ≤ maxLen ∧ (m + 1) * 104 ≤ 140737488355328 := ⟨by unfold maxLen; omega, by omega⟩
    have Hmf := Lib.hid mf
    have ms : wrap64 ((m : Int) + 1 + 1) = (m : Int) + 2 := by simp only [wrap64]; omega
    have ms2 : IntKind.i64.wrap ((m : Int) + 1 + 1) = (m : Int) + 2 := by rw [IntKind.wrap_i64]; omega
    clear g3 HYes mf
    go_quiet (fail)
    obtain ⟨W3, hW3⟩ : ∃ W, W2.drewN nq = W := ⟨_, rfl⟩
    rw [hW3]
    have hb23 : Below W2.heap.size W2 W3 := by rw [← hW3]; exact ⟨rfl, rfl, rfl, Nat.le_refl _, fun _ _ => rfl⟩
    clear hW3 y0 y2 y4
    have B3 := Lib.hid hb23
    have Kp := Lib.hid (fun (V : World) (h : Below W3.heap.size W3 V) => sv_keep (w' := V) BX.out ((B3.out.trans (h.mono B3.out.size)).block b0 BX.out.lt))
    have hpW : p < W2.heap.size := HM2.out.lt p HM2.out.hp
    have HpW := Lib.hid hpW
    have Yp := Lib.hid (fun (V : World) (h : Below W3.heap.size W3 V) => show V.cell? ⟨p, 0, none⟩ = some (.slice A m c) from (cell_heap ((B3.out.trans (h.mono B3.out.size)).block p HpW.out)).trans HY.out)
    have hbc : Below W3.heap.size W3 W3.drew := (Below.refl _ _).drew
    have yp1 := Yp.out _ hbc
    have hnb : ∀ V, Below W3.heap.size W3 V → NdAt V V.heap.size (.agg #[.int .i64 k0, .slice A1 k1 c1, .slice A2 k2 c2, .slice A3 k3 c3, .slice A4 k4 c4]) n := fun V h => HNx.out V (C2.out.then_ (Chg.of_below X (B3.out.trans (h.mono B3.out.size))))
    have HBk := Lib.hid (fun (V : World) (h : Below W3.heap.size W3 V) => back_any (hnb V h) HFw.out)
    clear hb23 hpW hnb
    go_upto_region 4 with fail
    have hl1 : ldRow = Op.load 62 (.tmp 41) := rfl
    rw [← hl1]
    go_region_held3 (fun V => V.cell? ⟨b0, 0, none⟩ = some (.int .i64 k0) ∧ V.cell? ⟨b0, 1, none⟩ = some (.slice A1 k1 c1) ∧ V.cell? ⟨b0, 2, none⟩ = some (.slice A2 k2 c2) ∧ V.cell? ⟨b0, 3, none⟩ = some (.slice A3 k3 c3) ∧ V.cell? ⟨b0, 4, none⟩ = some (.slice A4 k4 c4)) (first | exact S9.out | exact S8.out | exact Kp.out _ B7.out | exact Kp.out _ hbc) (first
      | (go_at_call 26; ((with_reducible refine (HBk.out _ hbc).mono ?_); rintro e w4 ⟨v4, rfl, n4, b4⟩; have hbc := hbc.trans (b4.mono hbc.size); have N4 := Lib.hid n4; have yp4 := Yp.out _ hbc; clear n4 b4))
      | (go_at_call 20; ((with_reducible refine (node_new N4.out HFw.out).mono ?_); rintro e w5 ⟨v5, rfl, n5, b5⟩; (obtain ⟨D1, d1, D2, d2, D3, d3, D4, d4, e5, -⟩ := n5 w5 (Nat.le_refl _) fun _ _ _ => rfl); subst e5; have H4 := Lib.hid hbc; have H5 := Lib.hid b5; have hbc := hbc.trans (b5.mono hbc.size); have N5 := Lib.hid n5; have yp5 := Yp.out _ hbc; (obtain ⟨q1, e1'⟩ : ∃ k, k = n.ks.length := ⟨_, rfl⟩); (obtain ⟨q2, e2'⟩ : ∃ k, k = n.ps.length := ⟨_, rfl⟩); (obtain ⟨q3, e3'⟩ : ∃ k, k = n.gs.length := ⟨_, rfl⟩); (obtain ⟨q4, e4'⟩ : ∃ k, k = n.cs.length := ⟨_, rfl⟩); (obtain ⟨q0, e0'⟩ : ∃ k, k = n.h := ⟨_, rfl⟩); rw [← e0', ← e1', ← e2', ← e3', ← e4'] at N5 ⊢; clear e0' e1' e2' e3' e4'; have H7 := Lib.hid (below_alloc1 w5 (.cells #[.int .i64 q0, .slice D1 q1 d1, .slice D2 q2 d2, .slice D3 q3 d3, .slice D4 q4 d4] 35)); have B7 := Lib.hid (hbc.trans (H7.out.mono hbc.size)); have yp7 := Yp.out _ B7.out; clear n5 b5))
      | (refine step_append3 (base := 0) _ rfl (.tmp 42) (.tmp 46) _ rfl Try.underlying62 hli hlz hls hlb rfl (by decide) rfl (own_below HRow.out (B3.out.trans (B7.out.mono B3.out.size))) (m := 1) (news := [.int .i64 q0, .slice D1 q1 d1, .slice D2 q2 d2, .slice D3 q3 d3, .slice D4 q4 d4]) rfl rfl (by simp) (Nat.le_refl _) sl_five_ (by simp [Value.oneCell']) Hmf.out.1 Hmf.out.2 (Nat.zero_le _) ?_; intro v8 w8 h1 h2 h3; (obtain ⟨A', c', rfl⟩ := own_slice h1); have H8 := Lib.hid h2; have H8o := Lib.hid h1; have H8v := Lib.hid h3; have hB7 := B3.out.trans (B7.out.mono B3.out.size); have hp8 := sv_app hB7 h2 (fun e => (Hhr.out p e).2 rfl) HpW.out; have hq8 := sv_app hB7 h2 (fun e => by have h1 := Hlt.out.2.2.2 b0 (Hhr.out b0 e).1; have h2 := Hlt.out.2.2.1; omega) BX.out.lt; have hr8 := sv_app hB7 h2 (fun e => by have h1 := Hlt.out.2.2.2 b1 (Hhr.out b1 e).1; have h2 := Hlt.out.2.2.1; have h3 := Hlt.out.2.1; omega) BY.out.lt; have P8 := HM2.out.blk.keep hp8; have p8f : w8.frozen? ⟨p, 0, none⟩ = false := P8.frozen 0; have p8c : w8.cell? ⟨p, 0, none⟩ = some (.slice A m c) := (cell_heap hp8).trans HY.out; (obtain ⟨W9, hW9⟩ : ∃ W, w8.setCell ⟨p, 0, none⟩ (.slice A' (m + 1) c') = W := ⟨_, rfl⟩); have P9 := P8.set_ 0 (.slice A' (m + 1) c'); rw [hW9] at P9; have p9c : W9.cell? ⟨p, 0, none⟩ = some (.slice A' (m + 1) c') := P9.cell 0; have S8 := Lib.hid (sv_keep BX.out hq8); have S9 := Lib.hid (sv_keep (w' := W9) BX.out ((by rw [← hW9]; exact Below.heap_setCell _ _ _ _ (fun e => Hne.out.1 e.symm) : W9.heap[b0]? = w8.heap[b0]?).trans hq8)); have R9 := Lib.hid (BY.out.keep ((by rw [← hW9]; exact Below.heap_setCell _ _ _ _ (fun e => Hne.out.2 e.symm) : W9.heap[b1]? = w8.heap[b1]?).trans hr8)); clear h1 h2 h3 hB7 hp8 hq8 hr8 P8 P9))
    all_goals
      obtain ⟨t1, t2, t3, u1, u2, u3, ⟨f0, f1, f2⟩, ⟨z0, z1, z2⟩, r3, hc3⟩ := blk_st3 R9.out (.int .i64 ((m : Int) + 2)) (.int .i64 1) (.int .i64 7)
      have v0 : t3.cell? ⟨b1, 0, none⟩ = some (.int .i64 ((m : Int) + 2)) := r3.cell 0
      have v1 : t3.cell? ⟨b1, 1, none⟩ = some (.int .i64 1) := r3.cell 1
      have v2 : t3.cell? ⟨b1, 2, none⟩ = some (.int .i64 7) := r3.cell 2
      have HQ := Lib.hid (show SvQ p w X RR (.returned (.tuple #[Tr.kidV ((m : Int) + 2, 1, 7), .int .i64 0])) t3 from by
        have hM := MemR.more Hml.out HM2.out C2.out Hlt.out.2.2.2 ⟨by have := Hlt.out; omega, BY.out.lt⟩ (B3.out.trans (H4.out.mono B3.out.size)) H5.out N5.out HFw.out H7.out H8.out H8o.out H8v.out hW9 hc3 Hm8.out
        rw [HRR.out]
        exact ⟨_, hM.1, hM.2, ((m : Int) + 2, 1, 7), 0, rfl, rfl, by rw [← Hml.out]⟩)
      clear r3 hc3 hW9
      go_wp2_with fail
      refine bodyPost_ret (v := .tuple #[Tr.kidV ((m : Int) + 2, 1, 7), .int .i64 0]) ?_ rfl HQ.out
      simp [results, Try.results139]
      go_simp
      simp [Tr.kidV]
end Go.Proofs.Ytlcchefiicalpaa
namespace Go.Proofs.Ytlcchefiicalpaa
open Go.RowKit
theorem mem_hL (p n : Nat) (w : World) : (method (n + 1) 61 (.pointer (some ⟨p, 0, none⟩)) "Load").run Try.prog w = .ok (138, .pointer (some ⟨p, 0, none⟩)) w := by kernel_rfl
theorem mem_hS (p n : Nat) (w : World) : (method (n + 1) 61 (.pointer (some ⟨p, 0, none⟩)) "Save").run Try.prog w = .ok (139, .pointer (some ⟨p, 0, none⟩)) w := by kernel_rfl
theorem mem_eL (l : Array Value) (w : World) : (callFunc 138 l).run Try.prog w = .ok (.enter 138 l) w := by kernel_rfl
theorem mem_eS (l : Array Value) (w : World) : (callFunc 139 l).run Try.prog w = .ok (.enter 139 l) w := by kernel_rfl
theorem msave_any {p : Nat} {w : World} {X : Nat → Prop} {st : Tr.MSt} {v : Value} {n : Nd.N} (hr : MRep p w X st) (hn : NdX X w v n) (hok : Nd.Ok n) :
    Calls Try.prog 139 #[.pointer (some ⟨p, 0, none⟩), v] w (SvQ p w X (Tr.mem.sv st n)) := by
  by_cases hE : (0 < st.bs ∧ st.bs ≤ wrap64 (st.sv + 1)) ∨ 8000 < st.L.length
  · exact msave_no hr hn hE
  · exact msave_yes hr hn hok hE
noncomputable def memI (p : Nat) : StoI Tr.MSt where
  S := Tr.mem
  t := 61
  v := .pointer (some ⟨p, 0, none⟩)
  fL := 138
  fS := 139
  rL := .pointer (some ⟨p, 0, none⟩)
  rS := .pointer (some ⟨p, 0, none⟩)
  Rep := MRep p
  hL := mem_hL p
  hS := mem_hS p
  eL := mem_eL
  eS := mem_eS
  lt := fun h hb => h.lt hb
  keep := fun h hc hd => h.keep hc hd
  err := fun h => by rw [mem_err h]; decide
  errS := fun h => by rw [mem_errS h]; decide
  load := fun hr k hk => mload_any hr k hk
  save := fun hr hn hok => msave_any hr hn hok
/-- A new memory. -/
theorem mrep_new (w : World) : MRep w.heap.size (w.alloc (.cells #[.slice none 0 0, .int .i64 0, .int .i64 0, .int .i64 0, .int .i64 0] 64)) (fun b => b = w.heap.size) ⟨[], 0, 0, 0, 0⟩ :=
  ⟨none, 0, [], ⟨Blk.new _ _ _, World.ownsRow_nil _ _ _ _, rfl, (fun b e => by cases e), rfl, (fun v h => by cases h), (fun i v n h => by cases h), fun b hb => by
    have : b = w.heap.size := hb
    subst this
    simp, Nat.zero_le _⟩⟩
end Go.Proofs.Ytlcchefiicalpaa
