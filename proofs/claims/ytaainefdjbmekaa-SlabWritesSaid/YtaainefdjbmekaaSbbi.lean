/- The program's map of free blocks: Give. -/
import Derived.Test.YtaainefdjbmekaaSbbh
import Derived.Deep.RegionHeldLaw
namespace Go.Proofs.Ytaainefdjbmekaa
open Go.RowKit
section
variable {w : World} {g gb N c a n q : Nat} {X : Nat → Prop} {F : List Bool} {v : Value}
/-- What Give has seen so far, and what the map lies in. -/
structure GvS (w : World) (g gb N c : Nat) (X : Nat → Prop) (F : List Bool) (a n q : Nat) : Prop where
  rep : RepV w g X F (.slice (some ⟨gb, 0, none⟩) N c)
  len : N = (Rn.list F).length
  nb : 1 ≤ n
  fit : a + n ≤ F.length
  pos : q = Rn.bh (Rn.list F) (a : Int)
theorem GvS.few (h : GvS w g gb N c X F a n q) : F.length ≤ 8192 ∧ N ≤ 8192 ∧ q ≤ N := by
  have h1 := h.rep.few
  have h2 := list_len F
  have h3 := Rn.bh_le (Rn.list F) (a : Int)
  rw [h.len, h.pos]
  omega
theorem GvS.cells (h : GvS w g gb N c X F a n q) (W : World) (hb : Below w.heap.size w W) {i : Nat} (hi : i < N) : W.cell? ⟨g, 1, none⟩ = some (.slice (some ⟨gb, 0, none⟩) N c) ∧ W.cell? ⟨gb, i * 2, none⟩ = some (.int .i64 (((Rn.list F).getD i (0, 0)).1 : Int)) ∧ W.cell? ⟨gb, i * 2 + 1, none⟩ = some (.int .i64 (((Rn.list F).getD i (0, 0)).2 : Int)) := by
  have h0 : RepV W g X F (.slice (some ⟨gb, 0, none⟩) N c) := h.rep.keep fun b hx => hb.block b (h.rep.lt hx)
  have hrow := h0.row
  obtain ⟨gl, c', h', -, -, hcell, -⟩ := ownR_at hrow (by rw [← h.len]; omega)
  injection h' with h1 h2 h3
  injection h1 with h1
  injection h1 with h1
  subst h1
  have := hcell i (by rw [← h.len]; exact hi)
  exact ⟨h0.blk.cell 1, this.1, this.2⟩
/-- A run of the list: its bounds. -/
theorem GvS.run (h : GvS w g gb N c X F a n q) {i : Nat} (hi : i < N) : 1 ≤ ((Rn.list F).getD i (0, 0)).2 ∧ ((Rn.list F).getD i (0, 0)).1 + ((Rn.list F).getD i (0, 0)).2 ≤ 8192 := by
  have hlt : i < (Rn.list F).length := by rw [← h.len]; exact hi
  have := list_b h.rep.few ((Rn.list F).getD i (0, 0)) (by rw [List.getD_eq_getElem?_getD, List.getElem?_eq_getElem hlt]; exact List.getElem_mem _)
  exact this
/-- What lies ahead begins no later, what lies behind begins later. -/
theorem GvS.cut (h : GvS w g gb N c X F a n q) : (∀ i, i < q → ((Rn.list F).getD i (0, 0)).1 ≤ a) ∧ ∀ i, q ≤ i → i < N → a < ((Rn.list F).getD i (0, 0)).1 := by
  obtain ⟨h1, h2⟩ := Rn.bh_cut (Rn.good_list F).sep (a : Int)
  rw [← h.pos] at h1 h2
  have hq := h.few
  have at_ : ∀ t (ht : t < (Rn.list F).length), (Rn.list F).getD t (0, 0) = (Rn.list F)[t] := fun t ht => by rw [List.getD_eq_getElem?_getD, List.getElem?_eq_getElem ht]; rfl
  refine ⟨fun i hi => ?_, fun i hi hiN => ?_⟩
  · have hlt : i < (Rn.list F).length := by rw [← h.len]; omega
    rw [at_ i hlt]
    have := h1 (Rn.list F)[i] (List.mem_iff_getElem.2 ⟨i, by rw [List.length_take]; omega, by rw [List.getElem_take]⟩)
    omega
  · have hlt : i < (Rn.list F).length := by rw [← h.len]; omega
    rw [at_ i hlt]
    have := h2 (Rn.list F)[i] (List.mem_iff_getElem.2 ⟨i - q, by rw [List.length_drop]; omega, by rw [List.getElem_drop]; congr 1; omega⟩)
    omega
theorem GvS.sorted (h : GvS w g gb N c X F a n q) {i j : Nat} (hij : i < j) (hj : j < N) : ((Rn.list F).getD i (0, 0)).1 + ((Rn.list F).getD i (0, 0)).2 < ((Rn.list F).getD j (0, 0)).1 := by
  have at_ : ∀ t (ht : t < (Rn.list F).length), (Rn.list F).getD t (0, 0) = (Rn.list F)[t] := fun t ht => by rw [List.getD_eq_getElem?_getD, List.getElem?_eq_getElem ht]; rfl
  have h1 : i < (Rn.list F).length := by rw [← h.len]; omega
  have h2 : j < (Rn.list F).length := by rw [← h.len]; omega
  rw [at_ i h1, at_ j h2]
  exact (List.pairwise_iff_getElem.1 (Rn.good_list F).sep) i j h1 h2 hij
/-- The end: the runs from one place to another give way to one. -/
theorem GvS.done (h : GvS w g gb N c X F a n q) {i j s e : Nat} (hiq : i ≤ q) (hqj : q ≤ j) (hjN : j ≤ N) (hi : i = q ∨ i + 1 = q) (hj : j = q ∨ j = q + 1)
    (h1 : ∀ t, t < i → ((Rn.list F).getD t (0, 0)).1 + ((Rn.list F).getD t (0, 0)).2 < s) (h2 : ∀ t, j ≤ t → t < N → e < ((Rn.list F).getD t (0, 0)).1)
    (hs : if i = q then s = a else s = ((Rn.list F).getD i (0, 0)).1 ∧ ((Rn.list F).getD i (0, 0)).1 + ((Rn.list F).getD i (0, 0)).2 = a)
    (he : if j = q then e = a + n else ((Rn.list F).getD q (0, 0)).1 = a + n ∧ e = ((Rn.list F).getD q (0, 0)).1 + ((Rn.list F).getD q (0, 0)).2) :
    Rn.give F (a : Int) (n : Int) = (true, Rn.setN F a true n) ∧ Rn.list (Rn.setN F a true n) = (Rn.list F).take i ++ [(s, e - s)] ++ (Rn.list F).drop j := by
  have hlen := h.len
  have hfew := h.few
  have hfit := h.fit
  have at_ : ∀ t (ht : t < (Rn.list F).length), (Rn.list F).getD t (0, 0) = (Rn.list F)[t] := fun t ht => by rw [List.getD_eq_getElem?_getD, List.getElem?_eq_getElem ht]; rfl
  obtain ⟨mid1, hm1, hL1⟩ : ∃ mid1, (∀ x, Rn.In mid1 x ↔ s ≤ x ∧ x < a) ∧ (Rn.list F).take q = (Rn.list F).take i ++ mid1 := by
    rcases hi with rfl | hi
    · rw [if_pos rfl] at hs
      exact ⟨[], fun x => ⟨fun h => absurd h Rn.in_nil, fun h => by omega⟩, by rw [List.append_nil]⟩
    · rw [if_neg (by omega)] at hs
      have hlt : i < (Rn.list F).length := by omega
      refine ⟨[(Rn.list F)[i]], fun x => ?_, by rw [← hi, List.take_succ_eq_append_getElem hlt]⟩
      rw [Rn.in_one, ← at_ i hlt]
      omega
  obtain ⟨mid2, hm2, hL2⟩ : ∃ mid2, (∀ x, Rn.In mid2 x ↔ a + n ≤ x ∧ x < e) ∧ (Rn.list F).drop q = mid2 ++ (Rn.list F).drop j := by
    rcases hj with rfl | hj
    · rw [if_pos rfl] at he
      exact ⟨[], fun x => ⟨fun h => absurd h Rn.in_nil, fun h => by omega⟩, rfl⟩
    · rw [if_neg (by omega)] at he
      have hlt : q < (Rn.list F).length := by omega
      refine ⟨[(Rn.list F)[q]], fun x => ?_, by rw [hj, List.drop_eq_getElem_cons hlt]; rfl⟩
      rw [Rn.in_one, ← at_ q hlt]
      omega
  have hsa : s ≤ a := by
    by_cases hiq' : i = q
    · rw [if_pos hiq'] at hs; omega
    · rw [if_neg hiq'] at hs; omega
  have hae : a + n ≤ e := by
    by_cases hjq : j = q
    · rw [if_pos hjq] at he; omega
    · rw [if_neg hjq] at he; omega
  have hef : e ≤ F.length := by
    by_cases hjq : j = q
    · rw [if_pos hjq] at he; omega
    · rw [if_neg hjq] at he
      have hlt : q < (Rn.list F).length := by omega
      have := Rn.list_end F ((Rn.list F)[q]) (List.getElem_mem _)
      rw [← at_ q hlt] at this
      omega
  refine Rn.give_at h.nb hfit (mid1 := mid1) (mid2 := mid2) (by
    rw [← List.append_assoc, ← hL1, List.append_assoc, ← hL2, List.take_append_drop]) (fun r hr => ?_) (fun r hr => ?_) hsa hae hm1 hm2 hef
  · obtain ⟨t, ht, rfl⟩ := List.mem_iff_getElem.1 hr
    rw [List.length_take] at ht
    have := h1 t (by omega)
    rw [at_ t (by omega)] at this
    rw [List.getElem_take]
    exact this
  · obtain ⟨t, ht, rfl⟩ := List.mem_iff_getElem.1 hr
    rw [List.length_drop] at ht
    have := h2 (j + t) (by omega) (by omega)
    rw [at_ (j + t) (by omega)] at this
    rw [List.getElem_drop]
    exact this
set_option maxHeartbeats 1000000 in
/-- The last step: slices.Replace, and what storing its answer makes. -/
theorem GvS.rep20 (h : GvS w g gb N c X F a n q) {Wc : World} (hb : Below w.heap.size w Wc) (i j s l : Nat) (hij : i ≤ j) (hjN : j ≤ N) :
    Calls Try.prog 77 #[.slice (some ⟨gb, 0, none⟩) N c, .int .i64 (i : Int), .int .i64 (j : Int), .slice (some ⟨Wc.heap.size, 0, none⟩) 1 1] (Wc.drew.alloc (.cells #[.int .i64 (s : Int), .int .i64 (l : Int)] 33)) fun e w' =>
      ∃ A' p c', e = .returned (.slice A' p c') ∧ w'.cell? ⟨g, 1, none⟩ = some (.slice (some ⟨gb, 0, none⟩) N c) ∧ w'.frozen? ⟨g, 1, none⟩ = false ∧
        ∀ F', Rn.list F' = (Rn.list F).take i ++ [(s, l)] ++ (Rn.list F).drop j → F'.length = F.length → OpR RepP g X F' w (w'.setCell ⟨g, 1, none⟩ (.slice A' p c')) := by
  obtain ⟨Wb, hWb⟩ : ∃ Wb, Wb = Wc.drew.alloc (.cells #[.int .i64 (s : Int), .int .i64 (l : Int)] 33) := ⟨_, rfl⟩
  have hbd : Below w.heap.size w Wc.drew := hb.drew
  have hbb : Below w.heap.size w Wb := by rw [hWb]; exact hbd.alloc hb.size _
  have hgw := h.rep.blk.lt
  have hgb : gb < w.heap.size := (h.rep.row.lt gb rfl).2
  have hne : gb ≠ g := h.rep.ne_ rfl
  have hlen := h.len
  have hrow0 : OwnR Wb 0 (.slice (some ⟨gb, 0, none⟩) N c) (Rn.list F) := own_keep h.rep.row fun b _ hlt => hbb.block b hlt
  have hrow : Wb.ownsRow 0 33 2 (.slice (some ⟨gb, 0, none⟩) N c) N (rcs (Rn.list F)) := by
    unfold OwnR at hrow0
    rw [← hlen] at hrow0
    exact hrow0
  have hv : Wb.ownsRow 0 33 2 (.slice (some ⟨Wc.heap.size, 0, none⟩) 1 1) 1 (rcs [(s, l)]) := by
    rw [hWb]
    exact World.ownsRow_lit (base := 0) (e := 33) (size := 2) Wc.drew #[.int .i64 (s : Int), .int .i64 (l : Int)] 1 (Nat.zero_le _) (by unfold maxLen; omega) rfl
  have hbg : (Value.slice (some ⟨Wc.heap.size, 0, none⟩) 1 1).ownBlock ≠ some gb := fun e => by
    injection e with e
    have e : Wc.heap.size = gb := e
    have := hb.size
    omega
  have hN9 : N + 1 ≤ 100000 := by have := h.few; omega
  have NR := replace_any (w := Wb) (B := 0) (g := gb) (n := N) (c := c) (i := i) (j := j) (m := 1) (vs := rcs [(s, l)]) hrow hv hbg hij hjN (fun _ => Nat.le_refl _) (rcs_one _) (rcs_one _) hN9
  rw [← hWb]
  refine NR.mono ?_
  rintro e w' ⟨v', rfl, k1, k2, k3⟩
  obtain ⟨A', c', rfl⟩ := own_slice k1
  refine ⟨A', _, c', rfl, k2.cell ((hbb.cell (p := ⟨g, 1, none⟩) hgw).trans (h.rep.blk.cell 1)) (fun e => hne (by injection e with e; exact e.symm)), ((h.rep.blk.keep (hbb.block g hgw)).grown k2 (fun e => hne (by injection e))).frozen 1, fun F' hF' hl => ?_⟩
  have hlF : (Rn.list F').length = i + 1 + (N - j) := by rw [hF']; simp; omega
  refine put_fin h.rep hbb ?_ k2 k3 hl
  unfold OwnR
  rw [hlF, hF', rcs_app, rcs_app]
  rw [rcs_take, rcs_drop] at k1
  exact k1
end
end Go.Proofs.Ytaainefdjbmekaa
