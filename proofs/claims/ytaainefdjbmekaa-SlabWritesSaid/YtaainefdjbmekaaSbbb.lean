/- slices.Insert at runs. -/
import Derived.Test.YtaainefdjbmekaaSbba
import Derived.Deep.RegionLaw
namespace Go.Proofs.Ytaainefdjbmekaa
open Go.RowKit
theorem rcs_one (l : List (Nat × Nat)) : ∀ u ∈ rcs l, u.oneCell' = true := by
  induction l with
  | nil => intro u hu; cases hu
  | cons r l ih =>
    intro u hu
    rw [rcs] at hu
    rcases List.mem_cons.1 hu with rfl | hu
    · rfl
    rcases List.mem_cons.1 hu with rfl | hu
    · rfl
    · exact ih u hu
/-- What a call that may write into block g and makes a row of B's own leaves. -/
def RepR (B g n : Nat) (xs : List Value) (w : World) (e : Ending) (w' : World) : Prop := ∃ v, e = .returned v ∧ w'.ownsRow B 33 2 v n xs ∧ w.grownBy w' (some g) ∧ (v.ownBlock = some g ∨ v.ownBlock = some w.heap.size)
theorem grownBy_setRow {w w' : World} {g : Nat} (h : w.grownBy w' (some g)) (cs : Array Value) : w.grownBy (w'.setRow g cs) (some g) :=
  ⟨h.os, h.tape, h.output, by simpa using h.size, fun k hk hne => (setRow_other w' g k cs (fun e => hne (by rw [e]))).trans (h.block k hk hne)⟩
theorem grownBy_setNew {w w' : World} {g b : Nat} (h : w.grownBy w' (some g)) (hb : w.heap.size ≤ b) (cs : Array Value) : w.grownBy (w'.setRow b cs) (some g) :=
  ⟨h.os, h.tape, h.output, by simpa using h.size, fun k hk hne => (setRow_other w' b k cs (by omega)).trans (h.block k hk hne)⟩
theorem grownBy_drew {w w' : World} {r : Option Nat} (h : w.grownBy w' r) : w.grownBy w'.drew r := ⟨h.os, h.tape, h.output, h.size, h.block⟩
theorem own_parts {w : World} {B g n c size : Nat} {e : TypeId} {xs : List Value} (h : w.ownsRow B e size (.slice (some ⟨g, 0, none⟩) n c) n xs) :
    ∃ C : List Value, B ≤ g ∧ w.heap[g]? = some (.cells C.toArray e (0, 0)) ∧ n ≤ c ∧ c ≤ maxLen ∧ C.length = c * size ∧ C.take (n * size) = xs ∧ xs.length = n * size := by
  rcases h.2 with ⟨h', -⟩ | ⟨g', c', cur, h', hB, hg, h1, h2, h3, h4⟩
  · cases h'
  · injection h' with h1' _ h3'
    injection h1' with h1'
    injection h1' with h1'
    subst h1'; subst h3'
    exact ⟨cur.toList, hB, by simpa using hg, h1, h2, by simpa using h3, h4, h.1⟩
theorem own_make {w : World} {B g n c size : Nat} {e : TypeId} {C xs : List Value} (hB : B ≤ g) (hg : w.heap[g]? = some (.cells C.toArray e (0, 0))) (h1 : n ≤ c) (h2 : c ≤ maxLen) (h3 : C.length = c * size) (h4 : C.take (n * size) = xs) :
    w.ownsRow B e size (.slice (some ⟨g, 0, none⟩) n c) n xs :=
  ⟨by rw [← h4, List.length_take, h3, Nat.min_eq_left (Nat.mul_le_mul_right _ h1)], .inr ⟨g, c, C.toArray, rfl, hB, hg, h1, h2, by simpa using h3, by simpa using h4⟩⟩
theorem own_slW {w : World} {B n c size : Nat} {e : TypeId} {A : Option Addr} {xs : List Value} (h : w.ownsRow B e size (.slice A n c) n xs) : Sl w w.heap.size A xs := by
  rcases h.2 with ⟨h', h0⟩ | ⟨g, cap, cur, h', hg, hg2, hc1, hc2, hc3, hc4⟩
  · have := h.1
    subst h0
    exact .inl (List.eq_nil_of_length_eq_zero (by simpa using this))
  · injection h' with hA _ hc
    subst hA
    subst hc
    have hl := h.1
    refine .inr ⟨g, 0, rfl, (h.lt g rfl).2, fun i hi => ?_⟩
    rw [Nat.zero_add, h.cellAt i (by omega), List.getElem?_eq_getElem]
theorem sl_cellsW {w : World} {g o : Nat} {C cs : List Value} {e : TypeId} (hg : w.heap[g]? = some (.cells C.toArray e (0, 0))) (h : ∀ i (hi : i < cs.length), C[o + i]? = some cs[i]) (hlt : g < w.heap.size) : Sl w w.heap.size (some ⟨g, o, none⟩) cs :=
  .inr ⟨g, o, rfl, hlt, fun i hi => by rw [cell_of_row w g (o + i) C.toArray e (0, 0) hg]; simpa using h i hi⟩
theorem heap_lt {w : World} {g : Nat} {o : Obj} (h : w.heap[g]? = some o) : g < w.heap.size := by
  rcases Nat.lt_or_ge g w.heap.size with h' | h'
  · exact h'
  · rw [Array.getElem?_eq_none h'] at h; cases h
section
variable {w : World} {B g n c i vb m vc Bv : Nat} {xs vs : List Value}
set_option maxRecDepth 8000 in
set_option maxHeartbeats 8000000 in
theorem ins_end (h : w.ownsRow B 33 2 (.slice (some ⟨g, 0, none⟩) n c) n xs) (hv : w.ownsRow Bv 33 2 (.slice (some ⟨vb, 0, none⟩) m vc) m vs) (hm : 1 ≤ m) (hv1 : ∀ u ∈ vs, u.oneCell' = true) (hbig : n + m ≤ 100000) :
    Calls Try.prog 93 #[.slice (some ⟨g, 0, none⟩) n c, .int .i64 (n : Int), .slice (some ⟨vb, 0, none⟩) m vc] w (RepR B g (n + m) (xs ++ vs) w) := by
  obtain ⟨i0, hi0, hz0, hs0, hb0⟩ := run_parts
  have hB : B ≤ w.heap.size := Nat.le_trans (h.lt g rfl).1 (Nat.le_of_lt (h.lt g rfl).2)
  have hnc := own_len h
  have hmc := own_len hv
  have hsl := Lib.hid (own_slW hv)
  have hvl := Lib.hid hv.1
  have H := Lib.hid h
  have e1 := fun w' => run_fromW (P := Try.prog) Try.underlying31 hi0 hs0 (some ⟨g, 0, none⟩) n c n (Nat.le_refl _) w'
  have hz1 : ¬ ((m : Int) = 0) := by omega
  have hz1' : ((m : Int) == 0) = false := by rw [beq_eq_false_iff_ne]; omega
  have hz2' : ((n : Int) == (n : Int)) = true := by rw [beq_iff_eq]
  clear h hv
  go_enter Try.func93, Try.ntmps93
  go_wp2_with (at_builtin; refine wpList_append_sls (base := B) _ rfl (.tmp 23) (.tmp 24) _ rfl Try.underlying31 hi0 hz0 hs0 hb0 rfl (by decide) rfl H.out rfl hvl.out (by simp) hmc hsl.out hv1 (by unfold maxLen; omega) (by omega) hB ?_; intro v8 w8 k1 k2 k3; have K1 := Lib.hid k1; have K2 := Lib.hid k2; have K3 := Lib.hid k3; clear k1 k2 k3)
  go_ret
  exact ⟨_, rfl, K1.out, K2.out, K3.out⟩
/-- The model's entry for slices.overlaps at two rows in two blocks. -/
theorem run_apart {w : World} {a b : Addr} {Ca Cb : Array Value} (ha : w.heap[a.block]? = some (.cells Ca 33 (0, 0))) (hb : w.heap[b.block]? = some (.cells Cb 33 (0, 0))) (hne : a.block ≠ b.block) (hz : Cb.size ≠ 0) (l1 c1 l2 c2 : Nat) :
    (callFunc 94 #[.slice (some a) l1 c1, .slice (some b) l2 c2]).run Try.prog w = .ok (.value (.bool false)) w := by
  rw [run_callFunc_extern Try.func94 (by kernel_rfl) (by kernel_rfl) (by kernel_rfl) (e := Extern.SlicesOverlaps.overlaps #[31, 31] #[4]) (by kernel_rfl),
    Lib.run_overlaps_apart w 31 4 33 Try.underlying31 2 Try.sizeOf33 a b l1 c1 l2 c2 hne 33 33 Ca.size Cb.size (by unfold World.shape?; rw [ha]) (by unfold World.shape?; rw [hb]) hz (by unfold World.frozen?; rw [ha]; simp) (by unfold World.frozen?; rw [ha]; simp)]
  rfl
theorem int_i64 (k : Nat) (h : k ≤ 1000000) : IntKind.i64.wrap (k : Int) = (k : Int) := by rw [IntKind.wrap_i64]; omega
set_option maxRecDepth 8000 in
set_option maxHeartbeats 8000000 in
theorem ins_grow (h : w.ownsRow B 33 2 (.slice (some ⟨g, 0, none⟩) n c) n xs) (hv : w.ownsRow Bv 33 2 (.slice (some ⟨vb, 0, none⟩) m vc) m vs) (hm : 1 ≤ m) (hi : i < n) (hx1 : ∀ u ∈ xs, u.oneCell' = true) (hv1 : ∀ u ∈ vs, u.oneCell' = true) (hbig : n + m ≤ 100000) (hno : c < n + m) :
    Calls Try.prog 93 #[.slice (some ⟨g, 0, none⟩) n c, .int .i64 (i : Int), .slice (some ⟨vb, 0, none⟩) m vc] w (RepR B g (n + m) (xs.take (i * 2) ++ vs ++ xs.drop (i * 2)) w) := by
  obtain ⟨i0, hi0, hz0, hs0, hb0⟩ := run_parts
  have hBw : B ≤ w.heap.size := Nat.le_trans (h.lt g rfl).1 (Nat.le_of_lt (h.lt g rfl).2)
  have hgw : g < w.heap.size := (h.lt g rfl).2
  have hvw : vb < w.heap.size := (hv.lt vb rfl).2
  obtain ⟨C, hB, hC, hnc, hcm, hCl, hCt, hxl⟩ := own_parts h
  obtain ⟨V, -, hV, hmc, -, hVl, hVt, hvl⟩ := own_parts hv
  obtain ⟨p, hp⟩ : ∃ p, p = n + m := ⟨_, rfl⟩
  obtain ⟨q, hq⟩ : ∃ q, q = i + m := ⟨_, rfl⟩
  obtain ⟨k, hk⟩ : ∃ k, k = p - i := ⟨_, rfl⟩
  obtain ⟨r, hr⟩ : ∃ r, r = n - i := ⟨_, rfl⟩
  obtain ⟨gs, hgs⟩ : ∃ gs, gs = w.heap.size := ⟨_, rfl⟩
  obtain ⟨ys, hys⟩ : ∃ ys, ys = xs.drop (i * 2) := ⟨_, rfl⟩
  have hyl : ys.length = r * 2 := by rw [hys, List.length_drop, hxl, hr]; omega
  -- append of zeros
  obtain ⟨G, hG⟩ : ∃ G, G = grownCap w p c 33 := ⟨_, rfl⟩
  obtain ⟨R, hR⟩ : ∃ R : List Value, R = ((xs.take (i * 2)).toArray ++ Builtin.zeroCells (Value.agg #[.int .i64 0, .int .i64 0]).cells k ++ Builtin.zeroCells (Value.agg #[.int .i64 0, .int .i64 0]).cells (G - p)).toList := ⟨_, rfl⟩
  obtain ⟨W1, hW1⟩ : ∃ W1, W1 = w.drew.alloc (.cells R.toArray 33) := ⟨_, rfl⟩
  have hGp : p ≤ G := by rw [hG]; exact grownCap_ge w _ _ _
  have hGm : G ≤ maxLen := by rw [hG]; exact grownCap_le_maxLen w p c 33 (by unfold maxLen; omega)
  have hzc : (Value.agg #[.int .i64 0, .int .i64 0]).cells.size = 2 := rfl
  have hRl : R.length = G * 2 := by
    rw [hR]
    rw [Array.length_toList, Array.size_append, Array.size_append, size_zeroCells, size_zeroCells, hzc, List.size_toArray, List.length_take, hxl]
    omega
  have hRt : R.take (i * 2) = xs.take (i * 2) := by
    rw [hR]
    simp only [Array.toList_append]
    rw [List.append_assoc, List.take_append_of_le_length (by simp; omega), List.take_take, Nat.min_self]
  have a1 : ∀ ty, (Builtin.append_ #[31, 3] ty #[.slice (some ⟨g, 0, none⟩) i c, .int .i64 (k : Int)]).run Try.prog w = .ok (.slice (some ⟨gs, 0, none⟩) p G) W1 := fun ty => by
    have hold : (Builtin.firstCells i0.size i (.slice (some ⟨g, 0, none⟩) i c)).run Try.prog w.drew = .ok (xs.take (i * 2)).toArray w.drew := by
      rw [hs0]
      exact run_firstCells_some w.drew 2 i ⟨g, 0, none⟩ i c (xs.take (i * 2)) (by rw [List.length_take, hxl]; omega) (fun j v hj => by
        rw [Addr.add_lit, Nat.zero_add]
        rw [List.getElem?_take] at hj
        split at hj
        · exact (h.cellAt j (by omega)).trans hj
        · cases hj)
    have h := Lib.run_append_grow_zeros w 31 3 ty 33 i0 _ .i64 .i64 Try.underlying31 Try.underlying3 hi0 hz0 (some ⟨g, 0, none⟩) i c (xs.take (i * 2)) hold k (by omega) (by omega) (by omega) (by omega) (by rw [hb0]; omega) (by rw [hb0]; exact growslice_fits (by omega) (by omega))
    rw [show i + k = p by omega, ← hG, ← hgs] at h
    rw [h, hW1, hR]
  have hW1g : W1.heap[gs]? = some (.cells R.toArray 33 (0, 0)) := by rw [hW1, hgs]; exact heap_alloc_new w.drew _
  have hW1o : ∀ b, b < w.heap.size → W1.heap[b]? = w.heap[b]? := fun b hb => by rw [hW1]; exact Below.heap_alloc w.drew _ b hb
  have hW1G : w.grownBy W1 (some g) := by rw [hW1]; exact ⟨rfl, rfl, rfl, by simp, fun b hb _ => Below.heap_alloc w.drew _ b hb⟩
  -- v copied
  obtain ⟨W2, hW2⟩ : ∃ W2, W2 = W1.setRow gs (splice R (i * 2) vs).toArray := ⟨_, rfl⟩
  have hsp : (splice R (i * 2) vs).length = G * 2 := by rw [splice_len _ _ _ (by omega), hRl]
  have b1 : ∀ ty, (Builtin.copy_ #[31, 31] ty #[.slice (cutW (some ⟨gs, 0, none⟩) G i 2) k (G - i), .slice (some ⟨vb, 0, none⟩) m vc]).run Try.prog W1 = .ok (goInt m) W2 := fun ty => by
    rw [hW2]
    exact run_copyW Try.underlying31 hi0 hs0 hW1g (by simp only [Nat.min_def]; split <;> omega) hvl (fun _ => cutW_at _ _ _ _ (by omega))
      (sl_cellsW (w := W1) (g := vb) (o := 0) (C := V) (hW1o vb hvw ▸ hV) (fun j hj => by rw [Nat.zero_add, ← List.getElem?_eq_getElem, ← hVt, List.getElem?_take, if_pos (by omega)]) (by rw [hW1]; show vb < (w.drew.alloc _).heap.size; simp; exact Nat.lt_succ_of_lt hvw)) (by omega) hv1 ty
  have hW2g : W2.heap[gs]? = some (.cells (splice R (i * 2) vs).toArray 33 (0, 0)) := by rw [hW2]; exact setRow_heap W1 gs _ _ _ _ hW1g
  have hW2o : ∀ b, b < w.heap.size → W2.heap[b]? = w.heap[b]? := fun b hb => by rw [hW2, setRow_other W1 gs b _ (by omega)]; exact hW1o b hb
  have hW2G : w.grownBy W2 (some g) := by rw [hW2]; exact grownBy_setNew hW1G (by omega) _
  have hW2s : w.heap.size < W2.heap.size := by rw [hW2, hW1]; simp
  -- the rest copied
  obtain ⟨W3, hW3⟩ : ∃ W3, W3 = W2.drew.setRow gs (splice (splice R (i * 2) vs) (q * 2) ys).toArray := ⟨_, rfl⟩
  have c1 : ∀ ty, (Builtin.copy_ #[31, 31] ty #[.slice (cutW (some ⟨gs, 0, none⟩) G q 2) r (G - q), .slice (cutW (some ⟨g, 0, none⟩) c i 2) r (c - i)]).run Try.prog W2.drew = .ok (goInt r) W3 := fun ty => by
    rw [hW3]
    exact run_copyW (w := W2.drew) Try.underlying31 hi0 hs0 hW2g (by simp) hyl (fun _ => cutW_at _ _ _ _ (by omega))
      (by
        rw [cutW_at _ _ _ _ (by omega)]
        exact sl_cellsW (w := W2.drew) (g := g) (o := i * 2) (C := C) (hW2o g hgw ▸ hC) (fun j hj => by rw [← List.getElem?_eq_getElem, hys, List.getElem?_drop, ← hCt, List.getElem?_take, if_pos (by omega)]) (Nat.lt_trans hgw hW2s)) (by omega) (fun u hu => hx1 u (by rw [hys] at hu; exact List.mem_of_mem_drop hu)) ty
  have Fin := Lib.hid (show RepR B g p (xs.take (i * 2) ++ vs ++ ys) w (.returned (.slice (some ⟨gs, 0, none⟩) p G)) W3 from by
    refine ⟨_, rfl, own_make (C := splice (splice R (i * 2) vs) (q * 2) ys) (by omega) (by rw [hW3]; exact setRow_heap W2.drew gs _ _ _ _ hW2g) hGp hGm (by rw [splice_len _ _ _ (by omega), hsp]) ?_, ?_, .inr (by rw [hgs]; rfl)⟩
    · have := splice_up R vs ys (i * 2) (m * 2) hvl (by omega)
      rw [show i * 2 + m * 2 = q * 2 by omega, show q * 2 + ys.length = p * 2 by omega, hRt] at this
      exact this
    · rw [hW3]; exact grownBy_setNew (grownBy_drew hW2G) (by omega) _)
  rw [← hp, ← hys]
  have e1 := fun w' => run_fromW (P := Try.prog) Try.underlying31 hi0 hs0 (some ⟨g, 0, none⟩) n c i (by omega) w'
  rw [← hr] at e1
  have e2 := fun w' => run_slice_to (P := Try.prog) Try.underlying31 hi0 (some ⟨g, 0, none⟩) n c i (by omega) w'
  have e3 := fun w' => run_fromW (P := Try.prog) Try.underlying31 hi0 hs0 (some ⟨gs, 0, none⟩) p G i (by omega) w'
  rw [← hk] at e3
  have e4 := fun w' => run_fromW (P := Try.prog) Try.underlying31 hi0 hs0 (some ⟨gs, 0, none⟩) p G q (by omega) w'
  rw [show p - q = r by omega] at e4
  have hz1 : ¬ ((m : Int) = 0) := by omega
  have hz1' : ((m : Int) == 0) = false := by rw [beq_eq_false_iff_ne]; omega
  have hz2 : ¬ ((i : Int) = (n : Int)) := by omega
  have hz2' : ((i : Int) == (n : Int)) = false := by rw [beq_eq_false_iff_ne]; omega
  have s1 : (n : Int) + (m : Int) = (p : Int) := by omega
  have s2 : (p : Int) - (i : Int) = (k : Int) := by omega
  have s3 : (i : Int) + (m : Int) = (q : Int) := by omega
  have s3w : IntKind.i64.wrap ((i : Int) + (m : Int)) = (q : Int) := by rw [s3]; exact int_i64 q (by omega)
  have q3 : decide ((c : Int) < (p : Int)) = true := by rw [decide_eq_true_eq]; omega
  have q3' : decide (c < p) = true := by rw [decide_eq_true_eq]; omega
  have bp : p ≤ 100000 := by omega
  have bq : q ≤ 100000 := by omega
  have bk : k ≤ 100000 := by omega
  have A1 := Lib.hid a1
  clear a1 h hv hm hi hx1 hv1 hbig hno hBw hgw hvw hB hC hnc hcm hCl hCt hxl hV hmc hVl hVt hvl hp hq hk hr hgs hys hyl hG hR hW1 hGp hGm hzc hRl hRt hW1g hW1o hW1G hW2 hsp hW2g hW2o hW2G hW2s hW3
  go_enter Try.func93, Try.ntmps93
  go_wp2_with (at_builtin; refine wpList_app_run _ rfl _ _ _ _ rfl rfl rfl (A1.out _) ?_)
  go_region
  go_wp2_with fail
  go_ret
  exact Fin.out
set_option maxRecDepth 8000 in
set_option maxHeartbeats 8000000 in
theorem ins_shift (h : w.ownsRow B 33 2 (.slice (some ⟨g, 0, none⟩) n c) n xs) (hv : w.ownsRow Bv 33 2 (.slice (some ⟨vb, 0, none⟩) m vc) m vs) (hne : vb ≠ g) (hm : 1 ≤ m) (hi : i < n) (hx1 : ∀ u ∈ xs, u.oneCell' = true) (hv1 : ∀ u ∈ vs, u.oneCell' = true) (hbig : n + m ≤ 100000) (hno : n + m ≤ c) :
    Calls Try.prog 93 #[.slice (some ⟨g, 0, none⟩) n c, .int .i64 (i : Int), .slice (some ⟨vb, 0, none⟩) m vc] w (RepR B g (n + m) (xs.take (i * 2) ++ vs ++ xs.drop (i * 2)) w) := by
  obtain ⟨i0, hi0, hz0, hs0, hb0⟩ := run_parts
  have hgw : g < w.heap.size := (h.lt g rfl).2
  have hvw : vb < w.heap.size := (hv.lt vb rfl).2
  obtain ⟨C, hB, hC, hnc, hcm, hCl, hCt, hxl⟩ := own_parts h
  obtain ⟨V, -, hV, hmc, -, hVl, hVt, hvl⟩ := own_parts hv
  obtain ⟨p, hp⟩ : ∃ p, p = n + m := ⟨_, rfl⟩
  obtain ⟨q, hq⟩ : ∃ q, q = i + m := ⟨_, rfl⟩
  obtain ⟨k, hk⟩ : ∃ k, k = p - i := ⟨_, rfl⟩
  obtain ⟨r, hr⟩ : ∃ r, r = n - i := ⟨_, rfl⟩
  obtain ⟨ys, hys⟩ : ∃ ys, ys = xs.drop (i * 2) := ⟨_, rfl⟩
  have hyl : ys.length = r * 2 := by rw [hys, List.length_drop, hxl, hr]; omega
  have ov : (callFunc 94 #[.slice (some ⟨vb, 0, none⟩) m vc, .slice (cutW (some ⟨g, 0, none⟩) c q 2) r (c - q)]).run Try.prog w = .ok (.value (.bool false)) w := by
    rw [cutW_at _ _ _ _ (by omega)]
    exact run_apart hV hC hne (by rw [List.size_toArray]; omega) _ _ _ _
  obtain ⟨W2, hW2⟩ : ∃ W2, W2 = w.drew.setRow g (splice C (q * 2) ys).toArray := ⟨_, rfl⟩
  have hsp : (splice C (q * 2) ys).length = c * 2 := by rw [splice_len _ _ _ (by omega), hCl]
  have b1 : ∀ ty, (Builtin.copy_ #[31, 31] ty #[.slice (cutW (some ⟨g, 0, none⟩) c q 2) r (c - q), .slice (cutW (some ⟨g, 0, none⟩) c i 2) k (c - i)]).run Try.prog w.drew = .ok (goInt r) W2 := fun ty => by
    rw [hW2]
    exact run_copyW (w := w.drew) Try.underlying31 hi0 hs0 hC (by simp only [Nat.min_def]; split <;> omega) hyl (fun _ => cutW_at _ _ _ _ (by omega))
      (by
        rw [cutW_at _ _ _ _ (by omega)]
        exact sl_cellsW (w := w.drew) (g := g) (o := i * 2) (C := C) hC (fun j hj => by rw [← List.getElem?_eq_getElem, hys, List.getElem?_drop, ← hCt, List.getElem?_take, if_pos (by omega)]) hgw) (by omega) (fun u hu => hx1 u (by rw [hys] at hu; exact List.mem_of_mem_drop hu)) ty
  have hW2g : W2.heap[g]? = some (.cells (splice C (q * 2) ys).toArray 33 (0, 0)) := by rw [hW2]; exact setRow_heap w.drew g _ _ _ _ hC
  have hW2v : W2.heap[vb]? = some (.cells V.toArray 33 (0, 0)) := by rw [hW2, setRow_other w.drew g vb _ hne]; exact hV
  have hW2G : w.grownBy W2 (some g) := by rw [hW2]; exact grownBy_setRow (grownBy_drew (World.grownBy.refl w _)) _
  obtain ⟨W3, hW3⟩ : ∃ W3, W3 = W2.setRow g (splice (splice C (q * 2) ys) (i * 2) vs).toArray := ⟨_, rfl⟩
  have c1 : ∀ ty, (Builtin.copy_ #[31, 31] ty #[.slice (cutW (some ⟨g, 0, none⟩) c i 2) k (c - i), .slice (some ⟨vb, 0, none⟩) m vc]).run Try.prog W2 = .ok (goInt m) W3 := fun ty => by
    rw [hW3]
    exact run_copyW Try.underlying31 hi0 hs0 hW2g (by simp only [Nat.min_def]; split <;> omega) hvl (fun _ => cutW_at _ _ _ _ (by omega))
      (sl_cellsW (w := W2) (g := vb) (o := 0) (C := V) hW2v (fun j hj => by rw [Nat.zero_add, ← List.getElem?_eq_getElem, ← hVt, List.getElem?_take, if_pos (by omega)]) (heap_lt hW2v)) (by omega) hv1 ty
  have Fin := Lib.hid (show RepR B g p (xs.take (i * 2) ++ vs ++ ys) w (.returned (.slice (some ⟨g, 0, none⟩) p c)) W3 from by
    refine ⟨_, rfl, own_make (C := splice (splice C (q * 2) ys) (i * 2) vs) hB (by rw [hW3]; exact setRow_heap W2 g _ _ _ _ hW2g) (by omega) hcm (by rw [splice_len _ _ _ (by omega), hsp]) ?_, ?_, .inl rfl⟩
    · have := splice_down C vs ys (i * 2) (m * 2) hvl (by omega)
      rw [show i * 2 + m * 2 = q * 2 by omega, show q * 2 + ys.length = p * 2 by omega] at this
      rw [this, ← hCt, List.take_take, Nat.min_eq_left (by omega)]
    · rw [hW3]; exact grownBy_setRow hW2G _)
  rw [← hp, ← hys]
  have e1 := fun w' => run_fromW (P := Try.prog) Try.underlying31 hi0 hs0 (some ⟨g, 0, none⟩) n c i (by omega) w'
  rw [← hr] at e1
  have e2 := fun w' => run_slice_to (P := Try.prog) Try.underlying31 hi0 (some ⟨g, 0, none⟩) n c p (by omega) w'
  have e3 := fun w' => run_fromW (P := Try.prog) Try.underlying31 hi0 hs0 (some ⟨g, 0, none⟩) p c i (by omega) w'
  rw [← hk] at e3
  have e4 := fun w' => run_fromW (P := Try.prog) Try.underlying31 hi0 hs0 (some ⟨g, 0, none⟩) p c q (by omega) w'
  rw [show p - q = r by omega] at e4
  have hz1 : ¬ ((m : Int) = 0) := by omega
  have hz1' : ((m : Int) == 0) = false := by rw [beq_eq_false_iff_ne]; omega
  have hz2 : ¬ ((i : Int) = (n : Int)) := by omega
  have hz2' : ((i : Int) == (n : Int)) = false := by rw [beq_eq_false_iff_ne]; omega
  have s1 : (n : Int) + (m : Int) = (p : Int) := by omega
  have s2 : (p : Int) - (i : Int) = (k : Int) := by omega
  have s3 : (i : Int) + (m : Int) = (q : Int) := by omega
  have s3w : IntKind.i64.wrap ((i : Int) + (m : Int)) = (q : Int) := by rw [s3]; exact int_i64 q (by omega)
  have q3 : decide ((c : Int) < (p : Int)) = false := by rw [decide_eq_false_iff_not]; omega
  have q3' : decide (c < p) = false := by rw [decide_eq_false_iff_not]; omega
  have bp : p ≤ 100000 := by omega
  have bq : q ≤ 100000 := by omega
  have bk : k ≤ 100000 := by omega
  clear h hv hne hm hi hx1 hv1 hbig hno hgw hvw hB hC hnc hcm hCl hCt hxl hV hmc hVl hVt hvl hp hq hk hr hys hyl hW2 hsp hW2g hW2v hW2G hW3
  go_enter Try.func93, Try.ntmps93
  go_wp2_with fail
  go_region
  go_wp2_with fail
  go_ret
  exact Fin.out
/-- slices.Insert at runs. -/
theorem insert_any (h : w.ownsRow B 33 2 (.slice (some ⟨g, 0, none⟩) n c) n xs) (hv : w.ownsRow Bv 33 2 (.slice (some ⟨vb, 0, none⟩) m vc) m vs) (hne : vb ≠ g) (hm : 1 ≤ m) (hi : i ≤ n) (hx1 : ∀ u ∈ xs, u.oneCell' = true) (hv1 : ∀ u ∈ vs, u.oneCell' = true) (hbig : n + m ≤ 100000) :
    Calls Try.prog 93 #[.slice (some ⟨g, 0, none⟩) n c, .int .i64 (i : Int), .slice (some ⟨vb, 0, none⟩) m vc] w (RepR B g (n + m) (xs.take (i * 2) ++ vs ++ xs.drop (i * 2)) w) := by
  by_cases h1 : i = n
  · subst h1
    have e : xs.take (i * 2) ++ vs ++ xs.drop (i * 2) = xs ++ vs := by rw [List.take_of_length_le (by rw [h.1]; exact Nat.le_refl _), List.drop_of_length_le (by rw [h.1]; exact Nat.le_refl _), List.append_nil]
    rw [e]
    exact ins_end h hv hm hv1 hbig
  · by_cases h2 : c < n + m
    · exact ins_grow h hv hm (by omega) hx1 hv1 hbig h2
    · exact ins_shift h hv hne hm (by omega) hx1 hv1 hbig (by omega)
end
end Go.Proofs.Ytaainefdjbmekaa
