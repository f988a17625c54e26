/- slices.Replace at runs. -/
import Derived.Test.YtaainefdjbmekaaSbbb
namespace Go.Proofs.Ytaainefdjbmekaa
open Go.RowKit
section
variable {w : World} {B g n c i j m vc Bv : Nat} {A : Option Addr} {xs vs : List Value}
set_option maxRecDepth 16000 in
set_option maxHeartbeats 16000000 in
/-- Nothing is taken out: slices.Insert. -/
theorem rep_ins {zs : List Value} (h : w.ownsRow B 33 2 (.slice (some ⟨g, 0, none⟩) n c) n xs) (hi : i ≤ n) (hI : Calls Try.prog 93 #[.slice (some ⟨g, 0, none⟩) n c, .int .i64 (i : Int), .slice A m vc] w (RepR B g (n + m) zs w)) :
    Calls Try.prog 77 #[.slice (some ⟨g, 0, none⟩) n c, .int .i64 (i : Int), .int .i64 (i : Int), .slice A m vc] w (RepR B g (n + m) zs w) := by
  obtain ⟨i0, hi0, hz0, hs0, hb0⟩ := run_parts
  have hnc := own_len h
  have e1 := fun w' => run_midW (P := Try.prog) Try.underlying31 hi0 hs0 (some ⟨g, 0, none⟩) n c i i (Nat.le_refl _) (by omega) w'
  have hz1 : ((i : Int) == (i : Int)) = true := by rw [beq_iff_eq]
  have HI := Lib.hid hI
  clear h hi hI
  go_enter Try.func77, Try.ntmps77
  go_wp2_with fail
  refine HI.out.mono ?_
  rintro e w1 ⟨v, rfl, k1, k2, k3⟩
  have K1 := Lib.hid k1
  have K2 := Lib.hid k2
  have K3 := Lib.hid k3
  clear k1 k2 k3 HI
  go_wp2_with fail
  go_ret
  exact ⟨_, rfl, K1.out, K2.out, K3.out⟩
set_option maxRecDepth 16000 in
set_option maxHeartbeats 16000000 in
/-- The end is taken out, and what comes instead is no shorter. -/
theorem rep_end (h : w.ownsRow B 33 2 (.slice (some ⟨g, 0, none⟩) n c) n xs) (hv : w.ownsRow Bv 33 2 (.slice A m vc) m vs) (hi : i < n) (hv1 : ∀ u ∈ vs, u.oneCell' = true) (hbig : n + m ≤ 100000) (hno : n ≤ i + m) :
    Calls Try.prog 77 #[.slice (some ⟨g, 0, none⟩) n c, .int .i64 (i : Int), .int .i64 (n : Int), .slice A m vc] w (RepR B g (i + m) (xs.take (i * 2) ++ vs) w) := by
  obtain ⟨i0, hi0, hz0, hs0, hb0⟩ := run_parts
  have hBw : B ≤ w.heap.size := Nat.le_trans (h.lt g rfl).1 (Nat.le_of_lt (h.lt g rfl).2)
  obtain ⟨C, hB, hC, hnc, hcm, hCl, hCt, hxl⟩ := own_parts h
  have hmc := own_len hv
  have hnil := Lib.hid (own_none hv)
  have hsl := Lib.hid (own_slW hv)
  have hvl := Lib.hid hv.1
  obtain ⟨q, hq⟩ : ∃ q, i + m = q := ⟨_, rfl⟩
  have H := Lib.hid (show w.ownsRow B 33 2 (.slice (some ⟨g, 0, none⟩) i c) i (xs.take (i * 2)) from own_make hB hC (by omega) hcm hCl (by rw [← hCt, List.take_take, Nat.min_eq_left (by omega)]))
  have e1 := fun w' => run_midW (P := Try.prog) Try.underlying31 hi0 hs0 (some ⟨g, 0, none⟩) n c i n (by omega) (by omega) w'
  have e2 := fun w' => run_slice_to (P := Try.prog) Try.underlying31 hi0 (some ⟨g, 0, none⟩) n c i (by omega) w'
  have hz1 : ((i : Int) == (n : Int)) = false := by rw [beq_eq_false_iff_ne]; omega
  have hz1' : ¬ ((i : Int) = (n : Int)) := by omega
  have hz2 : ((n : Int) == (n : Int)) = true := by rw [beq_iff_eq]
  have q1 : decide ((q : Int) < (n : Int)) = false := by rw [decide_eq_false_iff_not]; omega
  have q1' : decide (q < n) = false := by rw [decide_eq_false_iff_not]; omega
  have hq5 : q ≤ 100000 := by omega
  have Hq := Lib.hid hq
  rw [hq]
  have him : i + m ≤ maxLen ∧ (i + m) * 16 ≤ 140737488355328 := by unfold maxLen; omega
  clear h hv hi hbig hno hB hC hnc hcm hCl hCt hxl hq
  go_enter Try.func77, Try.ntmps77
  go_wp2_with (at_builtin; refine wpList_append_sls (base := B) _ rfl (.tmp 32) (.tmp 33) _ rfl Try.underlying31 hi0 hz0 hs0 hb0 rfl (by decide) rfl H.out rfl hvl.out hnil.out hmc hsl.out hv1 him.1 him.2 hBw ?_; intro v8 w8 k1 k2 k3; rw [Hq.out] at k1; have K1 := Lib.hid k1; have K2 := Lib.hid k2; have K3 := Lib.hid k3; clear k2 k3; obtain ⟨A8, c8, rfl⟩ := own_slice k1; clear k1)
  go_ret
  exact ⟨_, rfl, K1.out, K2.out, K3.out⟩
set_option maxRecDepth 16000 in
set_option maxHeartbeats 16000000 in
/-- The end is taken out, and what comes instead is shorter. -/
theorem rep_short (h : w.ownsRow B 33 2 (.slice (some ⟨g, 0, none⟩) n c) n xs) (hv : w.ownsRow Bv 33 2 (.slice A m vc) m vs) (hi : i < n) (hv1 : ∀ u ∈ vs, u.oneCell' = true) (hbig : n + m ≤ 100000) (hno : i + m < n) :
    Calls Try.prog 77 #[.slice (some ⟨g, 0, none⟩) n c, .int .i64 (i : Int), .int .i64 (n : Int), .slice A m vc] w (RepR B g (i + m) (xs.take (i * 2) ++ vs) w) := by
  obtain ⟨i0, hi0, hz0, hs0, hb0⟩ := run_parts
  obtain ⟨C, hB, hC, hnc, hcm, hCl, hCt, hxl⟩ := own_parts h
  have hnil := own_none hv
  have hmc := own_len hv
  have hvl := hv.1
  obtain ⟨q, hq⟩ : ∃ q, i + m = q := ⟨_, rfl⟩
  obtain ⟨W1, hW1⟩ : ∃ W1, W1 = w.setRow g (splice C (i * 2) vs).toArray := ⟨_, rfl⟩
  have hsp : (splice C (i * 2) vs).length = c * 2 := by rw [splice_len _ _ _ (by omega), hCl]
  have a1 : ∀ ty, (Builtin.append_ #[31, 31] ty #[.slice (some ⟨g, 0, none⟩) i c, .slice A m vc]).run Try.prog w = .ok (.slice (some ⟨g, 0, none⟩) q c) W1 := fun ty => by
    rw [hW1, ← hq]
    exact run_appendW Try.underlying31 hi0 hs0 hC hvl (fun h => by have := hnil h; omega) (own_slW hv) hv1 (by omega) (by omega) ty
  have hW1g : W1.heap[g]? = some (.cells (splice C (i * 2) vs).toArray 33 (0, 0)) := by rw [hW1]; exact setRow_heap w g _ _ _ _ hC
  obtain ⟨Z, hZ⟩ : ∃ Z : List Value, Z = (Builtin.zeroCells (Value.agg #[.int .i64 0, .int .i64 0]).cells (n - q)).toList := ⟨_, rfl⟩
  have hZl : Z.length = (n - q) * 2 := by rw [hZ, zeros_len]; rfl
  obtain ⟨W2, hW2⟩ : ∃ W2, W2 = W1.setRow g (splice (splice C (i * 2) vs) (q * 2) Z).toArray := ⟨_, rfl⟩
  have b1 : ∀ ty, (Builtin.clear_ #[31] ty #[.slice (cutW (some ⟨g, 0, none⟩) c q 2) (n - q) (c - q)]).run Try.prog W1 = .ok (.tuple #[]) W2 := fun ty => by
    rw [hW2, hZ]
    exact run_clearW (size := 2) Try.underlying31 hi0 hz0 rfl (by decide) hW1g (fun _ => cutW_at _ _ _ _ (by omega)) (by omega) ty
  have Fin := Lib.hid (show RepR B g q (xs.take (i * 2) ++ vs) w (.returned (.slice (some ⟨g, 0, none⟩) q c)) W2 from by
    refine ⟨_, rfl, own_make (C := splice (splice C (i * 2) vs) (q * 2) Z) hB (by rw [hW2]; exact setRow_heap W1 g _ _ _ _ hW1g) (by omega) hcm (by rw [splice_len _ _ _ (by omega), hsp]) ?_, ?_, .inl rfl⟩
    · rw [splice_take _ _ _ _ (Nat.le_refl _) (by omega)]
      have := splice_end C vs (i * 2) (by omega)
      rw [show i * 2 + vs.length = q * 2 by omega] at this
      rw [this, ← hCt, List.take_take, Nat.min_eq_left (by omega)]
    · rw [hW2, hW1]; exact grownBy_setRow (grownBy_setRow (World.grownBy.refl w _) _) _)
  rw [hq]
  have e1 := fun w' => run_midW (P := Try.prog) Try.underlying31 hi0 hs0 (some ⟨g, 0, none⟩) n c i n (by omega) (by omega) w'
  have e2 := fun w' => run_slice_to (P := Try.prog) Try.underlying31 hi0 (some ⟨g, 0, none⟩) n c i (by omega) w'
  have e3 := fun w' => run_fromW (P := Try.prog) Try.underlying31 hi0 hs0 (some ⟨g, 0, none⟩) n c q (by omega) w'
  have hz1 : ((i : Int) == (n : Int)) = false := by rw [beq_eq_false_iff_ne]; omega
  have hz1' : ¬ ((i : Int) = (n : Int)) := by omega
  have hz2 : ((n : Int) == (n : Int)) = true := by rw [beq_iff_eq]
  have q1 : decide ((q : Int) < (n : Int)) = true := by rw [decide_eq_true_eq]; omega
  have q1' : decide (q < n) = true := by rw [decide_eq_true_eq]; omega
  have hq5 : q ≤ 100000 := by omega
  have A1 := Lib.hid a1
  clear a1 h hv hi hv1 hbig hno hB hC hnc hcm hCl hCt hxl hnil hmc hvl hq hW1 hsp hW1g hZ hZl hW2
  go_enter Try.func77, Try.ntmps77
  go_wp2_with (at_builtin; refine wpList_app_run _ rfl _ _ _ _ rfl rfl rfl (A1.out _) ?_)
  go_ret
  exact Fin.out
set_option maxRecDepth 16000 in
set_option maxHeartbeats 16000000 in
/-- A middle taken out, what comes instead is no longer: in place. -/
theorem rep_less (h : w.ownsRow B 33 2 (.slice (some ⟨g, 0, none⟩) n c) n xs) (hv : w.ownsRow Bv 33 2 (.slice A m vc) m vs) (hi : i < j) (hj : j < n) (hx1 : ∀ u ∈ xs, u.oneCell' = true) (hv1 : ∀ u ∈ vs, u.oneCell' = true) (hbig : n + m ≤ 100000) (hno : i + m ≤ j) :
    Calls Try.prog 77 #[.slice (some ⟨g, 0, none⟩) n c, .int .i64 (i : Int), .int .i64 (j : Int), .slice A m vc] w (RepR B g (i + m + (n - j)) (xs.take (i * 2) ++ vs ++ xs.drop (j * 2)) w) := by
  obtain ⟨i0, hi0, hz0, hs0, hb0⟩ := run_parts
  have hgw : g < w.heap.size := (h.lt g rfl).2
  have hBw : B ≤ w.heap.size := Nat.le_trans (h.lt g rfl).1 (Nat.le_of_lt hgw)
  obtain ⟨C, hB, hC, hnc, hcm, hCl, hCt, hxl⟩ := own_parts h
  have hmc := own_len hv
  have hvl := hv.1
  have hvs := own_slW hv
  obtain ⟨q, hq⟩ : ∃ q, q = i + m := ⟨_, rfl⟩
  obtain ⟨r, hr⟩ : ∃ r, r = n - j := ⟨_, rfl⟩
  obtain ⟨t, ht⟩ : ∃ t, t = q + r := ⟨_, rfl⟩
  obtain ⟨k, hk⟩ : ∃ k, k = t - i := ⟨_, rfl⟩
  obtain ⟨ys, hys⟩ : ∃ ys, ys = xs.drop (j * 2) := ⟨_, rfl⟩
  have hyl : ys.length = r * 2 := by rw [hys, List.length_drop, hxl, hr]; omega
  have hy1 : ∀ u ∈ ys, u.oneCell' = true := fun u hu => hx1 u (by rw [hys] at hu; exact List.mem_of_mem_drop hu)
  obtain ⟨W2, hW2⟩ : ∃ W2, W2 = w.drew.setRow g (splice C (i * 2) vs).toArray := ⟨_, rfl⟩
  have hsp : (splice C (i * 2) vs).length = c * 2 := by rw [splice_len _ _ _ (by omega), hCl]
  have b1 : ∀ ty, (Builtin.copy_ #[31, 31] ty #[.slice (cutW (some ⟨g, 0, none⟩) c i 2) k (c - i), .slice A m vc]).run Try.prog w.drew = .ok (goInt m) W2 := fun ty => by
    rw [hW2]
    exact run_copyW (w := w.drew) Try.underlying31 hi0 hs0 hC (by simp only [Nat.min_def]; split <;> omega) hvl (fun _ => cutW_at _ _ _ _ (by omega)) (B := w.heap.size) hvs (by omega) hv1 ty
  have hW2g : W2.heap[g]? = some (.cells (splice C (i * 2) vs).toArray 33 (0, 0)) := by rw [hW2]; exact setRow_heap w.drew g _ _ _ _ hC
  have hW2G : w.grownBy W2 (some g) := by rw [hW2]; exact grownBy_setRow (grownBy_drew (World.grownBy.refl w _)) _
  obtain ⟨W3, hW3⟩ : ∃ W3, W3 = W2.drew.setRow g (splice (splice C (i * 2) vs) (q * 2) ys).toArray := ⟨_, rfl⟩
  have hsp3 : (splice (splice C (i * 2) vs) (q * 2) ys).length = c * 2 := by rw [splice_len _ _ _ (by omega), hsp]
  have c1 : ∀ ty, (Builtin.copy_ #[31, 31] ty #[.slice (cutW (some ⟨g, 0, none⟩) c q 2) r (c - q), .slice (cutW (some ⟨g, 0, none⟩) c j 2) r (c - j)]).run Try.prog W2.drew = .ok (goInt r) W3 := fun ty => by
    rw [hW3]
    exact run_copyW (w := W2.drew) Try.underlying31 hi0 hs0 hW2g (by simp) hyl (fun _ => cutW_at _ _ _ _ (by omega))
      (by
        rw [cutW_at _ _ _ _ (by omega)]
        exact sl_cellsW (w := W2.drew) (g := g) (o := j * 2) hW2g (fun x hx => by
          rw [← List.getElem?_eq_getElem, hys, List.getElem?_drop, ← hCt, List.getElem?_take, if_pos (by omega)]
          unfold splice
          rw [← List.append_assoc, List.getElem?_append_right (by simp; omega), List.getElem?_drop]
          congr 1
          simp; omega) (heap_lt hW2g)) (by omega) hy1 ty
  have hW3g : W3.heap[g]? = some (.cells (splice (splice C (i * 2) vs) (q * 2) ys).toArray 33 (0, 0)) := by rw [hW3]; exact setRow_heap W2.drew g _ _ _ _ hW2g
  obtain ⟨Z, hZ⟩ : ∃ Z : List Value, Z = (Builtin.zeroCells (Value.agg #[.int .i64 0, .int .i64 0]).cells (n - t)).toList := ⟨_, rfl⟩
  have hZl : Z.length = (n - t) * 2 := by rw [hZ, zeros_len]; rfl
  obtain ⟨W4, hW4⟩ : ∃ W4, W4 = W3.setRow g (splice (splice (splice C (i * 2) vs) (q * 2) ys) (t * 2) Z).toArray := ⟨_, rfl⟩
  have d1 : ∀ ty, (Builtin.clear_ #[31] ty #[.slice (cutW (some ⟨g, 0, none⟩) c t 2) (n - t) (c - t)]).run Try.prog W3 = .ok (.tuple #[]) W4 := fun ty => by
    rw [hW4, hZ]
    exact run_clearW (size := 2) Try.underlying31 hi0 hz0 rfl (by decide) hW3g (fun _ => cutW_at _ _ _ _ (by omega)) (by omega) ty
  have Fin := Lib.hid (show RepR B g t (xs.take (i * 2) ++ vs ++ ys) w (.returned (.slice (some ⟨g, 0, none⟩) t c)) W4 from by
    refine ⟨_, rfl, own_make (C := splice (splice (splice C (i * 2) vs) (q * 2) ys) (t * 2) Z) hB (by rw [hW4]; exact setRow_heap W3 g _ _ _ _ hW3g) (by omega) hcm (by rw [splice_len _ _ _ (by omega), hsp3]) ?_, ?_, .inl rfl⟩
    · rw [splice_take _ _ _ _ (Nat.le_refl _) (by omega)]
      have := splice_up C vs ys (i * 2) (m * 2) hvl (by omega)
      rw [show i * 2 + m * 2 = q * 2 by omega, show q * 2 + ys.length = t * 2 by omega] at this
      rw [this, ← hCt, List.take_take, Nat.min_eq_left (by omega)]
    · rw [hW4, hW3]; exact grownBy_setRow (grownBy_setRow (grownBy_drew hW2G) _) _)
  rw [show i + m + (n - j) = t by omega, ← hys]
  have e1 := fun w' => run_midW (P := Try.prog) Try.underlying31 hi0 hs0 (some ⟨g, 0, none⟩) n c i j (by omega) (by omega) w'
  have e2 := fun w' => run_slice_to (P := Try.prog) Try.underlying31 hi0 (some ⟨g, 0, none⟩) n c i (by omega) w'
  have e3 := fun w' => run_fromW (P := Try.prog) Try.underlying31 hi0 hs0 (some ⟨g, 0, none⟩) n c j (by omega) w'
  rw [← hr] at e3
  have hz1 : ((i : Int) == (j : Int)) = false := by rw [beq_eq_false_iff_ne]; omega
  have hz1' : ¬ ((i : Int) = (j : Int)) := by omega
  have hz2 : ((j : Int) == (n : Int)) = false := by rw [beq_eq_false_iff_ne]; omega
  have hz2' : ¬ ((j : Int) = (n : Int)) := by omega
  have s1 : (i : Int) + (m : Int) = (q : Int) := by omega
  have s1w : IntKind.i64.wrap ((i : Int) + (m : Int)) = (q : Int) := by rw [s1]; exact int_i64 q (by omega)
  have s2 : (q : Int) + (r : Int) = (t : Int) := by omega
  have s2w : IntKind.i64.wrap ((q : Int) + (r : Int)) = (t : Int) := by rw [s2]; exact int_i64 t (by omega)
  have s3 : (t : Int) - (i : Int) = (k : Int) := by omega
  have bq : q ≤ 100000 := by omega
  have bt : t ≤ 100000 := by omega
  have bk : k ≤ 100000 := by omega
  have e4 := fun w' => run_slice_to (P := Try.prog) Try.underlying31 hi0 (some ⟨g, 0, none⟩) n c t (by omega) w'
  have e5 := fun w' => run_fromW (P := Try.prog) Try.underlying31 hi0 hs0 (some ⟨g, 0, none⟩) t c i (by omega) w'
  rw [← hk] at e5
  have e6 := fun w' => run_fromW (P := Try.prog) Try.underlying31 hi0 hs0 (some ⟨g, 0, none⟩) t c q (by omega) w'
  rw [show t - q = r by omega] at e6
  have e7 := fun w' => run_fromW (P := Try.prog) Try.underlying31 hi0 hs0 (some ⟨g, 0, none⟩) n c t (by omega) w'
  have q1 : decide ((c : Int) < (t : Int)) = false := by rw [decide_eq_false_iff_not]; omega
  have q1' : decide (c < t) = false := by rw [decide_eq_false_iff_not]; omega
  have q2 : decide ((q : Int) ≤ (j : Int)) = true := by rw [decide_eq_true_eq]; omega
  have q2' : decide (q ≤ j) = true := by rw [decide_eq_true_eq]; omega
  clear h hv hi hj hx1 hv1 hbig hno hgw hBw hB hC hnc hcm hCl hCt hxl hmc hvl hvs hq hr ht hk hys hyl hy1 hW2 hsp hW2g hW2G hW3 hsp3 hW3g hZ hZl hW4
  go_enter Try.func77, Try.ntmps77
  go_wp2_with fail
  go_region
  go_wp2_with fail
  go_region
  go_wp2_with fail
  go_ret
  exact Fin.out
set_option maxRecDepth 16000 in
set_option maxHeartbeats 16000000 in
/-- A middle taken out, what comes instead is longer: in place. -/
theorem rep_more (h : w.ownsRow B 33 2 (.slice (some ⟨g, 0, none⟩) n c) n xs) (hv : w.ownsRow Bv 33 2 (.slice A m vc) m vs) (hne : (Value.slice A m vc).ownBlock ≠ some g) (hi : i < j) (hj : j < n) (hx1 : ∀ u ∈ xs, u.oneCell' = true) (hv1 : ∀ u ∈ vs, u.oneCell' = true) (hbig : n + m ≤ 100000) (hno : j < i + m) (hc : i + m + (n - j) ≤ c) :
    Calls Try.prog 77 #[.slice (some ⟨g, 0, none⟩) n c, .int .i64 (i : Int), .int .i64 (j : Int), .slice A m vc] w (RepR B g (i + m + (n - j)) (xs.take (i * 2) ++ vs ++ xs.drop (j * 2)) w) := by
  obtain ⟨i0, hi0, hz0, hs0, hb0⟩ := run_parts
  have hgw : g < w.heap.size := (h.lt g rfl).2
  have hBw : B ≤ w.heap.size := Nat.le_trans (h.lt g rfl).1 (Nat.le_of_lt hgw)
  obtain ⟨C, hB, hC, hnc, hcm, hCl, hCt, hxl⟩ := own_parts h
  have hmc := own_len hv
  have hvl := hv.1
  have hvs := own_slW hv
  obtain ⟨q, hq⟩ : ∃ q, q = i + m := ⟨_, rfl⟩
  obtain ⟨r, hr⟩ : ∃ r, r = n - j := ⟨_, rfl⟩
  obtain ⟨t, ht⟩ : ∃ t, t = q + r := ⟨_, rfl⟩
  obtain ⟨k, hk⟩ : ∃ k, k = t - i := ⟨_, rfl⟩
  obtain ⟨ys, hys⟩ : ∃ ys, ys = xs.drop (j * 2) := ⟨_, rfl⟩
  have hyl : ys.length = r * 2 := by rw [hys, List.length_drop, hxl, hr]; omega
  have hy1 : ∀ u ∈ ys, u.oneCell' = true := fun u hu => hx1 u (by rw [hys] at hu; exact List.mem_of_mem_drop hu)
  obtain ⟨vb, V, rfl, hV, hVz⟩ : ∃ vb V, A = some ⟨vb, 0, none⟩ ∧ w.heap[vb]? = some (.cells V 33 (0, 0)) ∧ V.size ≠ 0 := by
    rcases hv.2 with ⟨-, h0⟩ | ⟨vb, vcap, cur, h', -, hg2, hc1, -, hc3, -⟩
    · omega
    · injection h' with hA
      exact ⟨vb, cur, hA, hg2, by omega⟩
  have hnb : g ≠ vb := fun e => hne (by rw [e]; rfl)
  have ov : (callFunc 94 #[.slice (cutW (some ⟨g, 0, none⟩) c q 2) r (c - q), .slice (some ⟨vb, 0, none⟩) m vc]).run Try.prog w.drew = .ok (.value (.bool false)) w.drew := by
    rw [cutW_at _ _ _ _ (by omega)]
    exact run_apart (w := w.drew) hC hV hnb hVz _ _ _ _
  obtain ⟨W2, hW2⟩ : ∃ W2, W2 = w.drew.drew.setRow g (splice C (q * 2) ys).toArray := ⟨_, rfl⟩
  have hsp : (splice C (q * 2) ys).length = c * 2 := by rw [splice_len _ _ _ (by omega), hCl]
  have b1 : ∀ ty, (Builtin.copy_ #[31, 31] ty #[.slice (cutW (some ⟨g, 0, none⟩) c q 2) r (c - q), .slice (cutW (some ⟨g, 0, none⟩) c j 2) r (c - j)]).run Try.prog w.drew.drew = .ok (goInt r) W2 := fun ty => by
    rw [hW2]
    exact run_copyW (w := w.drew.drew) Try.underlying31 hi0 hs0 hC (by simp) hyl (fun _ => cutW_at _ _ _ _ (by omega))
      (by
        rw [cutW_at _ _ _ _ (by omega)]
        exact sl_cellsW (w := w.drew.drew) (g := g) (o := j * 2) (C := C) hC (fun x hx => by rw [← List.getElem?_eq_getElem, hys, List.getElem?_drop, ← hCt, List.getElem?_take, if_pos (by omega)]) hgw) (by omega) hy1 ty
  have hW2g : W2.heap[g]? = some (.cells (splice C (q * 2) ys).toArray 33 (0, 0)) := by rw [hW2]; exact setRow_heap w.drew.drew g _ _ _ _ hC
  have hW2G : w.grownBy W2 (some g) := by rw [hW2]; exact grownBy_setRow (grownBy_drew (grownBy_drew (World.grownBy.refl w _))) _
  have hvs2 : Sl W2 w.heap.size (some ⟨vb, 0, none⟩) vs := by
    rcases hvs with h | ⟨b, o, h1, h2, h3⟩
    · exact .inl h
    · refine .inr ⟨b, o, h1, h2, fun x hx => ?_⟩
      injection h1 with h1
      injection h1 with h1
      rw [← h3 x hx]
      exact World.cell?_of_block (hW2G.block b h2 (fun e => hnb (by injection e with e; omega)))
  obtain ⟨W3, hW3⟩ : ∃ W3, W3 = W2.setRow g (splice (splice C (q * 2) ys) (i * 2) vs).toArray := ⟨_, rfl⟩
  have c1 : ∀ ty, (Builtin.copy_ #[31, 31] ty #[.slice (cutW (some ⟨g, 0, none⟩) c i 2) k (c - i), .slice (some ⟨vb, 0, none⟩) m vc]).run Try.prog W2 = .ok (goInt m) W3 := fun ty => by
    rw [hW3]
    exact run_copyW Try.underlying31 hi0 hs0 hW2g (by simp only [Nat.min_def]; split <;> omega) hvl (fun _ => cutW_at _ _ _ _ (by omega)) hvs2 (by omega) hv1 ty
  have Fin := Lib.hid (show RepR B g t (xs.take (i * 2) ++ vs ++ ys) w (.returned (.slice (some ⟨g, 0, none⟩) t c)) W3 from by
    refine ⟨_, rfl, own_make (C := splice (splice C (q * 2) ys) (i * 2) vs) hB (by rw [hW3]; exact setRow_heap W2 g _ _ _ _ hW2g) (by omega) hcm (by rw [splice_len _ _ _ (by omega), hsp]) ?_, ?_, .inl rfl⟩
    · have := splice_down C vs ys (i * 2) (m * 2) hvl (by omega)
      rw [show i * 2 + m * 2 = q * 2 by omega, show q * 2 + ys.length = t * 2 by omega] at this
      rw [this, ← hCt, List.take_take, Nat.min_eq_left (by omega)]
    · rw [hW3]; exact grownBy_setRow hW2G _)
  rw [show i + m + (n - j) = t by omega, ← hys]
  have e1 := fun w' => run_midW (P := Try.prog) Try.underlying31 hi0 hs0 (some ⟨g, 0, none⟩) n c i j (by omega) (by omega) w'
  have e2 := fun w' => run_slice_to (P := Try.prog) Try.underlying31 hi0 (some ⟨g, 0, none⟩) n c i (by omega) w'
  have e3 := fun w' => run_fromW (P := Try.prog) Try.underlying31 hi0 hs0 (some ⟨g, 0, none⟩) n c j (by omega) w'
  rw [← hr] at e3
  have hz1 : ((i : Int) == (j : Int)) = false := by rw [beq_eq_false_iff_ne]; omega
  have hz1' : ¬ ((i : Int) = (j : Int)) := by omega
  have hz2 : ((j : Int) == (n : Int)) = false := by rw [beq_eq_false_iff_ne]; omega
  have hz2' : ¬ ((j : Int) = (n : Int)) := by omega
  have s1 : (i : Int) + (m : Int) = (q : Int) := by omega
  have s1w : IntKind.i64.wrap ((i : Int) + (m : Int)) = (q : Int) := by rw [s1]; exact int_i64 q (by omega)
  have s2 : (q : Int) + (r : Int) = (t : Int) := by omega
  have s2w : IntKind.i64.wrap ((q : Int) + (r : Int)) = (t : Int) := by rw [s2]; exact int_i64 t (by omega)
  have s3 : (t : Int) - (i : Int) = (k : Int) := by omega
  have bq : q ≤ 100000 := by omega
  have bt : t ≤ 100000 := by omega
  have bk : k ≤ 100000 := by omega
  have e4 := fun w' => run_slice_to (P := Try.prog) Try.underlying31 hi0 (some ⟨g, 0, none⟩) n c t (by omega) w'
  have e5 := fun w' => run_fromW (P := Try.prog) Try.underlying31 hi0 hs0 (some ⟨g, 0, none⟩) t c i (by omega) w'
  rw [← hk] at e5
  have e6 := fun w' => run_fromW (P := Try.prog) Try.underlying31 hi0 hs0 (some ⟨g, 0, none⟩) t c q (by omega) w'
  rw [show t - q = r by omega] at e6
  have q1 : decide ((c : Int) < (t : Int)) = false := by rw [decide_eq_false_iff_not]; omega
  have q1' : decide (c < t) = false := by rw [decide_eq_false_iff_not]; omega
  have q2 : decide ((q : Int) ≤ (j : Int)) = false := by rw [decide_eq_false_iff_not]; omega
  have q2' : decide (q ≤ j) = false := by rw [decide_eq_false_iff_not]; omega
  clear h hv hne hi hj hx1 hv1 hbig hno hc hgw hBw hB hC hnc hcm hCl hCt hxl hmc hvl hvs hq hr ht hk hys hyl hy1 hV hVz hnb hW2 hsp hW2g hW2G hvs2 hW3
  go_enter Try.func77, Try.ntmps77
  go_wp2_with fail
  go_region
  go_wp2_with fail
  go_region
  go_wp2_with fail
  go_ret
  exact Fin.out
set_option maxRecDepth 16000 in
set_option maxHeartbeats 16000000 in
/-- A middle taken out, what comes instead is longer, and there is no room: a new row. -/
theorem rep_grow (h : w.ownsRow B 33 2 (.slice (some ⟨g, 0, none⟩) n c) n xs) (hv : w.ownsRow Bv 33 2 (.slice A m vc) m vs) (hi : i < j) (hj : j < n) (hx1 : ∀ u ∈ xs, u.oneCell' = true) (hv1 : ∀ u ∈ vs, u.oneCell' = true) (hbig : n + m ≤ 100000) (hc : c < i + m + (n - j)) :
    Calls Try.prog 77 #[.slice (some ⟨g, 0, none⟩) n c, .int .i64 (i : Int), .int .i64 (j : Int), .slice A m vc] w (RepR B g (i + m + (n - j)) (xs.take (i * 2) ++ vs ++ xs.drop (j * 2)) w) := by
  obtain ⟨i0, hi0, hz0, hs0, hb0⟩ := run_parts
  have hgw : g < w.heap.size := (h.lt g rfl).2
  have hBw : B ≤ w.heap.size := Nat.le_trans (h.lt g rfl).1 (Nat.le_of_lt hgw)
  obtain ⟨C, hB, hC, hnc, hcm, hCl, hCt, hxl⟩ := own_parts h
  have hmc := own_len hv
  have hvl := hv.1
  have hvs := own_slW hv
  obtain ⟨q, hq⟩ : ∃ q, q = i + m := ⟨_, rfl⟩
  obtain ⟨r, hr⟩ : ∃ r, r = n - j := ⟨_, rfl⟩
  obtain ⟨t, ht⟩ : ∃ t, t = q + r := ⟨_, rfl⟩
  obtain ⟨k, hk⟩ : ∃ k, k = t - i := ⟨_, rfl⟩
  obtain ⟨ys, hys⟩ : ∃ ys, ys = xs.drop (j * 2) := ⟨_, rfl⟩
  have hyl : ys.length = r * 2 := by rw [hys, List.length_drop, hxl, hr]; omega
  have hy1 : ∀ u ∈ ys, u.oneCell' = true := fun u hu => hx1 u (by rw [hys] at hu; exact List.mem_of_mem_drop hu)
  have hvw : ∀ b, (Value.slice A m vc).ownBlock = some b → b < w.heap.size := fun b hb => (hv.lt b hb).2
  obtain ⟨gs, hgs⟩ : ∃ gs, gs = w.heap.size := ⟨_, rfl⟩
  obtain ⟨G, hG⟩ : ∃ G, G = grownCap w.drew t c 33 := ⟨_, rfl⟩
  obtain ⟨R, hR⟩ : ∃ R : List Value, R = ((xs.take (i * 2)).toArray ++ Builtin.zeroCells (Value.agg #[.int .i64 0, .int .i64 0]).cells k ++ Builtin.zeroCells (Value.agg #[.int .i64 0, .int .i64 0]).cells (G - t)).toList := ⟨_, rfl⟩
  obtain ⟨W1, hW1⟩ : ∃ W1, W1 = w.drew.drew.alloc (.cells R.toArray 33) := ⟨_, rfl⟩
  have hGp : t ≤ G := by rw [hG]; exact grownCap_ge w.drew _ _ _
  have hGm : G ≤ maxLen := by rw [hG]; exact grownCap_le_maxLen w.drew t c 33 (by unfold maxLen; omega)
  have hzc : (Value.agg #[.int .i64 0, .int .i64 0]).cells.size = 2 := rfl
  have hRl : R.length = G * 2 := by
    rw [hR]
    rw [Array.length_toList, Array.size_append, Array.size_append, size_zeroCells, size_zeroCells, hzc, List.size_toArray, List.length_take, hxl]
    omega
  have hRt : R.take (i * 2) = xs.take (i * 2) := by
    rw [hR]
    simp only [Array.toList_append]
    rw [List.append_assoc, List.take_append_of_le_length (by simp; omega), List.take_take, Nat.min_self]
  have a1 : ∀ ty, (Builtin.append_ #[31, 3] ty #[.slice (some ⟨g, 0, none⟩) i c, .int .i64 (k : Int)]).run Try.prog w.drew = .ok (.slice (some ⟨gs, 0, none⟩) t G) W1 := fun ty => by
    have hold : (Builtin.firstCells i0.size i (.slice (some ⟨g, 0, none⟩) i c)).run Try.prog w.drew.drew = .ok (xs.take (i * 2)).toArray w.drew.drew := by
      rw [hs0]
      exact run_firstCells_some w.drew.drew 2 i ⟨g, 0, none⟩ i c (xs.take (i * 2)) (by rw [List.length_take, hxl]; omega) (fun j v hj => by
        rw [Addr.add_lit, Nat.zero_add]
        rw [List.getElem?_take] at hj
        split at hj
        · exact (h.cellAt j (by omega)).trans hj
        · cases hj)
    have h := Lib.run_append_grow_zeros w.drew 31 3 ty 33 i0 _ .i64 .i64 Try.underlying31 Try.underlying3 hi0 hz0 (some ⟨g, 0, none⟩) i c (xs.take (i * 2)) hold k (by omega) (by omega) (by omega) (by omega) (by rw [hb0]; omega) (by rw [hb0]; exact growslice_fits (by omega) (by omega))
    rw [show i + k = t by omega, ← hG] at h
    rw [h, hW1, hR, hgs]
    rfl
  have hW1g : W1.heap[gs]? = some (.cells R.toArray 33 (0, 0)) := by rw [hW1, hgs]; exact heap_alloc_new w.drew.drew _
  have hW1o : ∀ b, b < w.heap.size → W1.heap[b]? = w.heap[b]? := fun b hb => by rw [hW1]; exact Below.heap_alloc w.drew.drew _ b hb
  have hW1G : w.grownBy W1 (some g) := by rw [hW1]; exact ⟨rfl, rfl, rfl, by simp, fun b hb _ => Below.heap_alloc w.drew.drew _ b hb⟩
  have hvs1 : Sl W1 w.heap.size A vs := by
    rcases hvs with h | ⟨b, o, h1, h2, h3⟩
    · exact .inl h
    · exact .inr ⟨b, o, h1, h2, fun x hx => by rw [← h3 x hx]; exact World.cell?_of_block (hW1o b h2)⟩
  obtain ⟨W2, hW2⟩ : ∃ W2, W2 = W1.setRow gs (splice R (i * 2) vs).toArray := ⟨_, rfl⟩
  have hsp : (splice R (i * 2) vs).length = G * 2 := by rw [splice_len _ _ _ (by omega), hRl]
  have b1 : ∀ ty, (Builtin.copy_ #[31, 31] ty #[.slice (cutW (some ⟨gs, 0, none⟩) G i 2) k (G - i), .slice A m vc]).run Try.prog W1 = .ok (goInt m) W2 := fun ty => by
    rw [hW2]
    exact run_copyW Try.underlying31 hi0 hs0 hW1g (by simp only [Nat.min_def]; split <;> omega) hvl (fun _ => cutW_at _ _ _ _ (by omega)) hvs1 (by omega) hv1 ty
  have hW2g : W2.heap[gs]? = some (.cells (splice R (i * 2) vs).toArray 33 (0, 0)) := by rw [hW2]; exact setRow_heap W1 gs _ _ _ _ hW1g
  have hW2o : ∀ b, b < w.heap.size → W2.heap[b]? = w.heap[b]? := fun b hb => by rw [hW2, setRow_other W1 gs b _ (by omega)]; exact hW1o b hb
  have hW2G : w.grownBy W2 (some g) := by rw [hW2]; exact grownBy_setNew hW1G (by omega) _
  have hW2s : w.heap.size < W2.heap.size := by rw [hW2, hW1]; simp
  obtain ⟨W3, hW3⟩ : ∃ W3, W3 = W2.drew.setRow gs (splice (splice R (i * 2) vs) (q * 2) ys).toArray := ⟨_, rfl⟩
  have c1 : ∀ ty, (Builtin.copy_ #[31, 31] ty #[.slice (cutW (some ⟨gs, 0, none⟩) G q 2) r (G - q), .slice (cutW (some ⟨g, 0, none⟩) c j 2) r (c - j)]).run Try.prog W2.drew = .ok (goInt r) W3 := fun ty => by
    rw [hW3]
    exact run_copyW (w := W2.drew) Try.underlying31 hi0 hs0 hW2g (by simp) hyl (fun _ => cutW_at _ _ _ _ (by omega))
      (by
        rw [cutW_at _ _ _ _ (by omega)]
        exact sl_cellsW (w := W2.drew) (g := g) (o := j * 2) (C := C) (hW2o g hgw ▸ hC) (fun x hx => by rw [← List.getElem?_eq_getElem, hys, List.getElem?_drop, ← hCt, List.getElem?_take, if_pos (by omega)]) (Nat.lt_trans hgw hW2s)) (by omega) hy1 ty
  have Fin := Lib.hid (show RepR B g t (xs.take (i * 2) ++ vs ++ ys) w (.returned (.slice (some ⟨gs, 0, none⟩) t G)) W3 from by
    refine ⟨_, rfl, own_make (C := splice (splice R (i * 2) vs) (q * 2) ys) (by omega) (by rw [hW3]; exact setRow_heap W2.drew gs _ _ _ _ hW2g) hGp hGm (by rw [splice_len _ _ _ (by omega), hsp]) ?_, ?_, .inr (by rw [hgs]; rfl)⟩
    · have := splice_up R vs ys (i * 2) (m * 2) hvl (by omega)
      rw [show i * 2 + m * 2 = q * 2 by omega, show q * 2 + ys.length = t * 2 by omega, hRt] at this
      exact this
    · rw [hW3]; exact grownBy_setNew (grownBy_drew hW2G) (by omega) _)
  rw [show i + m + (n - j) = t by omega, ← hys]
  have e1 := fun w' => run_midW (P := Try.prog) Try.underlying31 hi0 hs0 (some ⟨g, 0, none⟩) n c i j (by omega) (by omega) w'
  have e2 := fun w' => run_slice_to (P := Try.prog) Try.underlying31 hi0 (some ⟨g, 0, none⟩) n c i (by omega) w'
  have e3 := fun w' => run_fromW (P := Try.prog) Try.underlying31 hi0 hs0 (some ⟨g, 0, none⟩) n c j (by omega) w'
  rw [← hr] at e3
  have hz1 : ((i : Int) == (j : Int)) = false := by rw [beq_eq_false_iff_ne]; omega
  have hz1' : ¬ ((i : Int) = (j : Int)) := by omega
  have hz2 : ((j : Int) == (n : Int)) = false := by rw [beq_eq_false_iff_ne]; omega
  have hz2' : ¬ ((j : Int) = (n : Int)) := by omega
  have s1 : (i : Int) + (m : Int) = (q : Int) := by omega
  have s1w : IntKind.i64.wrap ((i : Int) + (m : Int)) = (q : Int) := by rw [s1]; exact int_i64 q (by omega)
  have s2 : (q : Int) + (r : Int) = (t : Int) := by omega
  have s2w : IntKind.i64.wrap ((q : Int) + (r : Int)) = (t : Int) := by rw [s2]; exact int_i64 t (by omega)
  have s3 : (t : Int) - (i : Int) = (k : Int) := by omega
  have bq : q ≤ 100000 := by omega
  have bt : t ≤ 100000 := by omega
  have bk : k ≤ 100000 := by omega
  have e5 := fun w' => run_fromW (P := Try.prog) Try.underlying31 hi0 hs0 (some ⟨gs, 0, none⟩) t G i (by omega) w'
  rw [← hk] at e5
  have e6 := fun w' => run_fromW (P := Try.prog) Try.underlying31 hi0 hs0 (some ⟨gs, 0, none⟩) t G q (by omega) w'
  rw [show t - q = r by omega] at e6
  have q1 : decide ((c : Int) < (t : Int)) = true := by rw [decide_eq_true_eq]; omega
  have q1' : decide (c < t) = true := by rw [decide_eq_true_eq]; omega
  have A1 := Lib.hid a1
  clear a1 h hv hi hj hx1 hv1 hbig hc hgw hBw hB hC hnc hcm hCl hCt hxl hmc hvl hvs hq hr ht hk hys hyl hy1 hvw hgs hG hR hW1 hGp hGm hzc hRl hRt hW1g hW1o hW1G hvs1 hW2 hsp hW2g hW2o hW2G hW2s hW3
  go_enter Try.func77, Try.ntmps77
  go_wp2_with fail
  go_region
  go_wp2_with (at_builtin; refine wpList_app_run _ rfl _ _ _ _ rfl rfl rfl (A1.out _) ?_)
  go_region
  go_wp2_with fail
  go_ret
  exact Fin.out
/-- slices.Replace at runs. -/
theorem replace_any (h : w.ownsRow B 33 2 (.slice (some ⟨g, 0, none⟩) n c) n xs) (hv : w.ownsRow Bv 33 2 (.slice A m vc) m vs) (hne : (Value.slice A m vc).ownBlock ≠ some g) (hij : i ≤ j) (hj : j ≤ n) (hm : i = j → 1 ≤ m) (hx1 : ∀ u ∈ xs, u.oneCell' = true) (hv1 : ∀ u ∈ vs, u.oneCell' = true) (hbig : n + m ≤ 100000) :
    Calls Try.prog 77 #[.slice (some ⟨g, 0, none⟩) n c, .int .i64 (i : Int), .int .i64 (j : Int), .slice A m vc] w (RepR B g (i + m + (n - j)) (xs.take (i * 2) ++ vs ++ xs.drop (j * 2)) w) := by
  by_cases h1 : i = j
  · subst h1
    obtain ⟨vb, rfl⟩ : ∃ vb, A = some ⟨vb, 0, none⟩ := by
      rcases hv.2 with ⟨-, h0⟩ | ⟨vb, vcap, cur, h', -⟩
      · have := hm rfl; omega
      · injection h' with hA
        exact ⟨vb, hA⟩
    rw [show i + m + (n - i) = n + m by omega]
    exact rep_ins h hj (insert_any h hv (fun e => hne (by rw [e]; rfl)) (hm rfl) hj hx1 hv1 hbig)
  by_cases h2 : j = n
  · subst h2
    have e : xs.take (i * 2) ++ vs ++ xs.drop (j * 2) = xs.take (i * 2) ++ vs := by rw [List.drop_of_length_le (by rw [h.1]; exact Nat.le_refl _), List.append_nil]
    rw [e, show i + m + (j - j) = i + m by omega]
    by_cases h3 : i + m < j
    · exact rep_short h hv (by omega) hv1 hbig h3
    · exact rep_end h hv (by omega) hv1 hbig (by omega)
  · by_cases h3 : c < i + m + (n - j)
    · exact rep_grow h hv (by omega) (by omega) hx1 hv1 hbig h3
    · by_cases h4 : i + m ≤ j
      · exact rep_less h hv (by omega) (by omega) hx1 hv1 hbig h4
      · exact rep_more h hv hne (by omega) (by omega) hx1 hv1 hbig (by omega) (by omega)
end
end Go.Proofs.Ytaainefdjbmekaa
