/- The program's map of free blocks: cut. -/
import Derived.Test.YtaainefdjbmekaaSbbf
namespace Go.Proofs.Ytaainefdjbmekaa
open Go.RowKit
theorem rcs_take (l : List (Nat × Nat)) (k : Nat) : (rcs l).take (k * 2) = rcs (l.take k) := by
  induction l generalizing k with
  | nil => simp [rcs]
  | cons u l ih =>
    cases k with
    | zero => rfl
    | succ k => rw [show (k + 1) * 2 = k * 2 + 1 + 1 by omega, rcs, List.take_succ_cons, List.take_succ_cons, ih]; rfl
theorem rcs_drop (l : List (Nat × Nat)) (k : Nat) : (rcs l).drop (k * 2) = rcs (l.drop k) := by
  induction l generalizing k with
  | nil => simp [rcs]
  | cons u l ih =>
    cases k with
    | zero => rfl
    | succ k => rw [show (k + 1) * 2 = k * 2 + 1 + 1 by omega, rcs, List.drop_succ_cons, List.drop_succ_cons, ih]; rfl
theorem own_ne_none {w : World} {B n size : Nat} {e : TypeId} {v : Value} {xs : List Value} (h : w.ownsRow B e size v n xs) {g : Nat} (hg : g < B) : v.ownBlock ≠ some g := fun e => by have := (h.lt g e).1; omega
section
variable {w w1 w2 : World} {g gb N c : Nat} {X : Nat → Prop} {F F' : List Bool} {v2 : Value}
/-- The list of runs put anew: how a change ends. -/
theorem put_fin (h : RepV w g X F (.slice (some ⟨gb, 0, none⟩) N c)) (hb : Below w.heap.size w w1) (hr : OwnR w2 0 v2 (Rn.list F')) (hg : w1.grownBy w2 (some gb)) (ho : v2.ownBlock = some gb ∨ v2.ownBlock = some w1.heap.size) (hl : F'.length = F.length) :
    OpR RepP g X F' w (w2.setCell ⟨g, 1, none⟩ v2) := by
  have hne : gb ≠ g := h.ne_ rfl
  have hgw : g < w.heap.size := h.blk.lt
  have hXb : X gb := (h.at_ gb).2 (.inr rfl)
  have hXg : X g := (h.at_ g).2 (.inl rfl)
  have hv2 : v2.ownBlock ≠ some g := by
    rcases ho with e | e <;> rw [e] <;> intro h' <;> injection h' with h'
    · exact hne h'
    · have := hb.size; omega
  have hblk : Blk w2 g 80 #[.int .i64 (F.length : Int), .slice (some ⟨gb, 0, none⟩) N c] := (h.blk.keep (hb.block g hgw)).grown hg (fun e => hne (by injection e))
  have hc : Chg X w w2 := (Chg.of_below X hb).grown hg fun k hk => by injection hk with hk; exact .inl (hk ▸ hXb)
  refine ⟨fun b => b = g ∨ v2.ownBlock = some b, ⟨v2, ?_, own_far hr hv2 v2, by rw [hl]; exact h.few, fun b => Iff.rfl, fun _ => ?_⟩, fun b hbx => ?_, hc.setCell (p := ⟨g, 1, none⟩) (.inl hXg) v2⟩
  · rw [hl]; exact hblk.set_ 1 v2
  · rcases ho with e | e <;> rw [e] <;> intro h' <;> cases h'
  · rcases hbx with rfl | hbx
    · exact .inl hXg
    · rcases ho with e | e
      · rw [e] at hbx; injection hbx with hbx; exact .inl (hbx ▸ hXb)
      · rw [e] at hbx; injection hbx with hbx; exact .inr (by rw [← hbx]; exact hb.size)
end
section
variable {w : World} {g : Nat} {X : Nat → Prop} {F F' : List Bool} {v : Value} {A D : List (Nat × Nat)} {s k a n : Nat}
set_option maxRecDepth 8000 in
set_option maxHeartbeats 8000000 in
theorem cut_tt (h : RepV w g X F v) (hL : Rn.list F = A ++ [(s, k)] ++ D) (h2 : 1 ≤ n) (hF' : Rn.list F' = A ++ [(s, a - s), (a + n, s + k - (a + n))] ++ D) (hl : F'.length = F.length) (d1 : s < a) (d2 : a + n < s + k) :
    Calls Try.prog 45 #[.pointer (some ⟨g, 0, none⟩), .int .i64 (A.length : Int), .int .i64 (a : Int), .int .i64 (n : Int)] w fun e w' => e = .returned (.tuple #[]) ∧ OpR RepP g X F' w w' := by
  obtain ⟨i0, hi0, hz0, hs0, hb0⟩ := run_parts
  have hLl : (Rn.list F).length = A.length + 1 + D.length := by rw [hL]; simp; omega
  have hF0 : F ≠ [] := fun e => by rw [e, list_nil] at hLl; simp at hLl; omega
  obtain ⟨gb, c, rfl, hne, hXb, hgbw⟩ := h.form hF0
  have few := h.few
  have hsk : 1 ≤ k ∧ s + k ≤ 8192 := list_b few (s, k) (by rw [hL]; simp)
  have hN5 := Nat.le_trans (list_len F) few
  obtain ⟨N, hN⟩ : ∃ N, N = (Rn.list F).length := ⟨_, rfl⟩
  obtain ⟨i, hi⟩ : ∃ i, i = A.length := ⟨_, rfl⟩
  obtain ⟨j, hj⟩ : ∃ j, j = i + 1 := ⟨_, rfl⟩
  obtain ⟨b0, hbb⟩ : ∃ b, w.heap.size = b := ⟨_, rfl⟩
  obtain ⟨B1, hB1⟩ : ∃ B1, B1 = b0 + 1 := ⟨_, rfl⟩
  obtain ⟨W0, hW0⟩ : ∃ W0, w.alloc (.cells #[.int .i64 (s : Int), .int .i64 (k : Int)] 33) = W0 := ⟨_, rfl⟩
  have hs0' : W0.heap.size = B1 := by rw [← hW0, hB1, ← hbb]; simp
  have hbw : Below b0 w W0 := by rw [← hW0, ← hbb]; exact (Below.refl _ _).alloc (Nat.le_refl _) _
  have bx : Blk W0 b0 33 #[.int .i64 (s : Int), .int .i64 (k : Int)] := by rw [← hW0, ← hbb]; exact Blk.new _ _ _
  have y0 : W0.cell? ⟨b0, 0, none⟩ = some (.int .i64 (s : Int)) := bx.cell 0
  have y1 : W0.cell? ⟨b0, 1, none⟩ = some (.int .i64 (k : Int)) := bx.cell 1
  have Y0 := Lib.hid y0
  have Y1 := Lib.hid y1
  have Lt := Lib.hid (show b0 < B1 by omega)
  have HB0 := Lib.hid (show Below B1 W0 W0 from Below.refl _ _)
  have SZ0 := Lib.hid (show B1 ≤ W0.heap.size by omega)
  have HW := Lib.hid hbw
  have HBB := Lib.hid hbb
  have HS0 := Lib.hid hs0'
  rw [← hi]
  -- the row
  have cg : w.cell? ⟨g, 1, none⟩ = some (.slice (some ⟨gb, 0, none⟩) N c) := by rw [hN]; exact h.blk.cell 1
  obtain ⟨gl, c', e, -, -, hcell, -⟩ := ownR_at h.row (by omega)
  injection e with e e2 e3
  injection e with e
  injection e with e
  subst e
  subst e3
  clear e2
  obtain ⟨x0, x1⟩ := hcell i (by omega)
  have hgd : (Rn.list F).getD i (0, 0) = (s, k) := by
    rw [List.getD_eq_getElem?_getD, hL, List.append_assoc, List.getElem?_append_right (by omega), hi, Nat.sub_self]; rfl
  rw [hgd] at x0 x1
  have hiN : (i : Int) < (N : Int) := by omega
  have s0 : (i : Int) + 1 = (j : Int) := by omega
  have bi : i ≤ 100000 := by omega
  have H := Lib.hid h
  have HL := Lib.hid hL
  have HF := Lib.hid hF'
  have Hl := Lib.hid hl
  have HN := Lib.hid hN
  have Hi := Lib.hid hi
  have Hj := Lib.hid hj
  have HLl := Lib.hid hLl
  have Hne := Lib.hid hne
  have Hgb := Lib.hid hgbw
  have hk8 : k ≤ 8192 := by omega
  have hs8 : s ≤ 8192 := by omega
  have ha8 : a ≤ 8192 := by omega
  have hn8 : n ≤ 8192 := by omega
  obtain ⟨t, ht⟩ : ∃ t, t = a + n := ⟨_, rfl⟩
  obtain ⟨e, he⟩ : ∃ e, e = s + k := ⟨_, rfl⟩
  have s1 : (a : Int) + (n : Int) = (t : Int) := by omega
  have ht9 : t ≤ 20000 := by omega
  have he9 : e ≤ 20000 := by omega
  have HE := Lib.hid he
  have HT := Lib.hid ht
  have z1 : decide ((s : Int) < (a : Int)) = true := by rw [decide_eq_true_eq]; omega
  have z1' : decide (s < a) = true := by rw [decide_eq_true_eq]; omega
  obtain ⟨d, hd⟩ : ∃ d, d = a - s := ⟨_, rfl⟩
  have s2 : (a : Int) - (s : Int) = (d : Int) := by omega
  have hd9 : d ≤ 20000 := by omega
  have HD := Lib.hid hd
  obtain ⟨Wz, hWz⟩ : ∃ Wz, W0.alloc (.cells #[.int .i64 (s : Int), .int .i64 (d : Int)] 33) = Wz := ⟨_, rfl⟩
  have Oz := Lib.hid (World.ownsRow_nil Wz B1 33 2)
  have Sz := Lib.hid (show Sl Wz (W0.heap.size + 1) (some ⟨W0.heap.size, 0, none⟩) [.int .i64 (s : Int), .int .i64 (d : Int)] by rw [← hWz]; exact sl_two)
  have HBz := Lib.hid (show Below B1 W0 Wz by rw [← hWz]; exact (Below.refl _ _).alloc SZ0.out _)
  have SZz := Lib.hid (show B1 ≤ Wz.heap.size by rw [← hWz]; simp; omega)
  have z2 : decide ((t : Int) < (e : Int)) = true := by rw [decide_eq_true_eq]; omega
  have z2' : decide (t < e) = true := by rw [decide_eq_true_eq]; omega
  obtain ⟨f, hf⟩ : ∃ f, f = e - t := ⟨_, rfl⟩
  have s3 : (e : Int) - (t : Int) = (f : Int) := by omega
  have hf9 : f ≤ 20000 := by omega
  have HFf := Lib.hid hf
  have NE := Lib.hid (fun W : World => end_any W s k (by omega) (by omega))
  rw [← he] at NE
  clear h hL h2 hF' hl d1 d2 hLl hF0 hne hXb hgbw few hsk hN5 hN hi hj hB1 hs0' hbw bx hcell hgd ht he hd hf
  go_enter Try.func45, Try.ntmps45
  go_wp2_with (at_builtin; refine wpList_append_sls (base := B1) _ rfl (.tmp 21) (.tmp 29) _ rfl Try.underlying31 hi0 hz0 hs0 hb0 rfl (by decide) rfl Oz.out (m := 1) (news := [.int .i64 (s : Int), .int .i64 (d : Int)]) rfl rfl (by simp) (Nat.le_refl _) Sz.out (by simp [Value.oneCell']) (by unfold maxLen; simp) (by simp) SZz.out ?_; intro v8 w8 k1 k2 _; have O8 := Lib.hid k1; have HB8 := Lib.hid (HBz.out.grown k2 SZz.out fun g hg => (Oz.out.lt g hg).1); have SZ8 := Lib.hid (Nat.le_trans SZz.out k2.size); clear k1 k2; have y08 : w8.cell? ⟨b0, 0, none⟩ = some (.int .i64 (s : Int)) := (HB8.out.cell (p := ⟨b0, 0, none⟩) Lt.out).trans Y0.out; have y18 : w8.cell? ⟨b0, 1, none⟩ = some (.int .i64 (k : Int)) := (HB8.out.cell (p := ⟨b0, 1, none⟩) Lt.out).trans Y1.out)
  refine (NE.out w8).mono ?_
  rintro e9 w9 ⟨rfl, hb9⟩
  have HB9 := Lib.hid (HB8.out.trans (hb9.mono SZ8.out))
  have SZ9 := Lib.hid (Nat.le_trans SZ8.out hb9.size)
  have O9 := Lib.hid (own_keep O8.out fun b _ hlt => hb9.block b hlt)
  clear hb9
  have y09 : w9.cell? ⟨b0, 0, none⟩ = some (.int .i64 (s : Int)) := (HB9.out.cell (p := ⟨b0, 0, none⟩) Lt.out).trans Y0.out
  have y19 : w9.cell? ⟨b0, 1, none⟩ = some (.int .i64 (k : Int)) := (HB9.out.cell (p := ⟨b0, 1, none⟩) Lt.out).trans Y1.out
  go_wp2_with fail
  refine (NE.out w9).mono ?_
  rintro e10 w10 ⟨rfl, hb10⟩
  have HB10 := Lib.hid (HB9.out.trans (hb10.mono SZ9.out))
  have SZ10 := Lib.hid (Nat.le_trans SZ9.out hb10.size)
  have O10 := Lib.hid (own_keep O9.out fun b _ hlt => hb10.block b hlt)
  clear hb10
  have y010 : w10.cell? ⟨b0, 0, none⟩ = some (.int .i64 (s : Int)) := (HB10.out.cell (p := ⟨b0, 0, none⟩) Lt.out).trans Y0.out
  have y110 : w10.cell? ⟨b0, 1, none⟩ = some (.int .i64 (k : Int)) := (HB10.out.cell (p := ⟨b0, 1, none⟩) Lt.out).trans Y1.out
  obtain ⟨Wy, hWy⟩ : ∃ Wy, w10.alloc (.cells #[.int .i64 (t : Int), .int .i64 (f : Int)] 33) = Wy := ⟨_, rfl⟩
  have Oy := Lib.hid (own_keep (w' := Wy) O10.out fun b _ hlt => by rw [← hWy]; exact Below.heap_alloc w10 _ b hlt)
  have Sy := Lib.hid (show Sl Wy (w10.heap.size + 1) (some ⟨w10.heap.size, 0, none⟩) [.int .i64 (t : Int), .int .i64 (f : Int)] by rw [← hWy]; exact sl_two)
  have HBy := Lib.hid (show Below B1 W0 Wy by rw [← hWy]; exact HB10.out.alloc SZ10.out _)
  have SZy := Lib.hid (show B1 ≤ Wy.heap.size by rw [← hWy]; exact Nat.le_trans SZ10.out (by simp))
  go_wp2_with (at_builtin; refine wpList_append_sls (base := B1) _ rfl (.tmp 37) (.tmp 48) _ rfl Try.underlying31 hi0 hz0 hs0 hb0 rfl (by decide) rfl Oy.out (m := 1) (news := [.int .i64 (t : Int), .int .i64 (f : Int)]) rfl rfl (by simp) (Nat.le_refl _) Sy.out (by simp [Value.oneCell']) (by unfold maxLen; simp) (by simp) SZy.out ?_; intro v11 w11 k1 k2 _; have O11 := Lib.hid k1; have HB11 := Lib.hid (HBy.out.grown k2 SZy.out fun g hg => (Oy.out.lt g hg).1); have SZ11 := Lib.hid (Nat.le_trans SZy.out k2.size); clear k2; obtain ⟨A11, c11, rfl⟩ := own_slice k1; clear k1; have cg11 : w11.cell? ⟨g, 1, none⟩ = some (.slice (some ⟨gb, 0, none⟩) N c) := (((HW.out.trans (HB11.out.mono (Nat.le_of_lt Lt.out))).cell (p := ⟨g, 1, none⟩) (by rw [← HBB.out]; exact H.out.blk.lt)).trans cg))
  have HBw := Lib.hid (show Below w.heap.size w w11 by rw [HBB.out]; exact HW.out.trans (HB11.out.mono (Nat.le_of_lt Lt.out)))
  have hrow : w11.ownsRow 0 33 2 (.slice (some ⟨gb, 0, none⟩) N c) N (rcs (Rn.list F)) := by
    have h0 : OwnR w11 0 (.slice (some ⟨gb, 0, none⟩) (Rn.list F).length c) (Rn.list F) := own_keep H.out.row (w' := w11) fun b _ hlt => HBw.out.block b hlt
    unfold OwnR at h0
    rw [← HN.out] at h0
    exact h0
  have hbg : (Value.slice A11 2 c11).ownBlock ≠ some gb := own_ne_none O11.out (Nat.lt_trans (by rw [← HBB.out]; exact Hgb.out) Lt.out)
  have hij : i ≤ j := by have := Hj.out; omega
  have hjN : j ≤ N := by have := Hj.out; have := HLl.out; have := HN.out; have := Hi.out; omega
  have hijm : i = j → 1 ≤ 2 := fun h => by have := Hj.out; omega
  have hv1 : ∀ u ∈ rcs [(s, d), (t, f)], u.oneCell' = true := rcs_one _
  have hN9 : N + 2 ≤ 100000 := by have := list_len F; have := H.out.few; have := HN.out; omega
  have hown : w11.ownsRow B1 33 2 (.slice A11 2 c11) 2 (rcs [(s, d), (t, f)]) := O11.out
  have NR := Lib.hid (replace_any (w := w11) (B := 0) (g := gb) (n := N) (c := c) (i := i) (j := j) (m := 2) (vs := rcs [(s, d), (t, f)]) hrow hown hbg hij hjN hijm (rcs_one _) hv1 hN9)
  clear hrow hbg hij hjN hijm hv1 hN9 hown
  refine NR.out.mono ?_
  rintro e12 w12 ⟨v12, rfl, k1, k2, k3⟩
  obtain ⟨p, hp⟩ : ∃ p, i + 2 + (N - j) = p := ⟨_, rfl⟩
  rw [hp] at k1
  have Hp := Lib.hid hp
  clear hp
  obtain ⟨A12, c12, rfl⟩ := own_slice k1
  clear NR
  have cg12 : w12.cell? ⟨g, 1, none⟩ = some (.slice (some ⟨gb, 0, none⟩) N c) := k2.cell (((HBw.out.cell (p := ⟨g, 1, none⟩) H.out.blk.lt).trans cg)) (fun e => Hne.out (by injection e with e; exact e.symm))
  have fg12 : w12.frozen? ⟨g, 1, none⟩ = false := ((H.out.blk.keep (HBw.out.block g H.out.blk.lt)).grown k2 (fun e => Hne.out (by injection e))).frozen 1
  have Fin := Lib.hid (show OpR RepP g X F' w (w12.setCell ⟨g, 1, none⟩ (.slice A12 p c12)) from put_fin (by have := H.out; rw [← HN.out] at this; exact this) HBw.out (by
    have hll : (Rn.list F').length = i + 2 + (N - j) := by have h5 := HLl.out; have h6 := HN.out; have h7 := Hi.out; have h8 := Hj.out; rw [HF.out]; simp; omega
    unfold OwnR
    rw [hll, HF.out, rcs_app, rcs_app]
    rw [rcs_take, rcs_drop, HL.out] at k1
    rw [List.append_assoc A, List.take_append_of_le_length (Nat.le_of_eq Hi.out), List.take_of_length_le (Nat.le_of_eq Hi.out.symm), ← List.append_assoc, Hj.out, Hi.out, List.drop_append_of_le_length (by simp), List.drop_of_length_le (by simp), List.nil_append] at k1
    have e1 : ([(s, a - s), (a + n, s + k - (a + n))] : List (Nat × Nat)) = [(s, d), (t, f)] := by rw [← HT.out, ← HE.out, ← HD.out, ← HFf.out]
    rw [e1, Hp.out]
    exact k1) k2 k3 Hl.out)
  clear k1 k2 k3
  go_wp2_with fail
  refine bodyPost_end (results_none rfl _ _ _) rfl ?_
  exact ⟨rfl, Fin.out⟩
set_option maxRecDepth 8000 in
set_option maxHeartbeats 8000000 in
theorem cut_tf (h : RepV w g X F v) (hL : Rn.list F = A ++ [(s, k)] ++ D) (h2 : 1 ≤ n) (h3 : a + n ≤ s + k) (hF' : Rn.list F' = A ++ [(s, a - s)] ++ D) (hl : F'.length = F.length) (d1 : s < a) (d2 : ¬ a + n < s + k) :
    Calls Try.prog 45 #[.pointer (some ⟨g, 0, none⟩), .int .i64 (A.length : Int), .int .i64 (a : Int), .int .i64 (n : Int)] w fun e w' => e = .returned (.tuple #[]) ∧ OpR RepP g X F' w w' := by
  obtain ⟨i0, hi0, hz0, hs0, hb0⟩ := run_parts
  have hLl : (Rn.list F).length = A.length + 1 + D.length := by rw [hL]; simp; omega
  have hF0 : F ≠ [] := fun e => by rw [e, list_nil] at hLl; simp at hLl; omega
  obtain ⟨gb, c, rfl, hne, hXb, hgbw⟩ := h.form hF0
  have few := h.few
  have hsk : 1 ≤ k ∧ s + k ≤ 8192 := list_b few (s, k) (by rw [hL]; simp)
  have hN5 := Nat.le_trans (list_len F) few
  obtain ⟨N, hN⟩ : ∃ N, N = (Rn.list F).length := ⟨_, rfl⟩
  obtain ⟨i, hi⟩ : ∃ i, i = A.length := ⟨_, rfl⟩
  obtain ⟨j, hj⟩ : ∃ j, j = i + 1 := ⟨_, rfl⟩
  obtain ⟨b0, hbb⟩ : ∃ b, w.heap.size = b := ⟨_, rfl⟩
  obtain ⟨B1, hB1⟩ : ∃ B1, B1 = b0 + 1 := ⟨_, rfl⟩
  obtain ⟨W0, hW0⟩ : ∃ W0, w.alloc (.cells #[.int .i64 (s : Int), .int .i64 (k : Int)] 33) = W0 := ⟨_, rfl⟩
  have hs0' : W0.heap.size = B1 := by rw [← hW0, hB1, ← hbb]; simp
  have hbw : Below b0 w W0 := by rw [← hW0, ← hbb]; exact (Below.refl _ _).alloc (Nat.le_refl _) _
  have bx : Blk W0 b0 33 #[.int .i64 (s : Int), .int .i64 (k : Int)] := by rw [← hW0, ← hbb]; exact Blk.new _ _ _
  have y0 : W0.cell? ⟨b0, 0, none⟩ = some (.int .i64 (s : Int)) := bx.cell 0
  have y1 : W0.cell? ⟨b0, 1, none⟩ = some (.int .i64 (k : Int)) := bx.cell 1
  have Y0 := Lib.hid y0
  have Y1 := Lib.hid y1
  have Lt := Lib.hid (show b0 < B1 by omega)
  have HB0 := Lib.hid (show Below B1 W0 W0 from Below.refl _ _)
  have SZ0 := Lib.hid (show B1 ≤ W0.heap.size by omega)
  have HW := Lib.hid hbw
  have HBB := Lib.hid hbb
  have HS0 := Lib.hid hs0'
  rw [← hi]
  -- the row
  have cg : w.cell? ⟨g, 1, none⟩ = some (.slice (some ⟨gb, 0, none⟩) N c) := by rw [hN]; exact h.blk.cell 1
  obtain ⟨gl, c', e, -, -, hcell, -⟩ := ownR_at h.row (by omega)
  injection e with e e2 e3
  injection e with e
  injection e with e
  subst e
  subst e3
  clear e2
  obtain ⟨x0, x1⟩ := hcell i (by omega)
  have hgd : (Rn.list F).getD i (0, 0) = (s, k) := by
    rw [List.getD_eq_getElem?_getD, hL, List.append_assoc, List.getElem?_append_right (by omega), hi, Nat.sub_self]; rfl
  rw [hgd] at x0 x1
  have hiN : (i : Int) < (N : Int) := by omega
  have s0 : (i : Int) + 1 = (j : Int) := by omega
  have bi : i ≤ 100000 := by omega
  have H := Lib.hid h
  have HL := Lib.hid hL
  have HF := Lib.hid hF'
  have Hl := Lib.hid hl
  have HN := Lib.hid hN
  have Hi := Lib.hid hi
  have Hj := Lib.hid hj
  have HLl := Lib.hid hLl
  have Hne := Lib.hid hne
  have Hgb := Lib.hid hgbw
  have hk8 : k ≤ 8192 := by omega
  have hs8 : s ≤ 8192 := by omega
  have ha8 : a ≤ 8192 := by omega
  have hn8 : n ≤ 8192 := by omega
  obtain ⟨t, ht⟩ : ∃ t, t = a + n := ⟨_, rfl⟩
  obtain ⟨e, he⟩ : ∃ e, e = s + k := ⟨_, rfl⟩
  have s1 : (a : Int) + (n : Int) = (t : Int) := by omega
  have ht9 : t ≤ 20000 := by omega
  have he9 : e ≤ 20000 := by omega
  have HE := Lib.hid he
  have HT := Lib.hid ht
  have z1 : decide ((s : Int) < (a : Int)) = true := by rw [decide_eq_true_eq]; omega
  have z1' : decide (s < a) = true := by rw [decide_eq_true_eq]; omega
  obtain ⟨d, hd⟩ : ∃ d, d = a - s := ⟨_, rfl⟩
  have s2 : (a : Int) - (s : Int) = (d : Int) := by omega
  have hd9 : d ≤ 20000 := by omega
  have HD := Lib.hid hd
  obtain ⟨Wz, hWz⟩ : ∃ Wz, W0.alloc (.cells #[.int .i64 (s : Int), .int .i64 (d : Int)] 33) = Wz := ⟨_, rfl⟩
  have Oz := Lib.hid (World.ownsRow_nil Wz B1 33 2)
  have Sz := Lib.hid (show Sl Wz (W0.heap.size + 1) (some ⟨W0.heap.size, 0, none⟩) [.int .i64 (s : Int), .int .i64 (d : Int)] by rw [← hWz]; exact sl_two)
  have HBz := Lib.hid (show Below B1 W0 Wz by rw [← hWz]; exact (Below.refl _ _).alloc SZ0.out _)
  have SZz := Lib.hid (show B1 ≤ Wz.heap.size by rw [← hWz]; simp; omega)
  have z2 : decide ((t : Int) < (e : Int)) = false := by rw [decide_eq_false_iff_not]; omega
  have z2' : decide (t < e) = false := by rw [decide_eq_false_iff_not]; omega
  have NE := Lib.hid (fun W : World => end_any W s k (by omega) (by omega))
  rw [← he] at NE
  clear h hL h2 h3 hF' hl d1 d2 hLl hF0 hne hXb hgbw few hsk hN5 hN hi hj hB1 hs0' hbw bx hcell hgd ht he hd
  go_enter Try.func45, Try.ntmps45
  go_wp2_with (at_builtin; refine wpList_append_sls (base := B1) _ rfl (.tmp 21) (.tmp 29) _ rfl Try.underlying31 hi0 hz0 hs0 hb0 rfl (by decide) rfl Oz.out (m := 1) (news := [.int .i64 (s : Int), .int .i64 (d : Int)]) rfl rfl (by simp) (Nat.le_refl _) Sz.out (by simp [Value.oneCell']) (by unfold maxLen; simp) (by simp) SZz.out ?_; intro v8 w8 k1 k2 _; have O8 := Lib.hid k1; have HB8 := Lib.hid (HBz.out.grown k2 SZz.out fun g hg => (Oz.out.lt g hg).1); have SZ8 := Lib.hid (Nat.le_trans SZz.out k2.size); clear k1 k2; have y08 : w8.cell? ⟨b0, 0, none⟩ = some (.int .i64 (s : Int)) := (HB8.out.cell (p := ⟨b0, 0, none⟩) Lt.out).trans Y0.out; have y18 : w8.cell? ⟨b0, 1, none⟩ = some (.int .i64 (k : Int)) := (HB8.out.cell (p := ⟨b0, 1, none⟩) Lt.out).trans Y1.out)
  refine (NE.out w8).mono ?_
  rintro e9 w9 ⟨rfl, hb9⟩
  have HB9 := Lib.hid (HB8.out.trans (hb9.mono SZ8.out))
  have SZ9 := Lib.hid (Nat.le_trans SZ8.out hb9.size)
  have O9 := Lib.hid (own_keep O8.out fun b _ hlt => hb9.block b hlt)
  clear hb9
  have y09 : w9.cell? ⟨b0, 0, none⟩ = some (.int .i64 (s : Int)) := (HB9.out.cell (p := ⟨b0, 0, none⟩) Lt.out).trans Y0.out
  have y19 : w9.cell? ⟨b0, 1, none⟩ = some (.int .i64 (k : Int)) := (HB9.out.cell (p := ⟨b0, 1, none⟩) Lt.out).trans Y1.out
  have cg9 : w9.cell? ⟨g, 1, none⟩ = some (.slice (some ⟨gb, 0, none⟩) N c) := (((HW.out.trans (HB9.out.mono (Nat.le_of_lt Lt.out))).cell (p := ⟨g, 1, none⟩) (by rw [← HBB.out]; exact H.out.blk.lt)).trans cg)
  obtain ⟨A8, c8, rfl⟩ := own_slice O9.out
  go_wp2_with fail
  have HBw := Lib.hid (show Below w.heap.size w w9 by rw [HBB.out]; exact HW.out.trans (HB9.out.mono (Nat.le_of_lt Lt.out)))
  have hrow : w9.ownsRow 0 33 2 (.slice (some ⟨gb, 0, none⟩) N c) N (rcs (Rn.list F)) := by
    have h0 : OwnR w9 0 (.slice (some ⟨gb, 0, none⟩) (Rn.list F).length c) (Rn.list F) := own_keep H.out.row (w' := w9) fun b _ hlt => HBw.out.block b hlt
    unfold OwnR at h0
    rw [← HN.out] at h0
    exact h0
  have hbg : (Value.slice A8 1 c8).ownBlock ≠ some gb := own_ne_none O9.out (Nat.lt_trans (by rw [← HBB.out]; exact Hgb.out) Lt.out)
  have hij : i ≤ j := by have := Hj.out; omega
  have hjN : j ≤ N := by have := Hj.out; have := HLl.out; have := HN.out; have := Hi.out; omega
  have hijm : i = j → 1 ≤ 1 := fun h => by have := Hj.out; omega
  have hv1 : ∀ u ∈ rcs [(s, d)], u.oneCell' = true := rcs_one _
  have hN9 : N + 1 ≤ 100000 := by have := list_len F; have := H.out.few; have := HN.out; omega
  have hown : w9.ownsRow B1 33 2 (.slice A8 1 c8) 1 (rcs [(s, d)]) := O9.out
  have NR := Lib.hid (replace_any (w := w9) (B := 0) (g := gb) (n := N) (c := c) (i := i) (j := j) (m := 1) (vs := rcs [(s, d)]) hrow hown hbg hij hjN hijm (rcs_one _) hv1 hN9)
  clear hrow hbg hij hjN hijm hv1 hN9 hown
  refine NR.out.mono ?_
  rintro e12 w12 ⟨v12, rfl, k1, k2, k3⟩
  obtain ⟨p, hp⟩ : ∃ p, i + 1 + (N - j) = p := ⟨_, rfl⟩
  rw [hp] at k1
  have Hp := Lib.hid hp
  clear hp
  obtain ⟨A12, c12, rfl⟩ := own_slice k1
  clear NR
  have cg12 : w12.cell? ⟨g, 1, none⟩ = some (.slice (some ⟨gb, 0, none⟩) N c) := k2.cell (((HBw.out.cell (p := ⟨g, 1, none⟩) H.out.blk.lt).trans cg)) (fun e => Hne.out (by injection e with e; exact e.symm))
  have fg12 : w12.frozen? ⟨g, 1, none⟩ = false := ((H.out.blk.keep (HBw.out.block g H.out.blk.lt)).grown k2 (fun e => Hne.out (by injection e))).frozen 1
  have Fin := Lib.hid (show OpR RepP g X F' w (w12.setCell ⟨g, 1, none⟩ (.slice A12 p c12)) from put_fin (by have := H.out; rw [← HN.out] at this; exact this) HBw.out (by
    have hll : (Rn.list F').length = i + 1 + (N - j) := by have h5 := HLl.out; have h6 := HN.out; have h7 := Hi.out; have h8 := Hj.out; rw [HF.out]; simp; omega
    unfold OwnR
    rw [hll, HF.out, rcs_app, rcs_app]
    rw [rcs_take, rcs_drop, HL.out] at k1
    rw [List.append_assoc A, List.take_append_of_le_length (Nat.le_of_eq Hi.out), List.take_of_length_le (Nat.le_of_eq Hi.out.symm), ← List.append_assoc, Hj.out, Hi.out, List.drop_append_of_le_length (by simp), List.drop_of_length_le (by simp), List.nil_append] at k1
    have e1 : ([(s, a - s)] : List (Nat × Nat)) = [(s, d)] := by rw [← HD.out]
    rw [e1, Hp.out]
    exact k1) k2 k3 Hl.out)
  clear k1 k2 k3
  go_wp2_with fail
  refine bodyPost_end (results_none rfl _ _ _) rfl ?_
  exact ⟨rfl, Fin.out⟩
set_option maxRecDepth 8000 in
set_option maxHeartbeats 8000000 in
theorem cut_ft (h : RepV w g X F v) (hL : Rn.list F = A ++ [(s, k)] ++ D) (h1 : s ≤ a) (h2 : 1 ≤ n) (hF' : Rn.list F' = A ++ [(a + n, s + k - (a + n))] ++ D) (hl : F'.length = F.length) (d1 : ¬ s < a) (d2 : a + n < s + k) :
    Calls Try.prog 45 #[.pointer (some ⟨g, 0, none⟩), .int .i64 (A.length : Int), .int .i64 (a : Int), .int .i64 (n : Int)] w fun e w' => e = .returned (.tuple #[]) ∧ OpR RepP g X F' w w' := by
  obtain ⟨i0, hi0, hz0, hs0, hb0⟩ := run_parts
  have hLl : (Rn.list F).length = A.length + 1 + D.length := by rw [hL]; simp; omega
  have hF0 : F ≠ [] := fun e => by rw [e, list_nil] at hLl; simp at hLl; omega
  obtain ⟨gb, c, rfl, hne, hXb, hgbw⟩ := h.form hF0
  have few := h.few
  have hsk : 1 ≤ k ∧ s + k ≤ 8192 := list_b few (s, k) (by rw [hL]; simp)
  have hN5 := Nat.le_trans (list_len F) few
  obtain ⟨N, hN⟩ : ∃ N, N = (Rn.list F).length := ⟨_, rfl⟩
  obtain ⟨i, hi⟩ : ∃ i, i = A.length := ⟨_, rfl⟩
  obtain ⟨j, hj⟩ : ∃ j, j = i + 1 := ⟨_, rfl⟩
  obtain ⟨b0, hbb⟩ : ∃ b, w.heap.size = b := ⟨_, rfl⟩
  obtain ⟨B1, hB1⟩ : ∃ B1, B1 = b0 + 1 := ⟨_, rfl⟩
  obtain ⟨W0, hW0⟩ : ∃ W0, w.alloc (.cells #[.int .i64 (s : Int), .int .i64 (k : Int)] 33) = W0 := ⟨_, rfl⟩
  have hs0' : W0.heap.size = B1 := by rw [← hW0, hB1, ← hbb]; simp
  have hbw : Below b0 w W0 := by rw [← hW0, ← hbb]; exact (Below.refl _ _).alloc (Nat.le_refl _) _
  have bx : Blk W0 b0 33 #[.int .i64 (s : Int), .int .i64 (k : Int)] := by rw [← hW0, ← hbb]; exact Blk.new _ _ _
  have y0 : W0.cell? ⟨b0, 0, none⟩ = some (.int .i64 (s : Int)) := bx.cell 0
  have y1 : W0.cell? ⟨b0, 1, none⟩ = some (.int .i64 (k : Int)) := bx.cell 1
  have Y0 := Lib.hid y0
  have Y1 := Lib.hid y1
  have Lt := Lib.hid (show b0 < B1 by omega)
  have HB0 := Lib.hid (show Below B1 W0 W0 from Below.refl _ _)
  have SZ0 := Lib.hid (show B1 ≤ W0.heap.size by omega)
  have HW := Lib.hid hbw
  have HBB := Lib.hid hbb
  have HS0 := Lib.hid hs0'
  rw [← hi]
  -- the row
  have cg : w.cell? ⟨g, 1, none⟩ = some (.slice (some ⟨gb, 0, none⟩) N c) := by rw [hN]; exact h.blk.cell 1
  obtain ⟨gl, c', e, -, -, hcell, -⟩ := ownR_at h.row (by omega)
  injection e with e e2 e3
  injection e with e
  injection e with e
  subst e
  subst e3
  clear e2
  obtain ⟨x0, x1⟩ := hcell i (by omega)
  have hgd : (Rn.list F).getD i (0, 0) = (s, k) := by
    rw [List.getD_eq_getElem?_getD, hL, List.append_assoc, List.getElem?_append_right (by omega), hi, Nat.sub_self]; rfl
  rw [hgd] at x0 x1
  have hiN : (i : Int) < (N : Int) := by omega
  have s0 : (i : Int) + 1 = (j : Int) := by omega
  have bi : i ≤ 100000 := by omega
  have H := Lib.hid h
  have HL := Lib.hid hL
  have HF := Lib.hid hF'
  have Hl := Lib.hid hl
  have HN := Lib.hid hN
  have Hi := Lib.hid hi
  have Hj := Lib.hid hj
  have HLl := Lib.hid hLl
  have Hne := Lib.hid hne
  have Hgb := Lib.hid hgbw
  have hk8 : k ≤ 8192 := by omega
  have hs8 : s ≤ 8192 := by omega
  have ha8 : a ≤ 8192 := by omega
  have hn8 : n ≤ 8192 := by omega
  obtain ⟨t, ht⟩ : ∃ t, t = a + n := ⟨_, rfl⟩
  obtain ⟨e, he⟩ : ∃ e, e = s + k := ⟨_, rfl⟩
  have s1 : (a : Int) + (n : Int) = (t : Int) := by omega
  have ht9 : t ≤ 20000 := by omega
  have he9 : e ≤ 20000 := by omega
  have HE := Lib.hid he
  have HT := Lib.hid ht
  have z1 : decide ((s : Int) < (a : Int)) = false := by rw [decide_eq_false_iff_not]; omega
  have z1' : decide (s < a) = false := by rw [decide_eq_false_iff_not]; omega
  have z2 : decide ((t : Int) < (e : Int)) = true := by rw [decide_eq_true_eq]; omega
  have z2' : decide (t < e) = true := by rw [decide_eq_true_eq]; omega
  obtain ⟨f, hf⟩ : ∃ f, f = e - t := ⟨_, rfl⟩
  have s3 : (e : Int) - (t : Int) = (f : Int) := by omega
  have hf9 : f ≤ 20000 := by omega
  have HFf := Lib.hid hf
  have NE := Lib.hid (fun W : World => end_any W s k (by omega) (by omega))
  rw [← he] at NE
  clear h hL h1 h2 hF' hl d1 d2 hLl hF0 hne hXb hgbw few hsk hN5 hN hi hj hB1 hs0' hbw bx hcell hgd ht he hf
  go_enter Try.func45, Try.ntmps45
  go_wp2_with fail
  refine (NE.out W0).mono ?_
  rintro e9 w9 ⟨rfl, hb9⟩
  have HB9 := Lib.hid (HB0.out.trans (hb9.mono SZ0.out))
  have SZ9 := Lib.hid (Nat.le_trans SZ0.out hb9.size)
  clear hb9
  have y09 : w9.cell? ⟨b0, 0, none⟩ = some (.int .i64 (s : Int)) := (HB9.out.cell (p := ⟨b0, 0, none⟩) Lt.out).trans Y0.out
  have y19 : w9.cell? ⟨b0, 1, none⟩ = some (.int .i64 (k : Int)) := (HB9.out.cell (p := ⟨b0, 1, none⟩) Lt.out).trans Y1.out
  go_wp2_with fail
  refine (NE.out w9).mono ?_
  rintro e10 w10 ⟨rfl, hb10⟩
  have HB10 := Lib.hid (HB9.out.trans (hb10.mono SZ9.out))
  have SZ10 := Lib.hid (Nat.le_trans SZ9.out hb10.size)
  have O10 := Lib.hid (World.ownsRow_nil w10 B1 33 2)
  clear hb10
  have y010 : w10.cell? ⟨b0, 0, none⟩ = some (.int .i64 (s : Int)) := (HB10.out.cell (p := ⟨b0, 0, none⟩) Lt.out).trans Y0.out
  have y110 : w10.cell? ⟨b0, 1, none⟩ = some (.int .i64 (k : Int)) := (HB10.out.cell (p := ⟨b0, 1, none⟩) Lt.out).trans Y1.out
  obtain ⟨Wy, hWy⟩ : ∃ Wy, w10.alloc (.cells #[.int .i64 (t : Int), .int .i64 (f : Int)] 33) = Wy := ⟨_, rfl⟩
  have Oy := Lib.hid (own_keep (w' := Wy) O10.out fun b _ hlt => by rw [← hWy]; exact Below.heap_alloc w10 _ b hlt)
  have Sy := Lib.hid (show Sl Wy (w10.heap.size + 1) (some ⟨w10.heap.size, 0, none⟩) [.int .i64 (t : Int), .int .i64 (f : Int)] by rw [← hWy]; exact sl_two)
  have HBy := Lib.hid (show Below B1 W0 Wy by rw [← hWy]; exact HB10.out.alloc SZ10.out _)
  have SZy := Lib.hid (show B1 ≤ Wy.heap.size by rw [← hWy]; exact Nat.le_trans SZ10.out (by simp))
  go_wp2_with (at_builtin; refine wpList_append_sls (base := B1) _ rfl (.tmp 37) (.tmp 48) _ rfl Try.underlying31 hi0 hz0 hs0 hb0 rfl (by decide) rfl Oy.out (m := 1) (news := [.int .i64 (t : Int), .int .i64 (f : Int)]) rfl rfl (by simp) (Nat.le_refl _) Sy.out (by simp [Value.oneCell']) (by unfold maxLen; simp) (by simp) SZy.out ?_; intro v11 w11 k1 k2 _; have O11 := Lib.hid k1; have HB11 := Lib.hid (HBy.out.grown k2 SZy.out fun g hg => (Oy.out.lt g hg).1); have SZ11 := Lib.hid (Nat.le_trans SZy.out k2.size); clear k2; obtain ⟨A11, c11, rfl⟩ := own_slice k1; clear k1; have cg11 : w11.cell? ⟨g, 1, none⟩ = some (.slice (some ⟨gb, 0, none⟩) N c) := (((HW.out.trans (HB11.out.mono (Nat.le_of_lt Lt.out))).cell (p := ⟨g, 1, none⟩) (by rw [← HBB.out]; exact H.out.blk.lt)).trans cg))
  have HBw := Lib.hid (show Below w.heap.size w w11 by rw [HBB.out]; exact HW.out.trans (HB11.out.mono (Nat.le_of_lt Lt.out)))
  have hrow : w11.ownsRow 0 33 2 (.slice (some ⟨gb, 0, none⟩) N c) N (rcs (Rn.list F)) := by
    have h0 : OwnR w11 0 (.slice (some ⟨gb, 0, none⟩) (Rn.list F).length c) (Rn.list F) := own_keep H.out.row (w' := w11) fun b _ hlt => HBw.out.block b hlt
    unfold OwnR at h0
    rw [← HN.out] at h0
    exact h0
  have hbg : (Value.slice A11 1 c11).ownBlock ≠ some gb := own_ne_none O11.out (Nat.lt_trans (by rw [← HBB.out]; exact Hgb.out) Lt.out)
  have hij : i ≤ j := by have := Hj.out; omega
  have hjN : j ≤ N := by have := Hj.out; have := HLl.out; have := HN.out; have := Hi.out; omega
  have hijm : i = j → 1 ≤ 1 := fun h => by have := Hj.out; omega
  have hv1 : ∀ u ∈ rcs [(t, f)], u.oneCell' = true := rcs_one _
  have hN9 : N + 1 ≤ 100000 := by have := list_len F; have := H.out.few; have := HN.out; omega
  have hown : w11.ownsRow B1 33 2 (.slice A11 1 c11) 1 (rcs [(t, f)]) := O11.out
  have NR := Lib.hid (replace_any (w := w11) (B := 0) (g := gb) (n := N) (c := c) (i := i) (j := j) (m := 1) (vs := rcs [(t, f)]) hrow hown hbg hij hjN hijm (rcs_one _) hv1 hN9)
  clear hrow hbg hij hjN hijm hv1 hN9 hown
  refine NR.out.mono ?_
  rintro e12 w12 ⟨v12, rfl, k1, k2, k3⟩
  obtain ⟨p, hp⟩ : ∃ p, i + 1 + (N - j) = p := ⟨_, rfl⟩
  rw [hp] at k1
  have Hp := Lib.hid hp
  clear hp
  obtain ⟨A12, c12, rfl⟩ := own_slice k1
  clear NR
  have cg12 : w12.cell? ⟨g, 1, none⟩ = some (.slice (some ⟨gb, 0, none⟩) N c) := k2.cell (((HBw.out.cell (p := ⟨g, 1, none⟩) H.out.blk.lt).trans cg)) (fun e => Hne.out (by injection e with e; exact e.symm))
  have fg12 : w12.frozen? ⟨g, 1, none⟩ = false := ((H.out.blk.keep (HBw.out.block g H.out.blk.lt)).grown k2 (fun e => Hne.out (by injection e))).frozen 1
  have Fin := Lib.hid (show OpR RepP g X F' w (w12.setCell ⟨g, 1, none⟩ (.slice A12 p c12)) from put_fin (by have := H.out; rw [← HN.out] at this; exact this) HBw.out (by
    have hll : (Rn.list F').length = i + 1 + (N - j) := by have h5 := HLl.out; have h6 := HN.out; have h7 := Hi.out; have h8 := Hj.out; rw [HF.out]; simp; omega
    unfold OwnR
    rw [hll, HF.out, rcs_app, rcs_app]
    rw [rcs_take, rcs_drop, HL.out] at k1
    rw [List.append_assoc A, List.take_append_of_le_length (Nat.le_of_eq Hi.out), List.take_of_length_le (Nat.le_of_eq Hi.out.symm), ← List.append_assoc, Hj.out, Hi.out, List.drop_append_of_le_length (by simp), List.drop_of_length_le (by simp), List.nil_append] at k1
    have e1 : ([(a + n, s + k - (a + n))] : List (Nat × Nat)) = [(t, f)] := by rw [← HT.out, ← HE.out, ← HFf.out]
    rw [e1, Hp.out]
    exact k1) k2 k3 Hl.out)
  clear k1 k2 k3
  go_wp2_with fail
  refine bodyPost_end (results_none rfl _ _ _) rfl ?_
  exact ⟨rfl, Fin.out⟩
set_option maxRecDepth 8000 in
set_option maxHeartbeats 8000000 in
theorem cut_ff (h : RepV w g X F v) (hL : Rn.list F = A ++ [(s, k)] ++ D) (h1 : s ≤ a) (h2 : 1 ≤ n) (h3 : a + n ≤ s + k) (hF' : Rn.list F' = A ++ [] ++ D) (hl : F'.length = F.length) (d1 : ¬ s < a) (d2 : ¬ a + n < s + k) :
    Calls Try.prog 45 #[.pointer (some ⟨g, 0, none⟩), .int .i64 (A.length : Int), .int .i64 (a : Int), .int .i64 (n : Int)] w fun e w' => e = .returned (.tuple #[]) ∧ OpR RepP g X F' w w' := by
  obtain ⟨i0, hi0, hz0, hs0, hb0⟩ := run_parts
  have hLl : (Rn.list F).length = A.length + 1 + D.length := by rw [hL]; simp; omega
  have hF0 : F ≠ [] := fun e => by rw [e, list_nil] at hLl; simp at hLl; omega
  obtain ⟨gb, c, rfl, hne, hXb, hgbw⟩ := h.form hF0
  have few := h.few
  have hsk : 1 ≤ k ∧ s + k ≤ 8192 := list_b few (s, k) (by rw [hL]; simp)
  have hN5 := Nat.le_trans (list_len F) few
  obtain ⟨N, hN⟩ : ∃ N, N = (Rn.list F).length := ⟨_, rfl⟩
  obtain ⟨i, hi⟩ : ∃ i, i = A.length := ⟨_, rfl⟩
  obtain ⟨j, hj⟩ : ∃ j, j = i + 1 := ⟨_, rfl⟩
  obtain ⟨b0, hbb⟩ : ∃ b, w.heap.size = b := ⟨_, rfl⟩
  obtain ⟨B1, hB1⟩ : ∃ B1, B1 = b0 + 1 := ⟨_, rfl⟩
  obtain ⟨W0, hW0⟩ : ∃ W0, w.alloc (.cells #[.int .i64 (s : Int), .int .i64 (k : Int)] 33) = W0 := ⟨_, rfl⟩
  have hs0' : W0.heap.size = B1 := by rw [← hW0, hB1, ← hbb]; simp
  have hbw : Below b0 w W0 := by rw [← hW0, ← hbb]; exact (Below.refl _ _).alloc (Nat.le_refl _) _
  have bx : Blk W0 b0 33 #[.int .i64 (s : Int), .int .i64 (k : Int)] := by rw [← hW0, ← hbb]; exact Blk.new _ _ _
  have y0 : W0.cell? ⟨b0, 0, none⟩ = some (.int .i64 (s : Int)) := bx.cell 0
  have y1 : W0.cell? ⟨b0, 1, none⟩ = some (.int .i64 (k : Int)) := bx.cell 1
  have Y0 := Lib.hid y0
  have Y1 := Lib.hid y1
  have Lt := Lib.hid (show b0 < B1 by omega)
  have HB0 := Lib.hid (show Below B1 W0 W0 from Below.refl _ _)
  have SZ0 := Lib.hid (show B1 ≤ W0.heap.size by omega)
  have HW := Lib.hid hbw
  have HBB := Lib.hid hbb
  have HS0 := Lib.hid hs0'
  rw [← hi]
  -- the row
  have cg : w.cell? ⟨g, 1, none⟩ = some (.slice (some ⟨gb, 0, none⟩) N c) := by rw [hN]; exact h.blk.cell 1
  obtain ⟨gl, c', e, -, -, hcell, -⟩ := ownR_at h.row (by omega)
  injection e with e e2 e3
  injection e with e
  injection e with e
  subst e
  subst e3
  clear e2
  obtain ⟨x0, x1⟩ := hcell i (by omega)
  have hgd : (Rn.list F).getD i (0, 0) = (s, k) := by
    rw [List.getD_eq_getElem?_getD, hL, List.append_assoc, List.getElem?_append_right (by omega), hi, Nat.sub_self]; rfl
  rw [hgd] at x0 x1
  have hiN : (i : Int) < (N : Int) := by omega
  have s0 : (i : Int) + 1 = (j : Int) := by omega
  have bi : i ≤ 100000 := by omega
  have H := Lib.hid h
  have HL := Lib.hid hL
  have HF := Lib.hid hF'
  have Hl := Lib.hid hl
  have HN := Lib.hid hN
  have Hi := Lib.hid hi
  have Hj := Lib.hid hj
  have HLl := Lib.hid hLl
  have Hne := Lib.hid hne
  have Hgb := Lib.hid hgbw
  have hk8 : k ≤ 8192 := by omega
  have hs8 : s ≤ 8192 := by omega
  have ha8 : a ≤ 8192 := by omega
  have hn8 : n ≤ 8192 := by omega
  obtain ⟨t, ht⟩ : ∃ t, t = a + n := ⟨_, rfl⟩
  obtain ⟨e, he⟩ : ∃ e, e = s + k := ⟨_, rfl⟩
  have s1 : (a : Int) + (n : Int) = (t : Int) := by omega
  have ht9 : t ≤ 20000 := by omega
  have he9 : e ≤ 20000 := by omega
  have HE := Lib.hid he
  have HT := Lib.hid ht
  have z1 : decide ((s : Int) < (a : Int)) = false := by rw [decide_eq_false_iff_not]; omega
  have z1' : decide (s < a) = false := by rw [decide_eq_false_iff_not]; omega
  have z2 : decide ((t : Int) < (e : Int)) = false := by rw [decide_eq_false_iff_not]; omega
  have z2' : decide (t < e) = false := by rw [decide_eq_false_iff_not]; omega
  have NE := Lib.hid (fun W : World => end_any W s k (by omega) (by omega))
  rw [← he] at NE
  clear h hL h1 h2 h3 hF' hl d1 d2 hLl hF0 hne hXb hgbw few hsk hN5 hN hi hj hB1 hs0' hbw bx hcell hgd ht he
  go_enter Try.func45, Try.ntmps45
  go_wp2_with fail
  refine (NE.out W0).mono ?_
  rintro e9 w9 ⟨rfl, hb9⟩
  have HB9 := Lib.hid (HB0.out.trans (hb9.mono SZ0.out))
  have SZ9 := Lib.hid (Nat.le_trans SZ0.out hb9.size)
  clear hb9
  have y09 : w9.cell? ⟨b0, 0, none⟩ = some (.int .i64 (s : Int)) := (HB9.out.cell (p := ⟨b0, 0, none⟩) Lt.out).trans Y0.out
  have y19 : w9.cell? ⟨b0, 1, none⟩ = some (.int .i64 (k : Int)) := (HB9.out.cell (p := ⟨b0, 1, none⟩) Lt.out).trans Y1.out
  have cg9 : w9.cell? ⟨g, 1, none⟩ = some (.slice (some ⟨gb, 0, none⟩) N c) := (((HW.out.trans (HB9.out.mono (Nat.le_of_lt Lt.out))).cell (p := ⟨g, 1, none⟩) (by rw [← HBB.out]; exact H.out.blk.lt)).trans cg)
  have O9 := Lib.hid (World.ownsRow_nil w9 B1 33 2)
  go_wp2_with fail
  have HBw := Lib.hid (show Below w.heap.size w w9 by rw [HBB.out]; exact HW.out.trans (HB9.out.mono (Nat.le_of_lt Lt.out)))
  have hrow : w9.ownsRow 0 33 2 (.slice (some ⟨gb, 0, none⟩) N c) N (rcs (Rn.list F)) := by
    have h0 : OwnR w9 0 (.slice (some ⟨gb, 0, none⟩) (Rn.list F).length c) (Rn.list F) := own_keep H.out.row (w' := w9) fun b _ hlt => HBw.out.block b hlt
    unfold OwnR at h0
    rw [← HN.out] at h0
    exact h0
  have hbg : (Value.slice none 0 0).ownBlock ≠ some gb := own_ne_none O9.out (Nat.lt_trans (by rw [← HBB.out]; exact Hgb.out) Lt.out)
  have hij : i ≤ j := by have := Hj.out; omega
  have hjN : j ≤ N := by have := Hj.out; have := HLl.out; have := HN.out; have := Hi.out; omega
  have hijm : i = j → 1 ≤ 0 := fun h => by have := Hj.out; omega
  have hv1 : ∀ u ∈ rcs [], u.oneCell' = true := rcs_one _
  have hN9 : N + 0 ≤ 100000 := by have := list_len F; have := H.out.few; have := HN.out; omega
  have hown : w9.ownsRow B1 33 2 (.slice none 0 0) 0 (rcs []) := O9.out
  have NR := Lib.hid (replace_any (w := w9) (B := 0) (g := gb) (n := N) (c := c) (i := i) (j := j) (m := 0) (vs := rcs []) hrow hown hbg hij hjN hijm (rcs_one _) hv1 hN9)
  clear hrow hbg hij hjN hijm hv1 hN9 hown
  refine NR.out.mono ?_
  rintro e12 w12 ⟨v12, rfl, k1, k2, k3⟩
  obtain ⟨p, hp⟩ : ∃ p, i + 0 + (N - j) = p := ⟨_, rfl⟩
  rw [hp] at k1
  have Hp := Lib.hid hp
  clear hp
  obtain ⟨A12, c12, rfl⟩ := own_slice k1
  clear NR
  have cg12 : w12.cell? ⟨g, 1, none⟩ = some (.slice (some ⟨gb, 0, none⟩) N c) := k2.cell (((HBw.out.cell (p := ⟨g, 1, none⟩) H.out.blk.lt).trans cg)) (fun e => Hne.out (by injection e with e; exact e.symm))
  have fg12 : w12.frozen? ⟨g, 1, none⟩ = false := ((H.out.blk.keep (HBw.out.block g H.out.blk.lt)).grown k2 (fun e => Hne.out (by injection e))).frozen 1
  have Fin := Lib.hid (show OpR RepP g X F' w (w12.setCell ⟨g, 1, none⟩ (.slice A12 p c12)) from put_fin (by have := H.out; rw [← HN.out] at this; exact this) HBw.out (by
    have hll : (Rn.list F').length = i + 0 + (N - j) := by have h5 := HLl.out; have h6 := HN.out; have h7 := Hi.out; have h8 := Hj.out; rw [HF.out]; simp; omega
    unfold OwnR
    rw [hll, HF.out, rcs_app, rcs_app]
    rw [rcs_take, rcs_drop, HL.out] at k1
    rw [List.append_assoc A, List.take_append_of_le_length (Nat.le_of_eq Hi.out), List.take_of_length_le (Nat.le_of_eq Hi.out.symm), ← List.append_assoc, Hj.out, Hi.out, List.drop_append_of_le_length (by simp), List.drop_of_length_le (by simp), List.nil_append] at k1
    have e1 : ([] : List (Nat × Nat)) = [] := by rfl
    rw [e1, Hp.out]
    exact k1) k2 k3 Hl.out)
  clear k1 k2 k3
  go_wp2_with fail
  refine bodyPost_end (results_none rfl _ _ _) rfl ?_
  exact ⟨rfl, Fin.out⟩
/-- A piece is cut out of a run. -/
theorem cut_any (h : RepV w g X F v) (hL : Rn.list F = A ++ [(s, k)] ++ D) (h1 : s ≤ a) (h2 : 1 ≤ n) (h3 : a + n ≤ s + k) (hF' : Rn.list F' = A ++ Rn.rest s k a n ++ D) (hl : F'.length = F.length) :
    Calls Try.prog 45 #[.pointer (some ⟨g, 0, none⟩), .int .i64 (A.length : Int), .int .i64 (a : Int), .int .i64 (n : Int)] w fun e w' => e = .returned (.tuple #[]) ∧ OpR RepP g X F' w w' := by
  unfold Rn.rest at hF'
  by_cases d1 : s < a <;> by_cases d2 : a + n < s + k
  · rw [if_pos d1, if_pos d2] at hF'
    exact cut_tt h hL h2 hF' hl d1 d2
  · rw [if_pos d1, if_neg d2] at hF'
    exact cut_tf h hL h2 h3 hF' hl d1 d2
  · rw [if_neg d1, if_pos d2] at hF'
    exact cut_ft h hL h1 h2 hF' hl d1 d2
  · rw [if_neg d1, if_neg d2] at hF'
    exact cut_ff h hL h1 h2 h3 hF' hl d1 d2
end
end Go.Proofs.Ytaainefdjbmekaa
