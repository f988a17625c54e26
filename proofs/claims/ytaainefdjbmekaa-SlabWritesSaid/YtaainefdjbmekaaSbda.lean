/- The statements' Node. -/
import Derived.Test.YtaainefdjbmekaaSbcj
import Derived.Deep.RegionHeld3
namespace Go.Proofs.Ytaainefdjbmekaa
open Go.RowKit
theorem nkid_parts : ∃ i, Try.prog.info? 57 = some i ∧ i.zero = some (.agg #[.int .i64 0, .int .i64 0, .int .i64 0]) ∧ i.size = 3 ∧ i.bytes = 24 := by
  have h : (Try.prog.info? 57).map (fun i => (i.zero, i.size, i.bytes)) = some (some (.agg #[.int .i64 0, .int .i64 0, .int .i64 0]), 3, 24) := by kernel_rfl
  obtain ⟨i, hi, hh⟩ := Option.map_eq_some_iff.1 h
  simp only [Prod.mk.injEq] at hh
  exact ⟨i, hi, hh.1, hh.2.1, hh.2.2⟩
theorem nplace_parts : ∃ i, Try.prog.info? 51 = some i ∧ i.zero = some (.agg #[.int .i64 0, .int .i64 0, .int .i64 0]) ∧ i.size = 3 ∧ i.bytes = 24 := by
  have h : (Try.prog.info? 51).map (fun i => (i.zero, i.size, i.bytes)) = some (some (.agg #[.int .i64 0, .int .i64 0, .int .i64 0]), 3, 24) := by kernel_rfl
  obtain ⟨i, hi, hh⟩ := Option.map_eq_some_iff.1 h
  simp only [Prod.mk.injEq] at hh
  exact ⟨i, hi, hh.1, hh.2.1, hh.2.2⟩
theorem nint_parts : ∃ i, Try.prog.info? 3 = some i ∧ i.zero = some (.int .i64 0) ∧ i.size = 1 ∧ i.bytes = 8 := by
  have h : (Try.prog.info? 3).map (fun i => (i.zero, i.size, i.bytes)) = some (some (.int .i64 0), 1, 8) := by kernel_rfl
  obtain ⟨i, hi, hh⟩ := Option.map_eq_some_iff.1 h
  simp only [Prod.mk.injEq] at hh
  exact ⟨i, hi, hh.1, hh.2.1, hh.2.2⟩
theorem own_gr {X Y : World} {base : Nat} {e : TypeId} {size n : Nat} {v : Value} {xs : List Value} (h : X.ownsRow base e size v n xs) (h2 : X.grownBy Y none) : Y.ownsRow base e size v n xs := own_keep h fun b _ hlt => h2.block b hlt (by simp)
theorem own_al {X : World} {base : Nat} {e : TypeId} {size n : Nat} {v : Value} {xs : List Value} (h : X.ownsRow base e size v n xs) (o : Obj) : (X.alloc o).ownsRow base e size v n xs := own_keep h fun b _ hlt => Below.heap_alloc X o b hlt
/-- Five stores into a block, with what a walk asks of them. -/
theorem st5 {W X : World} {H xb : Nat} {t : TypeId} {z0 z1 z2 z3 z4 : Value} (h : Blk X xb t #[z0, z1, z2, z3, z4]) (hH : H ≤ xb) (hb : Below H W X) (v0 v1 v2 v3 v4 : Value) :
    ∃ s1 s2 s3 s4 s5, X.setCell ⟨xb, 0, none⟩ v0 = s1 ∧ s1.setCell ⟨xb, 1, none⟩ v1 = s2 ∧ s2.setCell ⟨xb, 2, none⟩ v2 = s3 ∧ s3.setCell ⟨xb, 3, none⟩ v3 = s4 ∧ s4.setCell ⟨xb, 4, none⟩ v4 = s5 ∧
      (X.frozen? ⟨xb, 0, none⟩ = false ∧ s1.frozen? ⟨xb, 1, none⟩ = false ∧ s2.frozen? ⟨xb, 2, none⟩ = false ∧ s3.frozen? ⟨xb, 3, none⟩ = false ∧ s4.frozen? ⟨xb, 4, none⟩ = false) ∧
      (X.cell? ⟨xb, 0, none⟩ = some z0 ∧ s1.cell? ⟨xb, 1, none⟩ = some z1 ∧ s2.cell? ⟨xb, 2, none⟩ = some z2 ∧ s3.cell? ⟨xb, 3, none⟩ = some z3 ∧ s4.cell? ⟨xb, 4, none⟩ = some z4) ∧
      Blk s5 xb t #[v0, v1, v2, v3, v4] ∧ Below H W s5 ∧ ∀ b, b ≠ xb → s5.heap[b]? = X.heap[b]? := by
  refine ⟨_, _, _, _, _, rfl, rfl, rfl, rfl, rfl, ?_⟩
  have r1 : Blk (X.setCell ⟨xb, 0, none⟩ v0) xb t #[v0, z1, z2, z3, z4] := h.set_ 0 _
  have r2 : Blk ((X.setCell ⟨xb, 0, none⟩ v0).setCell ⟨xb, 1, none⟩ v1) xb t #[v0, v1, z2, z3, z4] := r1.set_ 1 _
  have r3 : Blk (((X.setCell ⟨xb, 0, none⟩ v0).setCell ⟨xb, 1, none⟩ v1).setCell ⟨xb, 2, none⟩ v2) xb t #[v0, v1, v2, z3, z4] := r2.set_ 2 _
  have r4 : Blk ((((X.setCell ⟨xb, 0, none⟩ v0).setCell ⟨xb, 1, none⟩ v1).setCell ⟨xb, 2, none⟩ v2).setCell ⟨xb, 3, none⟩ v3) xb t #[v0, v1, v2, v3, z4] := r3.set_ 3 _
  have r5 : Blk (((((X.setCell ⟨xb, 0, none⟩ v0).setCell ⟨xb, 1, none⟩ v1).setCell ⟨xb, 2, none⟩ v2).setCell ⟨xb, 3, none⟩ v3).setCell ⟨xb, 4, none⟩ v4) xb t #[v0, v1, v2, v3, v4] := r4.set_ 4 _
  refine ⟨⟨h.frozen 0, r1.frozen 1, r2.frozen 2, r3.frozen 3, r4.frozen 4⟩, ⟨h.cell 0, r1.cell 1, r2.cell 2, r3.cell 3, r4.cell 4⟩, r5, ?_, fun b hne => ?_⟩
  · exact ((((hb.setCell (p := ⟨xb, 0, none⟩) hH _).setCell (p := ⟨xb, 1, none⟩) hH _).setCell (p := ⟨xb, 2, none⟩) hH _).setCell (p := ⟨xb, 3, none⟩) hH _).setCell (p := ⟨xb, 4, none⟩) hH _
  · rw [Below.heap_setCell _ _ _ _ hne, Below.heap_setCell _ _ _ _ hne, Below.heap_setCell _ _ _ _ hne, Below.heap_setCell _ _ _ _ hne, Below.heap_setCell _ _ _ _ hne]
theorem own_zero' {w : World} {B : Nat} {e : TypeId} {size n : Nat} {v : Value} {xs : List Value} (h : w.ownsRow B e size v n xs) : w.ownsRow 0 e size v n xs := by
  refine ⟨h.1, ?_⟩
  rcases h.2 with h0 | ⟨g, cap, cur, hv, _, rest⟩
  · exact .inl h0
  · exact .inr ⟨g, cap, cur, hv, Nat.zero_le _, rest⟩
theorem own_ne {X : World} {base : Nat} {e t : TypeId} {size n g : Nat} {v : Value} {xs : List Value} {cs : Array Value} (h : X.ownsRow base e size v n xs) (hg : Blk X g t cs) (hne : e ≠ t) : ∀ b, v.ownBlock = some b → b ≠ g := fun b hb e' => by
  subst e'
  have hrow : Row X (fun _ => True) e size v n xs := ⟨own_zero' h, fun _ _ => trivial⟩
  exact hrow.ne_ hg hne hb
/-- The load of the children's slice, under a name. -/
def ldNode : Op := Op.load 60 (.tmp 24)
/-- A node in the blocks from B on. -/
def NdI (B : Nat) (w : World) (v : Value) (n : Nd.N) : Prop := ∀ u : World, w.heap.size ≤ u.heap.size → (∀ k, B ≤ k → k < w.heap.size → u.heap[k]? = w.heap[k]?) → NdAt u u.heap.size v n
set_option maxRecDepth 8000 in
set_option maxHeartbeats 16000000 in
theorem node_new {w : World} {v : Value} {n : Nd.N} (h : NdAt w w.heap.size v n) (hfw : FewOk n) : Calls Try.prog 19 #[v] w fun e w' => ∃ v', e = .returned v' ∧ NdI w.heap.size w' v' n ∧ Below w.heap.size w w' := by
  obtain ⟨A1, c1, A2, c2, A3, c3, A4, c4, rfl, hf⟩ := h
  obtain ⟨W0, hW0⟩ : ∃ W, w.alloc (.cells #[.int .i64 n.h, .slice A1 n.ks.length c1, .slice A2 n.ps.length c2, .slice A3 n.gs.length c3, .slice A4 n.cs.length c4] 55) = W := ⟨_, rfl⟩
  obtain ⟨W, hW⟩ : ∃ W, W0.alloc (.cells #[.int .i64 0, .slice none 0 0, .slice none 0 0, .slice none 0 0, .slice none 0 0] 62) = W := ⟨_, rfl⟩
  obtain ⟨k1, e1⟩ : ∃ k, k = n.ks.length := ⟨_, rfl⟩
  obtain ⟨k2, e2⟩ : ∃ k, k = n.ps.length := ⟨_, rfl⟩
  obtain ⟨k3, e3⟩ : ∃ k, k = n.gs.length := ⟨_, rfl⟩
  obtain ⟨k4, e4⟩ : ∃ k, k = n.cs.length := ⟨_, rfl⟩
  obtain ⟨b, hb⟩ : ∃ b, w.heap.size = b := ⟨_, rfl⟩
  obtain ⟨rb, hrb⟩ : ∃ b, W0.heap.size = b := ⟨_, rfl⟩
  obtain ⟨bx, hb1⟩ := nd_box hW0
  have by_ : Blk W rb 62 #[.int .i64 0, .slice none 0 0, .slice none 0 0, .slice none 0 0, .slice none 0 0] := by rw [← hW, ← hrb]; exact Blk.new _ _ _
  have hb2 : Below W0.heap.size W0 W := by rw [← hW]; exact (Below.refl _ _).alloc (Nat.le_refl _) _
  have bx := bx.keep (w' := W) (hb2.block _ bx.lt)
  have hbl : Below w.heap.size w W := hb1.trans (hb2.mono hb1.size)
  rw [← e1, ← e2, ← e3, ← e4] at hW0 bx ⊢
  rw [hb] at bx hbl hf ⊢
  obtain ⟨k0, e0⟩ : ∃ k, k = n.h := ⟨_, rfl⟩
  rw [← e0] at hW0 bx ⊢
  have E0 := Lib.hid e0
  have E1 := Lib.hid e1
  have E2 := Lib.hid e2
  have E3 := Lib.hid e3
  have E4 := Lib.hid e4
  obtain ⟨f1, f2, f3, f4⟩ := hfw
  rw [← e1] at f1
  rw [← e2] at f2
  rw [← e3] at f3
  rw [← e4] at f4
  have hrb2 : b < rb := by rw [← hrb, ← hb, ← hW0]; simp
  have hrW : rb < W.heap.size := by_.lt
  obtain ⟨H, hH⟩ : ∃ H, W.heap.size = H := ⟨_, rfl⟩
  have BX := Lib.hid bx
  have BY := Lib.hid by_
  have HB := Lib.hid hbl
  have HF := Lib.hid hf
  have HFW := Lib.hid (hf.below hbl)
  have hbH : b ≤ H := by rw [← hH]; omega
  rw [hH] at hrW
  obtain ⟨i1, hi1, hz1, hs1, hb1'⟩ := nint_parts
  obtain ⟨i2, hi2, hz2, hs2, hb2'⟩ := nplace_parts
  have l1 : (ivs n.ks).length = k1 * 1 := by rw [ivs_len, E1.out]; omega
  have l2 : (tcs n.ps).length = k2 * 3 := by rw [tcs_len, E2.out]
  have l3 : (ivs n.gs).length = k3 * 1 := by rw [ivs_len, E3.out]; omega
  have m1 := (E1.out ▸ HF.out.ks.le : k1 ≤ c1)
  have m2 := (E2.out ▸ HF.out.ps.le : k2 ≤ c2)
  have m3 := (E3.out ▸ HF.out.gs.le : k3 ≤ c3)
  have n1 := HF.out.ks.nil
  have n2 := HF.out.ps.nil
  have n3 := HF.out.gs.nil
  have St := Lib.hid (fun (X : World) (hX : Below H W X) => show Sl X b A1 (ivs n.ks) ∧ Sl X b A2 (tcs n.ps) ∧ Sl X b A3 (ivs n.gs) from
    have h := HB.out.trans (hX.mono hbH)
    ⟨(HF.out.below h).ks.sl, (HF.out.below h).ps.sl, (HF.out.below h).gs.sl⟩)
  have Kp := Lib.hid (fun (X : World) (hX : Below H W X) => show X.cell? ⟨b, 0, none⟩ = some (.int .i64 k0) ∧ X.cell? ⟨b, 1, none⟩ = some (.slice A1 k1 c1) ∧ X.cell? ⟨b, 2, none⟩ = some (.slice A2 k2 c2) ∧ X.cell? ⟨b, 3, none⟩ = some (.slice A3 k3 c3) from by
    have := BX.out.keep (hX.block b (by omega))
    exact ⟨this.cell 0, this.cell 1, this.cell 2, this.cell 3⟩)
  have hHs : ∀ X : World, Below H W X → H ≤ X.heap.size := fun X h => by rw [← hH]; exact h.size
  have x0 : W.cell? ⟨b, 0, none⟩ = some (.int .i64 k0) := bx.cell 0
  have x1 : W.cell? ⟨b, 1, none⟩ = some (.slice A1 k1 c1) := bx.cell 1
  have x2 : W.cell? ⟨b, 2, none⟩ = some (.slice A2 k2 c2) := bx.cell 2
  have x3 : W.cell? ⟨b, 3, none⟩ = some (.slice A3 k3 c3) := bx.cell 3
  clear e0 e1 e2 e3 e4 hb1 hb2 hbl bx by_ hf
  go_enter Try.func19, Try.ntmps19
  go_upto_region 1 with fail
  have hbc := (Below.refl H W).drew
  go_cut [3] (fun s wx => ∃ (xb : Nat) (D1 D2 D3 : Option Addr) (d1 d2 d3 : Nat), s = .pointer (some ⟨xb, 0, none⟩) ∧ H ≤ xb ∧ Below H W wx ∧ Blk wx xb 62 #[.int .i64 k0, .slice D1 k1 d1, .slice D2 k2 d2, .slice D3 k3 d3, .slice none 0 0] ∧ wx.ownsRow H 3 1 (.slice D1 k1 d1) k1 (ivs n.ks) ∧ wx.ownsRow H 51 3 (.slice D2 k2 d2) k2 (tcs n.ps) ∧ wx.ownsRow H 3 1 (.slice D3 k3 d3) k3 (ivs n.gs))
  case first =>
    go_region_held3 (fun X => X.cell? ⟨b, 0, none⟩ = some (.int .i64 k0) ∧ X.cell? ⟨b, 1, none⟩ = some (.slice A1 k1 c1) ∧ X.cell? ⟨b, 2, none⟩ = some (.slice A2 k2 c2) ∧ X.cell? ⟨b, 3, none⟩ = some (.slice A3 k3 c3)) (first | exact Kp.out _ hbs | exact Kp.out _ hbc | exact Kp.out _ (hbc.alloc (hHs _ hbc) _)) (first
      | (refine step_append3 (base := H) _ rfl (.const (.slice none 0 0)) (.tmp 11) _ rfl Try.underlying52 hi2 hz2 hs2 hb2' rfl (by decide) rfl (World.ownsRow_nil _ _ _ _) (m := k2) (news := tcs n.ps) rfl l2 n2 m2 (St.out _ hbc).2.1 (tcs_one _) (by unfold maxLen; omega) (by omega) (hHs _ hbc) ?_; intro v10 w10 h1 h2 _; rw [Nat.zero_add, List.nil_append] at h1; obtain ⟨D2, d2, rfl⟩ := own_slice h1; have G2 := Lib.hid (show World.grownBy _ w10 none from h2); have O1 := Lib.hid (own_gr O1.out G2.out); have hxb := Lib.hid (hxb.out.grown G2.out (by simp)); have O2 := Lib.hid h1; have hbc := hbc.grown h2 (hHs _ hbc) (fun g hg => by cases hg); clear h1 h2)
      | (refine step_append3 (base := H) _ rfl (.const (.slice none 0 0)) (.tmp 14) _ rfl Try.underlying49 hi1 hz1 hs1 hb1' rfl (by decide) rfl (World.ownsRow_nil _ _ _ _) (m := k3) (news := ivs n.gs) rfl l3 n3 m3 (St.out _ hbc).2.2 (ivs_one _) (by unfold maxLen; omega) (by omega) (hHs _ hbc) ?_; intro v11 w11 h1 h2 _; rw [Nat.zero_add, List.nil_append] at h1; obtain ⟨D3, d3, rfl⟩ := own_slice h1; have G3 := Lib.hid (show World.grownBy _ w11 none from h2); have O1 := Lib.hid (own_gr O1.out G3.out); have O2 := Lib.hid (own_gr O2.out G3.out); have hxb := Lib.hid (hxb.out.grown G3.out (by simp)); have O3 := Lib.hid h1; have hbc := hbc.grown h2 (hHs _ hbc) (fun g hg => by cases hg); clear h1 h2; obtain ⟨s1, s2, s3, s4, s5, q1, q2, q3, q4, q5, ⟨f0, f1, f2, f3, f4⟩, ⟨u0, u1, u2, u3, u4⟩, B5, b5, far5⟩ := st5 hxb.out hxH hbc (.int .i64 k0) (.slice D1 k1 d1) (.slice D2 k2 d2) (.slice D3 k3 d3) (.slice none 0 0); have B5 := Lib.hid B5; have hbs := b5; have Far5 := Lib.hid far5; clear far5 b5)
      | (refine step_append3 (base := H) _ rfl (.const (.slice none 0 0)) (.tmp 8) _ rfl Try.underlying49 hi1 hz1 hs1 hb1' rfl (by decide) rfl (World.ownsRow_nil _ _ _ _) (m := k1) (news := ivs n.ks) rfl l1 n1 m1 (St.out _ hbc).1 (ivs_one _) (by unfold maxLen; omega) (by omega) (hHs _ hbc) ?_; intro v9 w9 h1 h2 _; rw [Nat.zero_add, List.nil_append] at h1; obtain ⟨D1, d1, rfl⟩ := own_slice h1; have G1 := Lib.hid (show World.grownBy _ w9 none from h2); have O1 := Lib.hid h1; have hbc := hbc.grown h2 (hHs _ hbc) (fun g hg => by cases hg); clear h1 h2)
      | (refine step_append3 (base := H) _ rfl (.const (.slice none 0 0)) (.tmp 11) _ rfl Try.underlying52 hi2 hz2 hs2 hb2' rfl (by decide) rfl (World.ownsRow_nil _ _ _ _) (m := k2) (news := tcs n.ps) rfl l2 n2 m2 (St.out _ hbc).2.1 (tcs_one _) (by unfold maxLen; omega) (by omega) (hHs _ hbc) ?_; intro v10 w10 h1 h2 _; rw [Nat.zero_add, List.nil_append] at h1; obtain ⟨D2, d2, rfl⟩ := own_slice h1; have G2 := Lib.hid (show World.grownBy _ w10 none from h2); have O1 := Lib.hid (own_gr O1.out G2.out); have O2 := Lib.hid h1; have hbc := hbc.grown h2 (hHs _ hbc) (fun g hg => by cases hg); clear h1 h2)
      | (refine step_append3 (base := H) _ rfl (.const (.slice none 0 0)) (.tmp 14) _ rfl Try.underlying49 hi1 hz1 hs1 hb1' rfl (by decide) rfl (World.ownsRow_nil _ _ _ _) (m := k3) (news := ivs n.gs) rfl l3 n3 m3 (St.out _ hbc).2.2 (ivs_one _) (by unfold maxLen; omega) (by omega) (hHs _ hbc) ?_; intro v11 w11 h1 h2 _; rw [Nat.zero_add, List.nil_append] at h1; obtain ⟨D3, d3, rfl⟩ := own_slice h1; have G3 := Lib.hid (show World.grownBy _ w11 none from h2); have O1 := Lib.hid (own_gr O1.out G3.out); have O2 := Lib.hid (own_gr O2.out G3.out); have O3 := Lib.hid h1; have hbc := hbc.grown h2 (hHs _ hbc) (fun g hg => by cases hg); clear h1 h2)
      | (refine step_append3 (base := H) _ rfl (.const (.slice none 0 0)) (.tmp 8) _ rfl Try.underlying49 hi1 hz1 hs1 hb1' rfl (by decide) rfl (World.ownsRow_nil _ _ _ _) (m := k1) (news := ivs n.ks) rfl l1 n1 m1 (St.out _ (hbc.alloc (hHs _ hbc) _)).1 (ivs_one _) (by unfold maxLen; omega) (by omega) (hHs _ (hbc.alloc (hHs _ hbc) _)) ?_; intro v9 w9 h1 h2 _; rw [Nat.zero_add, List.nil_append] at h1; obtain ⟨D1, d1, rfl⟩ := own_slice h1; have G1 := Lib.hid (show World.grownBy _ w9 none from h2); have hxb := Lib.hid (show Blk w9 H 62 #[.int .i64 0, .slice none 0 0, .slice none 0 0, .slice none 0 0, .slice none 0 0] from by have := (Blk.new W.drew 62 #[.int .i64 0, .slice none 0 0, .slice none 0 0, .slice none 0 0, .slice none 0 0]).grown G1.out (by simp); rw [show W.drew.heap.size = H from hH] at this; exact this); have hxH : H ≤ H := Nat.le_refl _; have O1 := Lib.hid h1; have hbc := (hbc.alloc (hHs _ hbc) _).grown h2 (hHs _ (hbc.alloc (hHs _ hbc) _)) (fun g hg => by cases hg); clear h1 h2)
      | (refine step_append3 (base := H) _ rfl (.const (.slice none 0 0)) (.tmp 11) _ rfl Try.underlying52 hi2 hz2 hs2 hb2' rfl (by decide) rfl (World.ownsRow_nil _ _ _ _) (m := k2) (news := tcs n.ps) rfl l2 n2 m2 (St.out _ (hbc.alloc (hHs _ hbc) _)).2.1 (tcs_one _) (by unfold maxLen; omega) (by omega) (hHs _ (hbc.alloc (hHs _ hbc) _)) ?_; intro v10 w10 h1 h2 _; rw [Nat.zero_add, List.nil_append] at h1; obtain ⟨D2, d2, rfl⟩ := own_slice h1; have G2 := Lib.hid (show World.grownBy _ w10 none from h2); have O1 := Lib.hid (own_gr (own_al O1.out _) G2.out); have hxb := Lib.hid (show Blk w10 w9.heap.size 62 #[.int .i64 0, .slice none 0 0, .slice none 0 0, .slice none 0 0, .slice none 0 0] from (Blk.new w9 62 _).grown G2.out (by simp)); have hxH : H ≤ w9.heap.size := hHs _ hbc; have O2 := Lib.hid h1; have hbc := (hbc.alloc (hHs _ hbc) _).grown h2 (hHs _ (hbc.alloc (hHs _ hbc) _)) (fun g hg => by cases hg); clear h1 h2)
      | (refine step_append3 (base := H) _ rfl (.const (.slice none 0 0)) (.tmp 14) _ rfl Try.underlying49 hi1 hz1 hs1 hb1' rfl (by decide) rfl (World.ownsRow_nil _ _ _ _) (m := k3) (news := ivs n.gs) rfl l3 n3 m3 (St.out _ (hbc.alloc (hHs _ hbc) _)).2.2 (ivs_one _) (by unfold maxLen; omega) (by omega) (hHs _ (hbc.alloc (hHs _ hbc) _)) ?_; intro v11 w11 h1 h2 _; rw [Nat.zero_add, List.nil_append] at h1; obtain ⟨D3, d3, rfl⟩ := own_slice h1; have G3 := Lib.hid (show World.grownBy _ w11 none from h2); have O1 := Lib.hid (own_gr (own_al O1.out _) G3.out); have O2 := Lib.hid (own_gr (own_al O2.out _) G3.out); have hxb := Lib.hid (show Blk w11 w10.heap.size 62 #[.int .i64 0, .slice none 0 0, .slice none 0 0, .slice none 0 0, .slice none 0 0] from (Blk.new w10 62 _).grown G3.out (by simp)); have hxH : H ≤ w10.heap.size := hHs _ hbc; have O3 := Lib.hid h1; have hbc := (hbc.alloc (hHs _ hbc) _).grown h2 (hHs _ (hbc.alloc (hHs _ hbc) _)) (fun g hg => by cases hg); clear h1 h2; obtain ⟨s1, s2, s3, s4, s5, q1, q2, q3, q4, q5, ⟨f0, f1, f2, f3, f4⟩, ⟨u0, u1, u2, u3, u4⟩, B5, b5, far5⟩ := st5 hxb.out hxH hbc (.int .i64 k0) (.slice D1 k1 d1) (.slice D2 k2 d2) (.slice D3 k3 d3) (.slice none 0 0); have B5 := Lib.hid B5; have hbs := b5; have Far5 := Lib.hid far5; clear far5 b5))
    all_goals (go_wp2_with fail)
    all_goals (go_meet)
    all_goals first
      | exact ⟨_, D1, D2, D3, d1, d2, d3, rfl, hHs _ hbc, hbc.alloc (hHs _ hbc) _, Blk.new _ _ _, own_al O1.out _, own_al O2.out _, own_al O3.out _⟩
      | exact ⟨_, D1, D2, D3, d1, d2, d3, rfl, hxH, hbs, B5.out, own_keep O1.out (fun b hb _ => Far5.out b (own_ne O1.out hxb.out (by decide) b hb)), own_keep O2.out (fun b hb _ => Far5.out b (own_ne O2.out hxb.out (by decide) b hb)), own_keep O3.out (fun b hb _ => Far5.out b (own_ne O3.out hxb.out (by decide) b hb))⟩
  case rest =>
  obtain ⟨xb, D1, D2, D3, d1, d2, d3, rfl, hHx, hbx, bz, o1, o2, o3⟩ := hcut
  obtain ⟨M, hM⟩ : ∃ M, wc.heap.size = M := ⟨_, rfl⟩
  have hxM : xb < M := by rw [← hM]; exact bz.lt
  have hxb0 : b < xb := by omega
  have hrx : rb < xb := by omega
  have hrb3 : b ≤ rb := by omega
  have bx2 := Lib.hid (BX.out.keep (w' := wc) (hbx.block b (by omega)))
  have by2 := Lib.hid (BY.out.keep (w' := wc) (hbx.block rb (by omega)))
  have HB2 := Lib.hid (HB.out.trans (hbx.mono hbH))
  have C0 := Lib.hid (show CpI wc wc b M xb 62 57 (.int .i64 k0) (.slice D1 k1 d1) (.slice D2 k2 d2) (.slice D3 k3 d3) (.slice none 0 0) 0 n.cs from
    ⟨bz, World.ownsRow_nil _ _ _ _, fun _ _ _ => rfl, by omega, Below.refl _ _, by omega, by omega⟩)
  have Ne1 := Lib.hid (show (∀ b', (Value.slice D1 k1 d1).ownBlock = some b' → b' ≠ rb) ∧ (∀ b', (Value.slice D1 k1 d1).ownBlock = some b' → b' ≠ xb) from ⟨fun b' h => by have := (o1.lt b' h).1; omega, own_ne o1 bz (by decide)⟩)
  have Ne2 := Lib.hid (show (∀ b', (Value.slice D2 k2 d2).ownBlock = some b' → b' ≠ rb) ∧ (∀ b', (Value.slice D2 k2 d2).ownBlock = some b' → b' ≠ xb) from ⟨fun b' h => by have := (o2.lt b' h).1; omega, own_ne o2 bz (by decide)⟩)
  have Ne3 := Lib.hid (show (∀ b', (Value.slice D3 k3 d3).ownBlock = some b' → b' ≠ rb) ∧ (∀ b', (Value.slice D3 k3 d3).ownBlock = some b' → b' ≠ xb) from ⟨fun b' h => by have := (o3.lt b' h).1; omega, own_ne o3 bz (by decide)⟩)
  have OO1 := Lib.hid o1
  have OO2 := Lib.hid o2
  have OO3 := Lib.hid o3
  have hbM0 : b < M := by omega
  clear o1 o2 o3 bz hbx hbc x0 x1 x2 x3 St Kp hHs n1 n2 n3 m1 m2 m3 l1 l2 l3 hi1 hz1 hs1 hb1' hi2 hz2 hs2 hb2' HFW
  go_wp2_with fail
  obtain ⟨i0, hi0, hz0, hs0, hb0⟩ := nkid_parts
  go_loopw [4] (fun v wr => ∃ (i : Nat) (u : Value), v = .int .i64 (i : Int) ∧ i ≤ k4 ∧ CpI wc wr b M xb 62 57 (.int .i64 k0) (.slice D1 k1 d1) (.slice D2 k2 d2) (.slice D3 k3 d3) u i n.cs) (fun v _ => k4 - (intOf v).toNat)
  case atStart => exact ⟨0, _, rfl, Nat.zero_le _, C0.out⟩
  case round =>
    obtain ⟨i, u, rfl, hi, hC⟩ := hrel
    have HC := Lib.hid hC
    obtain ⟨A5, c5, rfl⟩ := own_slice hC.row
    have hbM : b < M := by omega
    have bw : Blk wr b 55 #[.int .i64 k0, .slice A1 k1 c1, .slice A2 k2 c2, .slice A3 k3 c3, .slice A4 k4 c4] := bx2.out.keep (hC.agr b hbM (by omega))
    have x4 : wr.cell? ⟨b, 4, none⟩ = some (.slice A4 k4 c4) := bw.cell 4
    have y4 : wr.cell? ⟨xb, 4, none⟩ = some (.slice A5 i c5) := hC.blk.cell 4
    clear hC bw
    by_cases hik : i < k4
    · have z0 : decide ((i : Int) < (k4 : Int)) = true := by rw [decide_eq_true_eq]; omega
      have z0' : decide (i < k4) = true := by rw [decide_eq_true_eq]; exact hik
      have hki : (i : Int) < (k4 : Int) := by omega
      have hil : i < n.cs.length := by rw [← E4.out]; exact hik
      obtain ⟨g, o, rfl, hg, -⟩ := HF.out.cs.three hil
      have hgc := HF.out.cs.below (HB2.out.trans HC.out.bel)
      obtain ⟨g', o', q, -, p1, p2, p3⟩ := hgc.three hil
      injection q with q
      injection q with q q'
      subst q; subst q'
      obtain ⟨p, hp⟩ : ∃ p, p = Nd.t3 n.cs i := ⟨_, rfl⟩
      have Hp := Lib.hid hp
      rw [← hp] at p1 p2 p3
      clear hp hgc
      obtain ⟨a, c, e⟩ := p
      dsimp only at p1 p2 p3
      have S1 := Lib.hid (fun (A6 : Option Addr) (c6 : Nat) (w6 : World) => HC.out.step (w6 := w6) (A6 := A6) (c6 := c6) hil (.cells #[.int .i64 a, .int .i64 c, .int .i64 e] 57) Hp.out.symm)
      have Own := Lib.hid (show ((wr.alloc (.cells #[.int .i64 a, .int .i64 c, .int .i64 e] 57)).drew).ownsRow M 57 3 (.slice A5 i c5) i (tcs (n.cs.take i)) from own_keep HC.out.row fun b' _ hlt => Below.heap_alloc wr _ b' hlt)
      have hMs : M ≤ ((wr.alloc (.cells #[.int .i64 a, .int .i64 c, .int .i64 e] 57)).drew).heap.size := by have := HC.out.size; show M ≤ (wr.alloc _).heap.size; simp; omega
      clear hil
      go_wp2_with fail
      have Kp := Lib.hid (fun (X : World) (hX : ∀ b', b' < M → b' ≠ xb → X.heap[b']? = wr.heap[b']?) => show X.cell? ⟨b, 4, none⟩ = some (.slice (some ⟨g, o, none⟩) k4 c4) ∧ X.cell? ⟨g, o + i * 3, none⟩ = some (.int .i64 a) ∧ X.cell? ⟨g, o + i * 3 + 1, none⟩ = some (.int .i64 c) ∧ X.cell? ⟨g, o + i * 3 + 2, none⟩ = some (.int .i64 e) from by
        have e1 := hX b (by omega) (by omega)
        have e2 := hX g (by omega) (by omega)
        unfold World.cell? at x4 p1 p2 p3 ⊢
        rw [e1, e2]
        exact ⟨x4, p1, p2, p3⟩)
      have hw0 : ∀ b', b' < M → b' ≠ xb → (wr.alloc (.cells #[.int .i64 a, .int .i64 c, .int .i64 e] 57)).drew.heap[b']? = wr.heap[b']? := fun b' h _ => Below.heap_alloc wr _ b' (Nat.lt_of_lt_of_le h HC.out.size)
      have hmu : ∀ b', (Value.slice A5 i c5).ownBlock = some b' → M ≤ b' := fun b' h => (HC.out.row.lt b' h).1
      have Hmu := Lib.hid hmu
      have Hw0 := Lib.hid hw0
      clear hw0 hmu
      have y4a : wr.drew.cell? ⟨xb, 4, none⟩ = some (.slice A5 i c5) := y4
      have y4b : (wr.alloc (.cells #[.int .i64 a, .int .i64 c, .int .i64 e] 57)).cell? ⟨xb, 4, none⟩ = some (.slice A5 i c5) := by rw [World.cell?_alloc_lt _ _ _ (World.block_lt_of_cell? _ _ y4)]; exact y4
      have y4c : (wr.alloc (.cells #[.int .i64 a, .int .i64 c, .int .i64 e] 57)).drew.cell? ⟨xb, 4, none⟩ = some (.slice A5 i c5) := y4b
      have y4d : (wr.drew.alloc (.cells #[.int .i64 a, .int .i64 c, .int .i64 e] 57)).cell? ⟨xb, 4, none⟩ = some (.slice A5 i c5) := y4b
      have hld : ldNode = Op.load 60 (.tmp 24) := rfl
      rw [← hld]
      go_region_held_law (fun X => X.cell? ⟨b, 4, none⟩ = some (.slice (some ⟨g, o, none⟩) k4 c4) ∧ X.cell? ⟨g, o + i * 3, none⟩ = some (.int .i64 a) ∧ X.cell? ⟨g, o + i * 3 + 1, none⟩ = some (.int .i64 c) ∧ X.cell? ⟨g, o + i * 3 + 2, none⟩ = some (.int .i64 e)) (first | exact ⟨x4, p1, p2, p3⟩ | exact Kp.out _ Hw0.out | exact Kp.out _ (fun b' h _ => Below.heap_alloc wr _ b' (Nat.lt_of_lt_of_le h HC.out.size)) | exact Kp.out _ h6 | exact Kp.out _ h7) (first
        | (refine step_append3 (base := M) _ rfl (.tmp 25) (.tmp 45) _ rfl Try.underlying60 hi0 hz0 hs0 hb0 rfl (by decide) rfl Own.out (m := 1) (news := [.int .i64 a, .int .i64 c, .int .i64 e]) rfl rfl (by simp) (Nat.le_refl _) sl_threeN (by simp [Value.oneCell']) (by unfold maxLen; omega) (by omega) hMs ?_; intro v6 w6 h1 h2 h3; obtain ⟨A6, c6, rfl⟩ := own_slice h1; obtain ⟨fz, y6, C6⟩ := S1.out A6 c6 w6 h1 h2 h3; have h6 : ∀ b', b' < M → b' ≠ xb → w6.heap[b']? = wr.heap[b']? := (fun b' h hne => (h2.block b' (Nat.lt_of_lt_of_le h hMs) (fun q => by have := Hmu.out b' q.symm; omega)).trans (Hw0.out b' h hne)); have h7 : ∀ b', b' < M → b' ≠ xb → (w6.setCell ⟨xb, 4, none⟩ (.slice A6 (i + 1) c6)).heap[b']? = wr.heap[b']? := (fun b' h hne => (Below.heap_setCell w6 _ _ b' hne).trans (h6 b' h hne)); clear h1 h2 h3))
      all_goals
        go_wp2_with fail
        go_roundw
        case rel => exact ⟨i + 1, _, by go_num, by omega, C6.out⟩
        case measure => simp [intOf]; omega
    · have hik' : i = k4 := by omega
      have z0 : decide ((i : Int) < (k4 : Int)) = false := by rw [decide_eq_false_iff_not]; omega
      have z0' : decide (i < k4) = false := by rw [decide_eq_false_iff_not]; exact hik
      have bq := HC.out.blk
      have q0 : wr.cell? ⟨xb, 0, none⟩ = some (.int .i64 k0) := bq.cell 0
      have q1 : wr.cell? ⟨xb, 1, none⟩ = some (.slice D1 k1 d1) := bq.cell 1
      have q2 : wr.cell? ⟨xb, 2, none⟩ = some (.slice D2 k2 d2) := bq.cell 2
      have q3 : wr.cell? ⟨xb, 3, none⟩ = some (.slice D3 k3 d3) := bq.cell 3
      have br : Blk wr rb 62 #[.int .i64 0, .slice none 0 0, .slice none 0 0, .slice none 0 0, .slice none 0 0] := by2.out.keep (HC.out.agr rb (by omega) (by omega))
      clear bq
      have hrne : xb ≠ rb := by omega
      obtain ⟨w1, hw1⟩ : ∃ W, wr.setCell ⟨rb, 0, none⟩ (.int .i64 k0) = W := ⟨_, rfl⟩
      have r1 : Blk w1 rb 62 #[.int .i64 k0, .slice none 0 0, .slice none 0 0, .slice none 0 0, .slice none 0 0] := by rw [← hw1]; exact br.set_ 0 _
      obtain ⟨w2, hw2⟩ : ∃ W, w1.setCell ⟨rb, 1, none⟩ (.slice D1 k1 d1) = W := ⟨_, rfl⟩
      have r2 : Blk w2 rb 62 #[.int .i64 k0, .slice D1 k1 d1, .slice none 0 0, .slice none 0 0, .slice none 0 0] := by rw [← hw2]; exact r1.set_ 1 _
      obtain ⟨w3, hw3⟩ : ∃ W, w2.setCell ⟨rb, 2, none⟩ (.slice D2 k2 d2) = W := ⟨_, rfl⟩
      have r3 : Blk w3 rb 62 #[.int .i64 k0, .slice D1 k1 d1, .slice D2 k2 d2, .slice none 0 0, .slice none 0 0] := by rw [← hw3]; exact r2.set_ 2 _
      obtain ⟨w4, hw4⟩ : ∃ W, w3.setCell ⟨rb, 3, none⟩ (.slice D3 k3 d3) = W := ⟨_, rfl⟩
      have r4 : Blk w4 rb 62 #[.int .i64 k0, .slice D1 k1 d1, .slice D2 k2 d2, .slice D3 k3 d3, .slice none 0 0] := by rw [← hw4]; exact r3.set_ 3 _
      obtain ⟨w5, hw5⟩ : ∃ W, w4.setCell ⟨rb, 4, none⟩ (.slice A5 i c5) = W := ⟨_, rfl⟩
      have r5 : Blk w5 rb 62 #[.int .i64 k0, .slice D1 k1 d1, .slice D2 k2 d2, .slice D3 k3 d3, .slice A5 i c5] := by rw [← hw5]; exact r4.set_ 4 _
      have far5 : ∀ b', b' ≠ rb → w5.heap[b']? = wr.heap[b']? := fun b' h => by
        rw [← hw5, Below.heap_setCell _ _ _ _ h, ← hw4, Below.heap_setCell _ _ _ _ h, ← hw3, Below.heap_setCell _ _ _ _ h, ← hw2, Below.heap_setCell _ _ _ _ h, ← hw1, Below.heap_setCell _ _ _ _ h]
      have sz5 : w5.heap.size = wr.heap.size := by rw [← hw5, ← hw4, ← hw3, ← hw2, ← hw1]; simp [World.setCell]
      have B5 : Below b w w5 := by
        have h0 := HB2.out.trans HC.out.bel
        have hbr : b ≤ rb := by omega
        rw [← hw5, ← hw4, ← hw3, ← hw2, ← hw1]
        exact ((((h0.setCell (p := ⟨rb, 0, none⟩) hbr _).setCell (p := ⟨rb, 1, none⟩) hbr _).setCell (p := ⟨rb, 2, none⟩) hbr _).setCell (p := ⟨rb, 3, none⟩) hbr _).setCell (p := ⟨rb, 4, none⟩) hbr _
      have O5 : w5.ownsRow M 57 3 (.slice A5 i c5) i (tcs (n.cs.take i)) := own_keep HC.out.row fun b' hb' _ => far5 b' (fun e => by have := (HC.out.row.lt b' hb').1; omega)
      have R1 := own_keep OO1.out fun b' hb' hlt => (far5 b' (Ne1.out.1 b' hb')).trans (HC.out.agr b' (by rw [← hM]; exact hlt) (Ne1.out.2 b' hb'))
      have R2 := own_keep OO2.out fun b' hb' hlt => (far5 b' (Ne2.out.1 b' hb')).trans (HC.out.agr b' (by rw [← hM]; exact hlt) (Ne2.out.2 b' hb'))
      have R3 := own_keep OO3.out fun b' hb' hlt => (far5 b' (Ne3.out.1 b' hb')).trans (HC.out.agr b' (by rw [← hM]; exact hlt) (Ne3.out.2 b' hb'))
      have hall : n.cs.take i = n.cs := List.take_of_length_le (by rw [← E4.out]; omega)
      rw [hall] at O5
      have Fin := Lib.hid (show ∃ v', Ending.returned (.agg #[.int .i64 k0, .slice D1 k1 d1, .slice D2 k2 d2, .slice D3 k3 d3, .slice A5 i c5]) = Ending.returned v' ∧ NdI b w5 v' n ∧ Below b w w5 from by
        refine ⟨_, rfl, fun u hu hk => ?_, B5⟩
        have R1 := own_keep R1 fun b' hb' hlt => hk b' (by have := (R1.lt b' hb').1; omega) hlt
        have R2 := own_keep R2 fun b' hb' hlt => hk b' (by have := (R2.lt b' hb').1; omega) hlt
        have R3 := own_keep R3 fun b' hb' hlt => hk b' (by have := (R3.lt b' hb').1; omega) hlt
        have O5 := own_keep O5 fun b' hb' hlt => hk b' (by have := (O5.lt b' hb').1; omega) hlt
        refine ⟨D1, d1, D2, d2, D3, d3, A5, c5, by rw [← E0.out, ← E1.out, ← E2.out, ← E3.out, ← E4.out, hik'], ?_, ?_, ?_, ⟨?_, own_none O5, own_slW' O5⟩⟩
        · rw [← E1.out]; exact ⟨own_len R1, own_none R1, own_slW' R1⟩
        · rw [← E2.out]; exact ⟨own_len R2, own_none R2, own_slW' R2⟩
        · rw [← E3.out]; exact ⟨own_len R3, own_none R3, own_slW' R3⟩
        rw [← E4.out, ← hik']
        exact own_len O5)
      have a0 := br.cell 0
      have g0 := br.frozen 0
      have a1 := r1.cell 1
      have g1 := r1.frozen 1
      have a2 := r2.cell 2
      have g2 := r2.frozen 2
      have a3 := r3.cell 3
      have g3 := r3.frozen 3
      have a4 := r4.cell 4
      have g4 := r4.frozen 4
      have v0 : w5.cell? ⟨rb, 0, none⟩ = some (.int .i64 k0) := r5.cell 0
      have v1 : w5.cell? ⟨rb, 1, none⟩ = some (.slice D1 k1 d1) := r5.cell 1
      have v2 : w5.cell? ⟨rb, 2, none⟩ = some (.slice D2 k2 d2) := r5.cell 2
      have v3 : w5.cell? ⟨rb, 3, none⟩ = some (.slice D3 k3 d3) := r5.cell 3
      have v4 : w5.cell? ⟨rb, 4, none⟩ = some (.slice A5 i c5) := r5.cell 4
      clear hik' R1 R2 R3 hall O5 B5 sz5 far5 r1 r2 r3 r4 r5 br hrne
      go_wp2_with fail
      refine bodyPost_ret (v := .agg #[.int .i64 k0, .slice D1 k1 d1, .slice D2 k2 d2, .slice D3 k3 d3, .slice A5 i c5]) ?_ rfl Fin.out
      simp [results, Try.results19]
      go_simp
theorem node_any {w : World} {v : Value} {n : Nd.N} (h : NdAt w w.heap.size v n) (hfw : FewOk n) : Calls Try.prog 19 #[v] w fun e w' => ∃ v', e = .returned v' ∧ NdAt w' w'.heap.size v' n ∧ Below w.heap.size w w' := by
  refine (node_new h hfw).mono ?_
  rintro e w' ⟨v', he, hn, hb⟩
  exact ⟨v', he, hn w' (Nat.le_refl _) fun _ _ _ => rfl, hb⟩
end Go.Proofs.Ytaainefdjbmekaa
