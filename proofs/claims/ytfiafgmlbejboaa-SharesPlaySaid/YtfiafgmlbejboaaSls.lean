/- The program's Late, List. -/
import Derived.Test.YtfiafgmlbejboaaSun
namespace Go.Proofs.Ytfiafgmlbejboaa
open Go.RowKit

section
variable {w : World} {g gs : Nat} {X Xr : Nat → Prop} {F : List Bool} {l : List Sk.K} {v : Value}

set_option maxRecDepth 8000 in
set_option maxHeartbeats 8000000 in
theorem slist_late (h : RepSV w g gs X Xr F l v) (hk : KB l) :
    Calls Try.prog 63 #[.pointer (some ⟨gs, 0, none⟩), .func (.func 60) #[] #[]] w fun e w' => ∃ v', e = .returned v' ∧ OwnR w' w.heap.size v' (Sk.runsOf Sk.isL l) ∧ Below w.heap.size w w' := by
  obtain ⟨i0, hi0, hz0, hs0, hb0⟩ := run_parts
  have eg : ∀ a (W : World), (callFunc 60 a).run Try.prog W = .ok (.enter 60 a) W := fun a W => by kernel_rfl
  have H := Lib.hid h
  have HK := Lib.hid hk
  obtain ⟨q, hq⟩ : ∃ q, q = l.length := ⟨_, rfl⟩
  have Hq := Lib.hid hq
  have hq5 : q ≤ 100000 := by rw [hq]; exact hk.few
  obtain ⟨A, c, rfl, -, -⟩ := ownK_slice h.row
  have Kc := Lib.hid (fun (W' : World) (hb : Below w.heap.size w W') => show W'.cell? ⟨gs, 1, none⟩ = some (.slice A q c) by rw [hq]; exact ((h.below hb).blk.cell 1))
  have kc := Kc.out w (Below.refl _ _)
  clear h hk hq
  go_enter Try.func63, Try.ntmps63
  go_wp2_with fail
  clear kc
  go_loopw [5, 15] (fun v5 v15 wr => ∃ i : Nat, v15 = .int .i64 (i : Int) ∧ i ≤ q ∧ OwnR wr w.heap.size v5 (Sk.runsOf Sk.isL (l.take i)) ∧ Below w.heap.size w wr) (fun _ v15 _ => q - (intOf v15).toNat)
  case atStart => exact ⟨0, rfl, Nat.zero_le _, World.ownsRow_nil _ _ _ _, Below.refl _ _⟩
  case round =>
    obtain ⟨i, rfl, hi, own, hb⟩ := hrel
    have HB := Lib.hid hb
    have Own := Lib.hid own
    by_cases hiq : i < q
    · have z0 : decide ((i : Int) < (q : Int)) = true := by rw [decide_eq_true_eq]; omega
      have z0' : decide (i < q) = true := by rw [decide_eq_true_eq]; exact hiq
      obtain ⟨gl, c', hv, -, -, hcell⟩ := ownK_at (H.out.below hb).row (by rw [← Hq.out]; omega)
      injection hv with hA hw1 hw2
      subst hA
      obtain ⟨e1, e2, e3, e4⟩ := hcell i (by rw [← Hq.out]; exact hiq)
      have nx := Sk.runsOf_next (l := l) Sk.isL (show i < l.length by rw [← Hq.out]; exact hiq)
      have fw := Sk.runsOf_few Sk.isL (l.take i)
      rw [List.length_take] at fw
      obtain ⟨L, hL⟩ : ∃ L, L = Sk.runsOf Sk.isL (l.take i) := ⟨_, rfl⟩
      rw [← hL] at nx fw own Own
      obtain ⟨x1, hx1⟩ : ∃ x, x = (Sk.at_ l i).1 := ⟨_, rfl⟩
      obtain ⟨x2, hx2⟩ : ∃ x, x = (Sk.at_ l i).2.1 := ⟨_, rfl⟩
      obtain ⟨x3, hx3⟩ : ∃ x, x = (Sk.at_ l i).2.2.1 := ⟨_, rfl⟩
      obtain ⟨x4, hx4⟩ : ∃ x, x = (Sk.at_ l i).2.2.2 := ⟨_, rfl⟩
      have hx : Sk.at_ l i = (x1, x2, x3, x4) := by rw [hx1, hx2, hx3, hx4]
      rw [← hx1] at e1
      rw [← hx2] at e2
      rw [← hx3] at e3
      rw [← hx4] at e4
      rw [hx] at nx
      dsimp only at nx
      clear hw1 hw2 hcell hb hx1 hx2 hx3 hx4 hx
      obtain ⟨k, hk⟩ : ∃ k, k = L.length := ⟨_, rfl⟩
      have Hk := Lib.hid hk
      have hk5 : k ≤ 100000 := by omega
      obtain ⟨A5, c5, rfl⟩ := ownR_slice own
      obtain ⟨b, hbb⟩ : ∃ b, wr.heap.size = b := ⟨_, rfl⟩
      obtain ⟨W, hW⟩ : ∃ W, wr.alloc (.cells #[.int .i64 (x1 : Int), .int .i64 (x2 : Int), .int .i64 (x3 : Int), .int .i64 (x4 : Int)] 78) = W := ⟨_, rfl⟩
      have BX := Lib.hid (show Blk W b 78 #[.int .i64 (x1 : Int), .int .i64 (x2 : Int), .int .i64 (x3 : Int), .int .i64 (x4 : Int)] by rw [← hW, ← hbb]; exact Blk.new _ _ _)
      have y1 : W.cell? ⟨b, 0, none⟩ = some (.int .i64 (x1 : Int)) := BX.out.cell 0
      have y2 : W.cell? ⟨b, 1, none⟩ = some (.int .i64 (x2 : Int)) := BX.out.cell 1
      have y3 : W.cell? ⟨b, 2, none⟩ = some (.int .i64 (x3 : Int)) := BX.out.cell 2
      have y4 : W.cell? ⟨b, 3, none⟩ = some (.int .i64 (x4 : Int)) := BX.out.cell 3
      have HBW := Lib.hid (show Below w.heap.size w W by rw [← hW]; exact HB.out.alloc HB.out.size _)
      have OwnW := Lib.hid (own_keep Own.out (w' := W) fun b _ hlt => by rw [← hW]; exact Below.heap_alloc wr _ b hlt)
      have NP : ∀ t : Bool, Sk.isL (x1, x2, x3, x4) = t → Hid (Calls Try.prog 60 #[.agg #[.int .i64 (x1 : Int), .int .i64 (x2 : Int), .int .i64 (x3 : Int), .int .i64 (x4 : Int)]] W fun e w' => e = .returned (.bool t) ∧ Below W.heap.size W w') := fun t ht => by subst ht; exact Lib.hid (klate_any x1 x2 x3 x4 W)
      clear own hL hk fw
      by_cases hbl : Sk.isL (x1, x2, x3, x4) = true
      · rw [if_pos hbl] at nx
        have Nx := Lib.hid nx
        have NP := NP true hbl
        clear nx hbl
        go_wp2_with (first
          | (go_at_fn 60; refine NP.out.mono ?_; rintro e w2 ⟨rfl, h2⟩; have H2 := Lib.hid (HBW.out.trans (h2.mono HBW.out.size)); have u1 : w2.cell? ⟨b, 0, none⟩ = some (.int .i64 (x1 : Int)) := (h2.cell (p := ⟨b, 0, none⟩) BX.out.lt).trans y1; have u2 : w2.cell? ⟨b, 1, none⟩ = some (.int .i64 (x2 : Int)) := (h2.cell (p := ⟨b, 1, none⟩) BX.out.lt).trans y2; have Oz := Lib.hid (own_keep OwnW.out (w' := w2.alloc (.cells #[.int .i64 (x1 : Int), .int .i64 (x2 : Int)] 39)) fun b' _ hlt => (Below.heap_alloc w2 _ b' (Nat.lt_of_lt_of_le hlt h2.size)).trans (h2.block b' hlt)); have Bz := Lib.hid (H2.out.alloc H2.out.size (.cells #[.int .i64 (x1 : Int), .int .i64 (x2 : Int)] 39)); clear h2)
          | (at_builtin; refine wpList_append_sls (base := w.heap.size) _ rfl (.tmp 22) (.tmp 25) _ rfl Try.underlying37 hi0 hz0 hs0 hb0 rfl (by decide) rfl Oz.out (m := 1) (news := [.int .i64 (x1 : Int), .int .i64 (x2 : Int)]) rfl rfl (by simp) (Nat.le_refl _) sl_two (by simp [Value.oneCell']) (by unfold maxLen; rw [← Hk.out]; omega) (by rw [← Hk.out]; omega) Bz.out.size ?_; intro v8 w8 k1 k2 _; have K1 := Lib.hid k1; have B8 := Lib.hid (Bz.out.grown k2 Bz.out.size fun g hg => (Oz.out.lt g hg).1); clear k1 k2))
        go_roundw
        case rel => exact ⟨i + 1, by go_num, by omega, by rw [Nx.out]; unfold OwnR; rw [List.length_append, rcs_app]; exact K1.out, B8.out⟩
        case measure => simp [intOf]; omega
      · rw [if_neg hbl, List.append_nil] at nx
        have Nx := Lib.hid nx
        have NP := NP false (by simpa using hbl)
        clear nx hbl
        go_wp2_with (go_at_fn 60; refine NP.out.mono ?_; rintro e w2 ⟨rfl, h2⟩; have H2 := Lib.hid (HBW.out.trans (h2.mono HBW.out.size)); have Oz := Lib.hid (own_keep OwnW.out (w' := w2) fun b' _ hlt => h2.block b' hlt); clear h2)
        go_roundw
        case rel => exact ⟨i + 1, by go_num, by omega, by rw [Nx.out]; exact Oz.out, H2.out⟩
        case measure => simp [intOf]; omega
    · have hiq' : i = q := by omega
      subst hiq'
      have z0 : decide ((i : Int) < (i : Int)) = false := by simp
      have z0' : decide (i < i) = false := by simp
      clear own hb
      go_wp2_with fail
      go_ret
      exact ⟨_, rfl, by have := Own.out; rw [Hq.out, List.take_length] at this; exact this, HB.out⟩

set_option maxRecDepth 8000 in
set_option maxHeartbeats 8000000 in
theorem slist_used (h : RepSV w g gs X Xr F l v) (hk : KB l) :
    Calls Try.prog 63 #[.pointer (some ⟨gs, 0, none⟩), .func (.func 64) #[] #[]] w fun e w' => ∃ v', e = .returned v' ∧ OwnR w' w.heap.size v' (Sk.runsOf (fun k => !Sk.isL k) l) ∧ Below w.heap.size w w' := by
  obtain ⟨i0, hi0, hz0, hs0, hb0⟩ := run_parts
  have eg : ∀ a (W : World), (callFunc 64 a).run Try.prog W = .ok (.enter 64 a) W := fun a W => by kernel_rfl
  have H := Lib.hid h
  have HK := Lib.hid hk
  obtain ⟨q, hq⟩ : ∃ q, q = l.length := ⟨_, rfl⟩
  have Hq := Lib.hid hq
  have hq5 : q ≤ 100000 := by rw [hq]; exact hk.few
  obtain ⟨A, c, rfl, -, -⟩ := ownK_slice h.row
  have Kc := Lib.hid (fun (W' : World) (hb : Below w.heap.size w W') => show W'.cell? ⟨gs, 1, none⟩ = some (.slice A q c) by rw [hq]; exact ((h.below hb).blk.cell 1))
  have kc := Kc.out w (Below.refl _ _)
  clear h hk hq
  go_enter Try.func63, Try.ntmps63
  go_wp2_with fail
  clear kc
  go_loopw [5, 15] (fun v5 v15 wr => ∃ i : Nat, v15 = .int .i64 (i : Int) ∧ i ≤ q ∧ OwnR wr w.heap.size v5 (Sk.runsOf (fun k => !Sk.isL k) (l.take i)) ∧ Below w.heap.size w wr) (fun _ v15 _ => q - (intOf v15).toNat)
  case atStart => exact ⟨0, rfl, Nat.zero_le _, World.ownsRow_nil _ _ _ _, Below.refl _ _⟩
  case round =>
    obtain ⟨i, rfl, hi, own, hb⟩ := hrel
    have HB := Lib.hid hb
    have Own := Lib.hid own
    by_cases hiq : i < q
    · have z0 : decide ((i : Int) < (q : Int)) = true := by rw [decide_eq_true_eq]; omega
      have z0' : decide (i < q) = true := by rw [decide_eq_true_eq]; exact hiq
      obtain ⟨gl, c', hv, -, -, hcell⟩ := ownK_at (H.out.below hb).row (by rw [← Hq.out]; omega)
      injection hv with hA hw1 hw2
      subst hA
      obtain ⟨e1, e2, e3, e4⟩ := hcell i (by rw [← Hq.out]; exact hiq)
      have nx := Sk.runsOf_next (l := l) (fun k => !Sk.isL k) (show i < l.length by rw [← Hq.out]; exact hiq)
      have fw := Sk.runsOf_few (fun k => !Sk.isL k) (l.take i)
      rw [List.length_take] at fw
      obtain ⟨L, hL⟩ : ∃ L, L = Sk.runsOf (fun k => !Sk.isL k) (l.take i) := ⟨_, rfl⟩
      rw [← hL] at nx fw own Own
      obtain ⟨x1, hx1⟩ : ∃ x, x = (Sk.at_ l i).1 := ⟨_, rfl⟩
      obtain ⟨x2, hx2⟩ : ∃ x, x = (Sk.at_ l i).2.1 := ⟨_, rfl⟩
      obtain ⟨x3, hx3⟩ : ∃ x, x = (Sk.at_ l i).2.2.1 := ⟨_, rfl⟩
      obtain ⟨x4, hx4⟩ : ∃ x, x = (Sk.at_ l i).2.2.2 := ⟨_, rfl⟩
      have hx : Sk.at_ l i = (x1, x2, x3, x4) := by rw [hx1, hx2, hx3, hx4]
      rw [← hx1] at e1
      rw [← hx2] at e2
      rw [← hx3] at e3
      rw [← hx4] at e4
      rw [hx] at nx
      dsimp only at nx
      clear hw1 hw2 hcell hb hx1 hx2 hx3 hx4 hx
      obtain ⟨k, hk⟩ : ∃ k, k = L.length := ⟨_, rfl⟩
      have Hk := Lib.hid hk
      have hk5 : k ≤ 100000 := by omega
      obtain ⟨A5, c5, rfl⟩ := ownR_slice own
      obtain ⟨b, hbb⟩ : ∃ b, wr.heap.size = b := ⟨_, rfl⟩
      obtain ⟨W, hW⟩ : ∃ W, wr.alloc (.cells #[.int .i64 (x1 : Int), .int .i64 (x2 : Int), .int .i64 (x3 : Int), .int .i64 (x4 : Int)] 78) = W := ⟨_, rfl⟩
      have BX := Lib.hid (show Blk W b 78 #[.int .i64 (x1 : Int), .int .i64 (x2 : Int), .int .i64 (x3 : Int), .int .i64 (x4 : Int)] by rw [← hW, ← hbb]; exact Blk.new _ _ _)
      have y1 : W.cell? ⟨b, 0, none⟩ = some (.int .i64 (x1 : Int)) := BX.out.cell 0
      have y2 : W.cell? ⟨b, 1, none⟩ = some (.int .i64 (x2 : Int)) := BX.out.cell 1
      have y3 : W.cell? ⟨b, 2, none⟩ = some (.int .i64 (x3 : Int)) := BX.out.cell 2
      have y4 : W.cell? ⟨b, 3, none⟩ = some (.int .i64 (x4 : Int)) := BX.out.cell 3
      have HBW := Lib.hid (show Below w.heap.size w W by rw [← hW]; exact HB.out.alloc HB.out.size _)
      have OwnW := Lib.hid (own_keep Own.out (w' := W) fun b _ hlt => by rw [← hW]; exact Below.heap_alloc wr _ b hlt)
      have NP : ∀ t : Bool, (fun k => !Sk.isL k) (x1, x2, x3, x4) = t → Hid (Calls Try.prog 64 #[.agg #[.int .i64 (x1 : Int), .int .i64 (x2 : Int), .int .i64 (x3 : Int), .int .i64 (x4 : Int)]] W fun e w' => e = .returned (.bool t) ∧ Below W.heap.size W w') := fun t ht => by subst ht; exact Lib.hid (kused_any x1 x2 x3 x4 W)
      clear own hL hk fw
      by_cases hbl : (fun k => !Sk.isL k) (x1, x2, x3, x4) = true
      · rw [if_pos hbl] at nx
        have Nx := Lib.hid nx
        have NP := NP true hbl
        clear nx hbl
        go_wp2_with (first
          | (go_at_fn 64; refine NP.out.mono ?_; rintro e w2 ⟨rfl, h2⟩; have H2 := Lib.hid (HBW.out.trans (h2.mono HBW.out.size)); have u1 : w2.cell? ⟨b, 0, none⟩ = some (.int .i64 (x1 : Int)) := (h2.cell (p := ⟨b, 0, none⟩) BX.out.lt).trans y1; have u2 : w2.cell? ⟨b, 1, none⟩ = some (.int .i64 (x2 : Int)) := (h2.cell (p := ⟨b, 1, none⟩) BX.out.lt).trans y2; have Oz := Lib.hid (own_keep OwnW.out (w' := w2.alloc (.cells #[.int .i64 (x1 : Int), .int .i64 (x2 : Int)] 39)) fun b' _ hlt => (Below.heap_alloc w2 _ b' (Nat.lt_of_lt_of_le hlt h2.size)).trans (h2.block b' hlt)); have Bz := Lib.hid (H2.out.alloc H2.out.size (.cells #[.int .i64 (x1 : Int), .int .i64 (x2 : Int)] 39)); clear h2)
          | (at_builtin; refine wpList_append_sls (base := w.heap.size) _ rfl (.tmp 22) (.tmp 25) _ rfl Try.underlying37 hi0 hz0 hs0 hb0 rfl (by decide) rfl Oz.out (m := 1) (news := [.int .i64 (x1 : Int), .int .i64 (x2 : Int)]) rfl rfl (by simp) (Nat.le_refl _) sl_two (by simp [Value.oneCell']) (by unfold maxLen; rw [← Hk.out]; omega) (by rw [← Hk.out]; omega) Bz.out.size ?_; intro v8 w8 k1 k2 _; have K1 := Lib.hid k1; have B8 := Lib.hid (Bz.out.grown k2 Bz.out.size fun g hg => (Oz.out.lt g hg).1); clear k1 k2))
        go_roundw
        case rel => exact ⟨i + 1, by go_num, by omega, by rw [Nx.out]; unfold OwnR; rw [List.length_append, rcs_app]; exact K1.out, B8.out⟩
        case measure => simp [intOf]; omega
      · rw [if_neg hbl, List.append_nil] at nx
        have Nx := Lib.hid nx
        have NP := NP false (by simpa using hbl)
        clear nx hbl
        go_wp2_with (go_at_fn 64; refine NP.out.mono ?_; rintro e w2 ⟨rfl, h2⟩; have H2 := Lib.hid (HBW.out.trans (h2.mono HBW.out.size)); have Oz := Lib.hid (own_keep OwnW.out (w' := w2) fun b' _ hlt => h2.block b' hlt); clear h2)
        go_roundw
        case rel => exact ⟨i + 1, by go_num, by omega, by rw [Nx.out]; exact Oz.out, H2.out⟩
        case measure => simp [intOf]; omega
    · have hiq' : i = q := by omega
      subst hiq'
      have z0 : decide ((i : Int) < (i : Int)) = false := by simp
      have z0' : decide (i < i) = false := by simp
      clear own hb
      go_wp2_with fail
      go_ret
      exact ⟨_, rfl, by have := Own.out; rw [Hq.out, List.take_length] at this; exact this, HB.out⟩

set_option maxHeartbeats 2000000 in
theorem slatel_any (h : RepSV w g gs X Xr F l v) (hk : KB l) :
    Calls Try.prog 44 #[.pointer (some ⟨gs, 0, none⟩)] w fun e w' => ∃ v', e = .returned v' ∧ OwnR w' w.heap.size v' (Sh.lst true (Sk.ofN l)) ∧ Below w.heap.size w w' := by
  have N1 := Lib.hid (slist_late h hk)
  rw [Sk.lst_late]
  clear h hk
  go_enter Try.func44, Try.ntmps44
  go_wp2_with fail
  refine N1.out.mono ?_
  rintro e w1 ⟨v', rfl, own, hb⟩
  have Own := Lib.hid own
  have HB := Lib.hid hb
  clear own hb N1
  go_wp2_with fail
  go_ret
  exact ⟨_, rfl, Own.out, HB.out⟩

set_option maxHeartbeats 2000000 in
theorem susedl_any (h : RepSV w g gs X Xr F l v) (hk : KB l) :
    Calls Try.prog 41 #[.pointer (some ⟨gs, 0, none⟩)] w fun e w' => ∃ v', e = .returned v' ∧ OwnR w' w.heap.size v' (Sh.lst false (Sk.ofN l)) ∧ Below w.heap.size w w' := by
  have N1 := Lib.hid (slist_used h hk)
  rw [Sk.lst_used]
  clear h hk
  go_enter Try.func41, Try.ntmps41
  go_wp2_with fail
  refine N1.out.mono ?_
  rintro e w1 ⟨v', rfl, own, hb⟩
  have Own := Lib.hid own
  have HB := Lib.hid hb
  clear own hb N1
  go_wp2_with fail
  go_ret
  exact ⟨_, rfl, Own.out, HB.out⟩
end
end Go.Proofs.Ytfiafgmlbejboaa
