/- The program's Settle, Back. -/
import Derived.Test.YtaainefdjbmekaaSbcf
import Derived.BigRegion
namespace Go.Proofs.Ytaainefdjbmekaa
open Go.RowKit
/-- The first i runs levelled by f. -/
def Sk.lvl (f : Sk.K → Sk.K) (r : List Sk.K) (i : Nat) : List Sk.K := (r.take i).map f ++ r.drop i
theorem Sk.lvl_len (f : Sk.K → Sk.K) (r : List Sk.K) (i : Nat) : (Sk.lvl f r i).length = r.length := by
  unfold Sk.lvl
  rw [List.length_append, List.length_map, List.length_take, List.length_drop]
  omega
theorem Sk.lvl_at {f : Sk.K → Sk.K} {r : List Sk.K} {i : Nat} (h : i < r.length) : Sk.at_ (Sk.lvl f r i) i = Sk.at_ r i := by
  unfold Sk.at_ Sk.lvl
  rw [List.getD_eq_getElem?_getD, List.getD_eq_getElem?_getD, List.getElem?_append_right (by rw [List.length_map, List.length_take]; omega), List.length_map, List.length_take, List.getElem?_drop, Nat.min_eq_left (by omega), Nat.sub_self, Nat.add_zero]
theorem Sk.lvl_next {f : Sk.K → Sk.K} {r : List Sk.K} {i : Nat} (h : i < r.length) : (Sk.lvl f r i).set i (f (Sk.at_ r i)) = Sk.lvl f r (i + 1) := by
  have e : r.drop i = Sk.at_ r i :: r.drop (i + 1) := by rw [List.drop_eq_getElem_cons h, Sk.at_eq h]
  have e2 : r.take (i + 1) = r.take i ++ [Sk.at_ r i] := by rw [List.take_add_one, Sk.at_some h]; rfl
  have hl : ((r.take i).map f).length = i := by rw [List.length_map, List.length_take]; omega
  unfold Sk.lvl
  rw [List.set_append_right _ _ (by omega), hl, Nat.sub_self, e, e2, List.set_cons_zero, List.map_append, List.append_assoc]
  rfl
theorem Sk.lvl_all (f : Sk.K → Sk.K) (r : List Sk.K) : Sk.lvl f r r.length = r.map f := by
  unfold Sk.lvl
  rw [List.take_length, List.drop_length, List.append_nil]
theorem Sk.lvl_asc {f : Sk.K → Sk.K} (hf : ∀ k, (f k).1 = k.1) {r : List Sk.K} (h : Sk.Asc r) (i : Nat) : Sk.Asc (Sk.lvl f r i) := by
  have e : (Sk.lvl f r i).map (·.1) = r.map (·.1) := by
    unfold Sk.lvl
    rw [List.map_append, List.map_map, show ((·.1) ∘ f) = fun k : Sk.K => k.1 from funext hf, ← List.map_append, List.take_append_drop]
  have h1 : (r.map (·.1)).Pairwise (· < ·) := List.pairwise_map.2 h
  rw [← e] at h1
  exact List.pairwise_map.1 h1
section
variable {w w1 wr : World} {g gs : Nat} {X Xr X' Xr' : Nat → Prop} {F G : List Bool} {l r : List Sk.K} {v : Value}
theorem scell_sv {b c j : Nat} {u : Value} {l2 : List Sk.K} (h : RepSV w g gs X Xr F l (.slice (some ⟨b, 0, none⟩) l.length c)) (he : (kcs l).set j u = kcs l2) (hl : l2.length = l.length) (hs : Sk.Asc l2) :
    RepSV (w.setCell ⟨b, j, none⟩ u) g gs X Xr F l2 (.slice (some ⟨b, 0, none⟩) l.length c) := by
  obtain ⟨hne, hnX⟩ := h.row_ne (b := b) rfl
  refine ⟨h.blk.far (p := ⟨b, j, none⟩) hne u, ?_, runs0.keep h.map fun k hX => Below.heap_setCell w ⟨b, j, none⟩ u k (fun e => hnX (by have e : k = b := e; rw [← e]; exact hX)), hs, h.at_⟩
  have := (h.row.stored j u).1
  rw [he] at this
  show World.ownsRow _ _ _ _ _ _ _
  rw [hl]
  exact this
theorem lev_fin (h1 : Chg X w w1) (h2 : ∀ b, X' b → X b ∨ w.heap.size ≤ b) (hr : RepSV w1 g gs X' Xr G r v) (h3 : Chg X' w1 wr) (h4 : RepSV wr g gs X' Xr' G l v) : OpS RepB g gs X G (Sk.ofN l) (Sk.ofW l) w wr :=
  ⟨X', ⟨Xr', l, v, h4, rfl, rfl⟩, h2, h1.trans (h3.mono fun b hb => (h2 b hb).imp id fun e => ⟨e, hr.lt hb⟩)⟩
set_option maxRecDepth 8000 in
set_option maxHeartbeats 8000000 in
theorem ssettle_any' (h : RepSV w g gs X Xr F l v) (hk : KB l) :
    Calls Try.prog 17 #[.pointer (some ⟨gs, 0, none⟩)] w fun e w' => e = .returned (.int .i64 (Sh.blocks (Sh.lates (Sk.ofN l)) : Int)) ∧ OpS RepB g gs X (Sh.giveAll F (Sh.lates (Sk.ofN l))) (Sh.used (Sk.ofN l)) (Sh.used (Sk.ofN l)) w w' := by
  have N1 := Lib.hid (sfree_late h hk)
  obtain ⟨S, hS⟩ : ∃ S, S = Sk.sumN Sk.isL l := ⟨_, rfl⟩
  have HS := Lib.hid (show Sh.blocks (Sh.lates (Sk.ofN l)) = S by rw [hS, Sk.lates_is]; rfl)
  rw [← hS] at N1
  rw [HS.out]
  clear hS HS
  have fin : ∀ (w1 : World) (X' Xr' : Nat → Prop) (v' : Value), Chg X w w1 → (∀ b, X' b → X b ∨ w.heap.size ≤ b) → RepSV w1 g gs X' Xr' (Sk.gone Sk.isL F l) (l.filter fun x => !Sk.isL x) v' → ∀ W, Chg X' w1 W → RepSV W g gs X' Xr' (Sk.gone Sk.isL F l) (Sk.lvl Sk.lev1 (l.filter fun x => !Sk.isL x) (l.filter fun x => !Sk.isL x).length) v' → OpS RepB g gs X (Sh.giveAll F (Sh.lates (Sk.ofN l))) (Sh.used (Sk.ofN l)) (Sh.used (Sk.ofN l)) w W := by
    intro w1 X' Xr' v' h1 h2 hr W h3 h4
    have hasc := h.asc
    have := lev_fin h1 h2 hr h3 h4
    rw [Sk.lvl_all, Sk.settle_now, Sk.settle_was] at this
    rw [Sk.lates_is]
    exact this
  have FIN := Lib.hid fin
  have HK := Lib.hid hk
  have hr5 : (l.filter fun x => !Sk.isL x).length ≤ 100000 := Nat.le_trans (List.length_filter_le _ _) hk.few
  have KR := Lib.hid (fun i (hi : i < (l.filter fun x => !Sk.isL x).length) => show (Sk.at_ (l.filter fun x => !Sk.isL x) i).2.2.1 ≤ 1000000000 ∧ (Sk.at_ (l.filter fun x => !Sk.isL x) i).2.2.2 ≤ 1000000000 from by
    have hm : Sk.at_ (l.filter fun x => !Sk.isL x) i ∈ l := by rw [Sk.at_eq hi]; exact (List.filter_sublist (l := l)).subset (List.getElem_mem hi)
    obtain ⟨j, hj, e⟩ := List.mem_iff_getElem.1 hm
    rw [← e, ← Sk.at_eq hj]
    exact (hk.at_ j).2.2)
  clear h hk fin
  go_enter Try.func17, Try.ntmps17
  go_wp2_with fail
  refine N1.out.mono ?_
  rintro e w1 ⟨rfl, X', Xr', v', hr, h2, h1⟩
  clear N1
  have Fin := Lib.hid (FIN.out w1 X' Xr' v' h1 h2 hr)
  clear FIN h1 h2
  obtain ⟨r, hrr⟩ : ∃ r, r = l.filter fun x => !Sk.isL x := ⟨_, rfl⟩
  rw [← hrr] at hr5 hr KR Fin
  obtain ⟨q, hq⟩ : ∃ q, q = r.length := ⟨_, rfl⟩
  have Hq := Lib.hid hq
  rw [← hq] at hr5 KR Fin
  obtain ⟨G, hG⟩ : ∃ G, G = Sk.gone Sk.isL F l := ⟨_, rfl⟩
  rw [← hG] at hr Fin
  obtain ⟨A, c, rfl, -, -⟩ := ownK_slice hr.row
  have g1 : w1.cell? ⟨gs, 1, none⟩ = some (.slice A q c) := by rw [hq]; exact hr.blk.cell 1
  have HR := Lib.hid hr
  rw [← hq] at Fin
  clear hrr hq hG hr
  go_wp2_with fail
  clear g1
  go_loopw [14] (fun vi wr => ∃ i : Nat, vi = .int .i64 (i : Int) ∧ i ≤ q ∧ RepSV wr g gs X' Xr' G (Sk.lvl Sk.lev1 r i) (.slice A q c) ∧ Chg X' w1 wr) (fun vi _ => q - (intOf vi).toNat)
  case atStart => exact ⟨0, rfl, Nat.zero_le _, by rw [Hq.out]; exact HR.out, Chg.refl _ _⟩
  case round =>
    obtain ⟨i, rfl, hi, hsv, hch⟩ := hrel
    by_cases hiq : i < q
    · have z0 : decide ((i : Int) < (q : Int)) = true := by rw [decide_eq_true_eq]; omega
      have z0' : decide (i < q) = true := by rw [decide_eq_true_eq]; exact hiq
      have hqi : (i : Int) < (q : Int) := by omega
      have hil : i < r.length := by rw [← Hq.out]; exact hiq
      have hll := Sk.lvl_len Sk.lev1 r i
      rw [← Hq.out] at hll
      obtain ⟨gl, c', e, -, -, hcell⟩ := ownK_at hsv.row (by omega)
      injection e with e e2 e3
      subst e
      subst e3
      clear e2
      obtain ⟨-, -, c3, c4⟩ := hcell i (by omega)
      rw [Sk.lvl_at hil] at c3 c4
      have hb9 := KR.out i hiq
      have hrow : wr.ownsRow 0 84 4 (.slice (some ⟨gl, 0, none⟩) q c) q (kcs (Sk.lvl Sk.lev1 r i)) := by have h := hsv.row; unfold OwnK at h; rw [hll] at h; exact h
      have fz := hrow.frozenAt (i * 4 + 3)
      clear hrow
      have g1 : wr.cell? ⟨gs, 1, none⟩ = some (.slice (some ⟨gl, 0, none⟩) q c) := hsv.blk.cell 1
      have nx := scell_sv (j := i * 4 + 3) (u := .int .i64 ((Sk.at_ r i).2.2.1 : Int)) (l2 := Sk.lvl Sk.lev1 r (i + 1)) (c := c) (l := Sk.lvl Sk.lev1 r i) (by rw [hll]; exact hsv) (by
        rw [kcs_set _ _ _ (by omega), ← Sk.lvl_next hil, Sk.lvl_at hil]
        rfl) (by rw [Sk.lvl_len, Sk.lvl_len]) (Sk.lvl_asc (f := Sk.lev1) (fun _ => rfl) HR.out.asc (i + 1))
      rw [hll] at nx
      have hXg : X' gl := (hsv.at_ gl).2 (.inr (.inr rfl))
      have ch2 := hch.setCell (p := ⟨gl, i * 4 + 3, none⟩) (.inl hXg) (.int .i64 ((Sk.at_ r i).2.2.1 : Int))
      clear hcell hch hsv hXg hil hll
      obtain ⟨x3, hx3⟩ : ∃ x, x = (Sk.at_ r i).2.2.1 := ⟨_, rfl⟩
      obtain ⟨x4, hx4⟩ : ∃ x, x = (Sk.at_ r i).2.2.2 := ⟨_, rfl⟩
      rw [← hx3] at c3 hb9
      rw [← hx4] at c4 hb9
      rw [← hx3] at nx ch2
      have x39 := hb9.1
      have x49 := hb9.2
      clear hx3 hx4 hb9
      have NX := Lib.hid (fun (W : World) (hW : W.heap = (wr.setCell ⟨gl, i * 4 + 3, none⟩ (.int .i64 (x3 : Int))).heap) => show RepSV W g gs X' Xr' G (Sk.lvl Sk.lev1 r (i + 1)) (.slice (some ⟨gl, 0, none⟩) q c) from nx.keep fun b _ => by rw [hW])
      have CH := Lib.hid ch2
      clear nx ch2
      go_upto_region 7 with fail
      go_region
      go_wp2_with fail
      go_roundw
      case rel => exact ⟨i + 1, by go_num, by omega, NX.out _ rfl, CH.out.drew⟩
      case measure => simp [intOf]; omega
    · have hiq' : i = q := by omega
      subst hiq'
      have z0 : decide ((i : Int) < (i : Int)) = false := by simp
      have z0' : decide (i < i) = false := by simp
      go_wp2_with fail
      go_ret
      exact ⟨rfl, Fin.out _ hch hsv⟩
set_option maxRecDepth 8000 in
set_option maxHeartbeats 8000000 in
theorem sback_any' (h : RepSV w g gs X Xr F l v) (hk : KB l) :
    Calls Try.prog 12 #[.pointer (some ⟨gs, 0, none⟩)] w fun e w' => e = .returned (.tuple #[]) ∧ OpS RepB g gs X (Sh.giveAll F (Sh.news (Sk.ofN l) (Sk.ofW l))) (Sk.ofW l) (Sk.ofW l) w w' := by
  have N1 := Lib.hid (sfree_added h hk)
  obtain ⟨S, hS⟩ : ∃ S, S = Sk.sumN Sk.isA l := ⟨_, rfl⟩
  rw [← hS] at N1
  clear hS
  have fin : ∀ (w1 : World) (X' Xr' : Nat → Prop) (v' : Value), Chg X w w1 → (∀ b, X' b → X b ∨ w.heap.size ≤ b) → RepSV w1 g gs X' Xr' (Sk.gone Sk.isA F l) (l.filter fun x => !Sk.isA x) v' → ∀ W, Chg X' w1 W → RepSV W g gs X' Xr' (Sk.gone Sk.isA F l) (Sk.lvl Sk.lev2 (l.filter fun x => !Sk.isA x) (l.filter fun x => !Sk.isA x).length) v' → OpS RepB g gs X (Sh.giveAll F (Sh.news (Sk.ofN l) (Sk.ofW l))) (Sk.ofW l) (Sk.ofW l) w W := by
    intro w1 X' Xr' v' h1 h2 hr W h3 h4
    have hasc := h.asc
    have := lev_fin h1 h2 hr h3 h4
    rw [Sk.lvl_all, Sk.back_now, Sk.back_was] at this
    rw [Sk.news_is hasc]
    exact this
  have FIN := Lib.hid fin
  have HK := Lib.hid hk
  have hr5 : (l.filter fun x => !Sk.isA x).length ≤ 100000 := Nat.le_trans (List.length_filter_le _ _) hk.few
  have KR := Lib.hid (fun i (hi : i < (l.filter fun x => !Sk.isA x).length) => show (Sk.at_ (l.filter fun x => !Sk.isA x) i).2.2.1 ≤ 1000000000 ∧ (Sk.at_ (l.filter fun x => !Sk.isA x) i).2.2.2 ≤ 1000000000 from by
    have hm : Sk.at_ (l.filter fun x => !Sk.isA x) i ∈ l := by rw [Sk.at_eq hi]; exact (List.filter_sublist (l := l)).subset (List.getElem_mem hi)
    obtain ⟨j, hj, e⟩ := List.mem_iff_getElem.1 hm
    rw [← e, ← Sk.at_eq hj]
    exact (hk.at_ j).2.2)
  clear h hk fin
  go_enter Try.func12, Try.ntmps12
  go_wp2_with fail
  refine N1.out.mono ?_
  rintro e w1 ⟨rfl, X', Xr', v', hr, h2, h1⟩
  clear N1
  have Fin := Lib.hid (FIN.out w1 X' Xr' v' h1 h2 hr)
  clear FIN h1 h2
  obtain ⟨r, hrr⟩ : ∃ r, r = l.filter fun x => !Sk.isA x := ⟨_, rfl⟩
  rw [← hrr] at hr5 hr KR Fin
  obtain ⟨q, hq⟩ : ∃ q, q = r.length := ⟨_, rfl⟩
  have Hq := Lib.hid hq
  rw [← hq] at hr5 KR Fin
  obtain ⟨G, hG⟩ : ∃ G, G = Sk.gone Sk.isA F l := ⟨_, rfl⟩
  rw [← hG] at hr Fin
  obtain ⟨A, c, rfl, -, -⟩ := ownK_slice hr.row
  have g1 : w1.cell? ⟨gs, 1, none⟩ = some (.slice A q c) := by rw [hq]; exact hr.blk.cell 1
  have HR := Lib.hid hr
  rw [← hq] at Fin
  clear hrr hq hG hr
  go_wp2_with fail
  clear g1
  go_loopw [12] (fun vi wr => ∃ i : Nat, vi = .int .i64 (i : Int) ∧ i ≤ q ∧ RepSV wr g gs X' Xr' G (Sk.lvl Sk.lev2 r i) (.slice A q c) ∧ Chg X' w1 wr) (fun vi _ => q - (intOf vi).toNat)
  case atStart => exact ⟨0, rfl, Nat.zero_le _, by rw [Hq.out]; exact HR.out, Chg.refl _ _⟩
  case round =>
    obtain ⟨i, rfl, hi, hsv, hch⟩ := hrel
    by_cases hiq : i < q
    · have z0 : decide ((i : Int) < (q : Int)) = true := by rw [decide_eq_true_eq]; omega
      have z0' : decide (i < q) = true := by rw [decide_eq_true_eq]; exact hiq
      have hqi : (i : Int) < (q : Int) := by omega
      have hil : i < r.length := by rw [← Hq.out]; exact hiq
      have hll := Sk.lvl_len Sk.lev2 r i
      rw [← Hq.out] at hll
      obtain ⟨gl, c', e, -, -, hcell⟩ := ownK_at hsv.row (by omega)
      injection e with e e2 e3
      subst e
      subst e3
      clear e2
      obtain ⟨-, -, c3, c4⟩ := hcell i (by omega)
      rw [Sk.lvl_at hil] at c3 c4
      have hb9 := KR.out i hiq
      have hrow : wr.ownsRow 0 84 4 (.slice (some ⟨gl, 0, none⟩) q c) q (kcs (Sk.lvl Sk.lev2 r i)) := by have h := hsv.row; unfold OwnK at h; rw [hll] at h; exact h
      have fz := hrow.frozenAt (i * 4 + 2)
      clear hrow
      have g1 : wr.cell? ⟨gs, 1, none⟩ = some (.slice (some ⟨gl, 0, none⟩) q c) := hsv.blk.cell 1
      have nx := scell_sv (j := i * 4 + 2) (u := .int .i64 ((Sk.at_ r i).2.2.2 : Int)) (l2 := Sk.lvl Sk.lev2 r (i + 1)) (c := c) (l := Sk.lvl Sk.lev2 r i) (by rw [hll]; exact hsv) (by
        rw [kcs_put _ _ _ (by omega), ← Sk.lvl_next hil, Sk.putU, Sk.lvl_at hil]
        rfl) (by rw [Sk.lvl_len, Sk.lvl_len]) (Sk.lvl_asc (f := Sk.lev2) (fun _ => rfl) HR.out.asc (i + 1))
      rw [hll] at nx
      have hXg : X' gl := (hsv.at_ gl).2 (.inr (.inr rfl))
      have ch2 := hch.setCell (p := ⟨gl, i * 4 + 2, none⟩) (.inl hXg) (.int .i64 ((Sk.at_ r i).2.2.2 : Int))
      clear hcell hch hsv hXg hil hll
      obtain ⟨x3, hx3⟩ : ∃ x, x = (Sk.at_ r i).2.2.1 := ⟨_, rfl⟩
      obtain ⟨x4, hx4⟩ : ∃ x, x = (Sk.at_ r i).2.2.2 := ⟨_, rfl⟩
      rw [← hx3] at c3 hb9
      rw [← hx4] at c4 hb9
      rw [← hx4] at nx ch2
      have x39 := hb9.1
      have x49 := hb9.2
      clear hx3 hx4 hb9
      have NX := Lib.hid (fun (W : World) (hW : W.heap = (wr.setCell ⟨gl, i * 4 + 2, none⟩ (.int .i64 (x4 : Int))).heap) => show RepSV W g gs X' Xr' G (Sk.lvl Sk.lev2 r (i + 1)) (.slice (some ⟨gl, 0, none⟩) q c) from nx.keep fun b _ => by rw [hW])
      have CH := Lib.hid ch2
      clear nx ch2
      go_upto_region 5 with fail
      go_region
      go_wp2_with fail
      go_roundw
      case rel => exact ⟨i + 1, by go_num, by omega, NX.out _ rfl, CH.out.drew⟩
      case measure => simp [intOf]; omega
    · have hiq' : i = q := by omega
      subst hiq'
      have z0 : decide ((i : Int) < (i : Int)) = false := by simp
      have z0' : decide (i < i) = false := by simp
      go_wp2_with fail
      refine bodyPost_end (results_none rfl _ _ _) rfl ?_
      exact ⟨rfl, Fin.out _ hch hsv⟩
end
end Go.Proofs.Ytaainefdjbmekaa
