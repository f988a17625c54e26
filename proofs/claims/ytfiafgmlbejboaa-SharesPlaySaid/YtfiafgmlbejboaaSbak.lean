/- The document's Shares: Back. -/
import Derived.Test.YtfiafgmlbejboaaSset
namespace Go.Proofs.Ytfiafgmlbejboaa
open Go.RowKit

theorem Sh.news_next {l was : List Sh.U} {i : Nat} (h : i < l.length) : Sh.news (l.take (i + 1)) was = Sh.news (l.take i) was ++ if (was.any fun o => decide (o.1 = (Sh.at_ l i).1)) = true then [] else [Sh.at_ l i] := by
  unfold Sh.news
  rw [Sh.take_next h, List.filter_append]
  congr 1
  by_cases c : (was.any fun o => decide (o.1 = (Sh.at_ l i).1)) = true
  · rw [if_pos c]; simp only [List.filter_cons, c, List.filter_nil]; rfl
  · rw [if_neg c]; rw [Bool.not_eq_true] at c; simp only [List.filter_cons, c, List.filter_nil]; rfl
theorem Sh.any_next {was : List Sh.U} {k : Nat} (x : Nat) (h : k < was.length) : ((was.take (k + 1)).any fun o => decide (o.1 = x)) = (((was.take k).any fun o => decide (o.1 = x)) || decide ((Sh.at_ was k).1 = x)) := by
  rw [Sh.take_next h, List.any_append]
  simp

section
variable {w : World} {B gs gm gb : Nat} {F : List Bool} {now was : List Sh.U}
set_option maxRecDepth 8000 in
set_option maxHeartbeats 8000000 in
theorem sback_any (h : SRef w B gs gm gb F now was) (hB : B ≤ w.heap.size) :
    Calls Try.prog 38 #[.pointer (some ⟨gs, 0, none⟩)] w fun e w' => e = .returned (.tuple #[]) ∧ SRef w' B gs gm gb (Sh.giveAll F (Sh.news now was)) was was ∧ Chg (fun b => b = gs ∨ b = gb) w w' := by
  obtain ⟨i0, hi0, hz0, hs0, hb0⟩ := use_parts
  obtain ⟨v1, v2, hbk, hu1, hu2⟩ := h.sh
  obtain ⟨A, c, rfl, hc, hA⟩ := ownU_slice hu1
  obtain ⟨A2, c2, rfl, hc2, hA2⟩ := ownU_slice hu2
  obtain ⟨q, hq⟩ : ∃ q, q = now.length := ⟨_, rfl⟩
  obtain ⟨q2, hq2⟩ : ∃ q, q = was.length := ⟨_, rfl⟩
  have hq5 : q ≤ 100000 := by rw [hq]; exact h.ok.1
  have hq25 : q2 ≤ 100000 := by rw [hq2]; exact h.ok2.1
  have OK := Lib.hid h.ok
  have OK2 := Lib.hid h.ok2
  have hngs : gs ≠ gb := fun e => (hbk.ne_ h.map.blks (by decide)) e
  have hngm : gm ≠ gs := fun e => (h.map.map.ne_ hbk (by decide)) e
  have hv1 := ownU_ne hu1 h.map.blks (by decide)
  have hv2 := ownU_ne hu2 h.map.blks (by decide)
  have hv3 := ownU_ne hu2 hbk (by decide)
  have Fc := Lib.hid (fun X (hc : Chg (fun b => b = gb) w X) => show Blk X gs 75 #[.pointer (some ⟨gm, 0, none⟩), .slice A q c, .slice A2 q2 c2] ∧ OwnU X B (.slice A now.length c) now ∧ OwnU X B (.slice A2 was.length c2) was from
    ⟨by rw [hq, hq2]; exact hbk.keep (hc.block gs hbk.lt hngs), own_keep hu1 fun b hb hlt => hc.block b hlt fun e => hv1 (by rw [hb, e]), own_keep hu2 fun b hb hlt => hc.block b hlt fun e => hv2 (by rw [hb, e])⟩)
  have HQ := Lib.hid hq
  have HQ2 := Lib.hid hq2
  have st0 : RRef w gm gb (Sh.giveAll F (Sh.news (now.take 0) was)) ∧ Chg (fun b => b = gb) w w := ⟨h.map, Chg.refl _ _⟩
  have HV3 := Lib.hid hv3
  rw [← hq2] at hc2
  clear hbk hu1 hu2 hq hq2 hv1 hv2 hv3 h hc hA
  go_enter Try.func38, Try.ntmps38
  go_wp2_with fail
  go_loopw [2] (fun v wr => ∃ i : Nat, v = .int .i64 (i : Int) ∧ i ≤ q ∧ RRef wr gm gb (Sh.giveAll F (Sh.news (now.take i) was)) ∧ Chg (fun b => b = gb) w wr) (fun v _ => q - (intOf v).toNat)
  case atStart => exact ⟨0, rfl, Nat.zero_le _, st0⟩
  case round =>
    obtain ⟨i, rfl, hi, hmap, hchg⟩ := hrel
    clear st0
    obtain ⟨hbk, hu1, hu2⟩ := Fc.out _ hchg
    have cn : wr.cell? ⟨gs, 1, none⟩ = some (.slice A q c) := hbk.cell 1
    have cw : wr.cell? ⟨gs, 2, none⟩ = some (.slice A2 q2 c2) := hbk.cell 2
    have c0 : wr.cell? ⟨gs, 0, none⟩ = some (.pointer (some ⟨gm, 0, none⟩)) := hbk.cell 0
    by_cases hiq : i < q
    · have z0 : decide ((i : Int) < (q : Int)) = true := by rw [decide_eq_true_eq]; omega
      have z0' : decide (i < q) = true := by rw [decide_eq_true_eq]; exact hiq
      have hin : i < now.length := by rw [← HQ.out]; exact hiq
      obtain ⟨g, c', hv, -, -, hcell⟩ := ownU_at hu1 (by omega)
      injection hv with hA hw1 hw2
      subst hA
      obtain ⟨e1, e2, -⟩ := hcell i hin
      obtain ⟨x1, x2, -⟩ := OK.out.at_ i
      have n1 := Sh.news_next (was := was) hin
      obtain ⟨⟨a, n, us⟩, hu⟩ : ∃ u, u = Sh.at_ now i := ⟨_, rfl⟩
      rw [← hu] at e1 e2 n1 x1 x2
      dsimp only at e1 e2 n1 x1 x2
      have HU := Lib.hid hu
      have N1 := Lib.hid n1
      have MP := Lib.hid hmap
      have CH := Lib.hid hchg
      have BG := Lib.hid hbk
      have U1 := Lib.hid hu1
      have U2 := Lib.hid hu2
      clear hw1 hw2 hcell n1 hu hbk hu1 hu2 hmap hchg
      go_wp2_with fail
      go_loopw [3, 4] (fun v3 v4 wk => ∃ k : Nat, v4 = .int .i64 (k : Int) ∧ k ≤ q2 ∧ v3 = .bool ((was.take k).any fun o => decide (o.1 = a)) ∧ ∃ m, wk = wr.drewN m) (fun _ v4 _ => q2 - (intOf v4).toNat)
      case atStart => exact ⟨0, rfl, Nat.zero_le _, rfl, 0, (drewN_zero _).symm⟩
      case round =>
        obtain ⟨k, rfl, hk, rfl, m, rfl⟩ := hrel
        by_cases hkq : k < q2
        · have z1 : decide ((k : Int) < (q2 : Int)) = true := by rw [decide_eq_true_eq]; omega
          have z1' : decide (k < q2) = true := by rw [decide_eq_true_eq]; exact hkq
          have hkn : k < was.length := by rw [← HQ2.out]; exact hkq
          obtain ⟨g2, c2', hv2, -, -, hcell2⟩ := ownU_at U2.out (by omega)
          injection hv2 with hA hw1 hw2
          subst hA
          obtain ⟨f1, -⟩ := hcell2 k hkn
          have nx := Sh.any_next a hkn
          obtain ⟨y, hy⟩ : ∃ y, y = (Sh.at_ was k).1 := ⟨_, rfl⟩
          rw [← hy] at f1 nx
          obtain ⟨old, hold⟩ : ∃ old, old = (was.take k).any fun o => decide (o.1 = a) := ⟨_, rfl⟩
          rw [← hold] at nx ⊢
          clear hw1 hw2 hcell2 hy hold hkn
          have Nx := Lib.hid nx
          clear nx
          cases old with
          | true =>
            go_wp2_with fail
            go_quiet (fail)
            go_wp2_with fail
            go_roundw
            case rel => exact ⟨k + 1, by go_num, by omega, by rw [Nx.out]; rfl, m + nq, rfl⟩
            case measure => simp [intOf]; omega
          | false =>
            have zy : ((y : Int) == (a : Int)) = decide (y = a) := by
              by_cases hya : y = a
              · rw [decide_eq_true hya, beq_iff_eq]; omega
              · rw [decide_eq_false hya, beq_eq_false_iff_ne]; omega
            cases hd : decide (y = a)
            all_goals
              rw [hd] at zy Nx
              go_wp2_with fail
              go_quiet (fail)
              go_wp2_with fail
              go_roundw
              case rel => exact ⟨k + 1, by go_num, by omega, by rw [Nx.out]; rfl, m + nq, rfl⟩
              case measure => simp [intOf]; omega
        · have hkq' : k = q2 := by omega
          have z1 : decide ((k : Int) < (q2 : Int)) = false := by rw [decide_eq_false_iff_not]; omega
          have z1' : decide (k < q2) = false := by rw [decide_eq_false_iff_not]; exact hkq
          have htk : was.take k = was := by rw [hkq', HQ2.out, List.take_length]
          rw [htk]
          clear hkq' htk
          have B9 := Lib.hid (drewN_below (w := wr) m)
          cases hold : was.any fun o => decide (o.1 = a) with
          | true =>
            rw [hold, if_pos rfl, List.append_nil] at N1
            have Fn := Lib.hid (show RRef (wr.drewN m) gm gb (Sh.giveAll F (Sh.news (now.take (i + 1)) was)) ∧ Chg (fun b => b = gb) w (wr.drewN m) from ⟨by rw [N1.out]; exact MP.out.keep rfl rfl, CH.out.drewN m⟩)
            go_wp2_with fail
            go_roundw
            case rel => exact ⟨i + 1, by go_num, by omega, Fn.out⟩
            case measure => simp [intOf]; omega
          | false =>
            rw [hold, if_neg (by decide)] at N1
            obtain ⟨w9, hw9⟩ : ∃ w9, wr.drewN m = w9 := ⟨_, rfl⟩
            have MP9 := Lib.hid (show RRef w9.drew gm gb (Sh.giveAll F (Sh.news (now.take i) was)) by rw [← hw9]; exact MP.out.keep rfl rfl)
            have CH9 := Lib.hid (show Chg (fun b => b = gb) w w9 by rw [← hw9]; exact CH.out.drewN m)
            rw [hw9]
            clear hw9 hold
            have Kp := Lib.hid (fun X (hcg : Chg (fun b => b = gb) w9 X) => show X.cell? ⟨gs, 0, none⟩ = some (.pointer (some ⟨gm, 0, none⟩)) ∧ X.cell? ⟨gs, 1, none⟩ = some (.slice (some ⟨g, 0, none⟩) q c) ∧ X.cell? ⟨g, i * 4, none⟩ = some (.int .i64 (a : Int)) ∧ X.cell? ⟨g, i * 4 + 1, none⟩ = some (.int .i64 (n : Int)) by
              obtain ⟨k1, k2, -⟩ := Fc.out X (CH9.out.then_ hcg)
              obtain ⟨g', c', hv, -, -, hcell⟩ := ownU_at k2 (by omega)
              injection hv with hA _ _
              injection hA with hA
              injection hA with hA _ _
              subst hA
              obtain ⟨h1, h2, -⟩ := hcell i hin
              rw [← HU.out] at h1 h2
              dsimp only at h1 h2
              exact ⟨k1.cell 0, k1.cell 1, h1, h2⟩)
            obtain ⟨t0, t1, t2, t3⟩ := Kp.out w9 (Chg.refl _ _)
            have t4 : w9.cell? ⟨gs, 2, none⟩ = some (.slice A2 q2 c2) := (Fc.out w9 CH9.out).1.cell 2
            have hcg := (Chg.refl (fun b => b = gb) w9).drew
            have NG := Lib.hid (rgive_any MP9.out (a : Int) (n : Int))
            have Nx := Lib.hid (fun X (hr : RRef X gm gb (Rn.give (Sh.giveAll F (Sh.news (now.take i) was)) (a : Int) (n : Int)).2) (hc1 : Chg (fun b => b = gb) w9 X) => show RRef X gm gb (Sh.giveAll F (Sh.news (now.take (i + 1)) was)) ∧ Chg (fun b => b = gb) w X from
              ⟨by rw [N1.out, Sh.give_snoc]; exact hr, CH9.out.then_ hc1⟩)
            clear c0 cn cw e1 e2
            go_wp2_with fail
            go_region_held_law (fun X => X.cell? ⟨gs, 0, none⟩ = some (.pointer (some ⟨gm, 0, none⟩)) ∧ X.cell? ⟨gs, 1, none⟩ = some (.slice (some ⟨g, 0, none⟩) q c) ∧ X.cell? ⟨g, i * 4, none⟩ = some (.int .i64 (a : Int)) ∧ X.cell? ⟨g, i * 4 + 1, none⟩ = some (.int .i64 (n : Int))) (exact Kp.out _ hcg) (first
              | (go_at_call 20; refine NG.out.mono ?_; rintro e w3 ⟨rfl, hr3, hc3⟩; have hcg := ((Chg.refl (fun b => b = gb) w9).drew).then_ hc3))
            all_goals
              have F3 := Lib.hid (Nx.out _ hr3 hcg)
              clear hr3 hc3 hcg
              go_wp2_with fail
              go_roundw
              case rel => exact ⟨i + 1, by go_num, by omega, F3.out⟩
              case measure => simp [intOf]; omega
    · have hiq' : i = q := by omega
      have z0 : decide ((i : Int) < (q : Int)) = false := by rw [decide_eq_false_iff_not]; omega
      have z0' : decide (i < q) = false := by rw [decide_eq_false_iff_not]; exact hiq
      have htk : now.take i = now := by rw [hiq', HQ.out, List.take_length]
      rw [htk] at hmap
      clear hiq' htk
      have SL := Lib.hid (ownU_sl hu2)
      have U2 := Lib.hid hu2
      have CH := Lib.hid hchg
      have BG := Lib.hid hbk
      have MP := Lib.hid hmap
      have HB2 := Lib.hid (show B ≤ wr.heap.size from Nat.le_trans hB hchg.size)
      have ONil := World.ownsRow_nil wr wr.heap.size 80 4
      clear hmap hchg hbk hu1 hu2
      go_wp2_with (at_builtin; (refine wpList_append_sls (base := wr.heap.size) _ rfl (.const (.slice none 0 0)) (.tmp 74) _ rfl Try.underlying73 hi0 hz0 hs0 hb0 rfl (by decide) rfl ONil (m := q2) (news := ucs was) rfl (by rw [ucs_len, HQ2.out]) hA2 hc2 SL.out (ucs_one was) (by unfold maxLen; omega) (by omega) (Nat.le_refl _) ?_; intro v8 w8 k1 k2 _; rw [Nat.zero_add, List.nil_append] at k1; obtain ⟨A8, c8, rfl⟩ := own_slice k1; have b8 := (Below.refl wr.heap.size wr).grown k2 (Nat.le_refl _) (fun g hg => by cases hg); have bg8 := BG.out.keep (b8.block gs BG.out.lt); have g1 : w8.cell? ⟨gs, 1, none⟩ = some (.slice A q c) := bg8.cell 1; have z1 := bg8.frozen 1; have BG8 := Lib.hid bg8; have K1 := Lib.hid k1; have B8 := Lib.hid b8; clear k1 k2 b8 bg8))
      have bgf : Blk (w8.setCell ⟨gs, 1, none⟩ (.slice A8 q2 c8)) gs 75 #[.pointer (some ⟨gm, 0, none⟩), .slice A8 q2 c8, .slice A2 q2 c2] := BG8.out.set_ 1 _
      have chf : Chg (fun b => b = gs) wr (w8.setCell ⟨gs, 1, none⟩ (.slice A8 q2 c8)) := (Chg.of_below (fun b => b = gs) B8.out).setCell (p := ⟨gs, 1, none⟩) (.inl rfl) _
      have ch8 : Chg (fun b => b = gs) w8 (w8.setCell ⟨gs, 1, none⟩ (.slice A8 q2 c8)) := (Chg.refl (fun b => b = gs) w8).setCell (p := ⟨gs, 1, none⟩) (.inl rfl) _
      have r1 : OwnU (w8.setCell ⟨gs, 1, none⟩ (.slice A8 q2 c8)) B (.slice A8 q2 c8) was := by
        unfold OwnU
        rw [← HQ2.out]
        exact World.ownsRow_base (own_keep K1.out fun b hb hlt => ch8.block b hlt fun e => by have := (K1.out.lt b hb).1; have := BG.out.lt; omega) HB2.out
      have r2 : OwnU (w8.setCell ⟨gs, 1, none⟩ (.slice A8 q2 c8)) B (.slice A2 q2 c2) was := by
        have h := own_keep U2.out (w' := w8.setCell ⟨gs, 1, none⟩ (.slice A8 q2 c8)) fun b hb hlt => chf.block b hlt fun e => HV3.out (by rw [hb, e])
        rw [← HQ2.out] at h
        unfold OwnU
        rw [← HQ2.out]
        exact h
      have Fin := Lib.hid (show SRef (w8.setCell ⟨gs, 1, none⟩ (.slice A8 q2 c8)) B gs gm gb (Sh.giveAll F (Sh.news now was)) was was ∧ Chg (fun b => b = gs ∨ b = gb) w (w8.setCell ⟨gs, 1, none⟩ (.slice A8 q2 c8)) from
        ⟨⟨⟨_, _, bgf, r1, r2⟩, MP.out.keep (chf.block gm MP.out.map.lt hngm) (chf.block gb MP.out.blks.lt hngs.symm), OK2.out, OK2.out⟩, (CH.out.mono fun b hb => .inr hb).then_ (chf.mono fun b hb => .inl hb)⟩)
      clear bgf chf ch8 r1 r2 g1 z1
      go_wp2_with fail
      refine bodyPost_end (results_none rfl _ _ _) rfl ?_
      exact ⟨rfl, Fin.out.1, Fin.out.2⟩
end
end Go.Proofs.Ytfiafgmlbejboaa
