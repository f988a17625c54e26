/- The statement NodeDecodes. -/
import Derived.Test.YtdfelkkibolheaaNla
namespace Go.Proofs.Ytdfelkkibolheaa
open Go.RowKit Vint

theorem dec_few (b : List Nat) : FewOk (Nd.dec b).1 ∧ (Nd.dec b).1.ps.length ≤ (Nd.dec b).1.gs.length := by
  have hz : FewOk Nd.zero ∧ Nd.zero.ps.length ≤ Nd.zero.gs.length := ⟨by decide, by decide⟩
  cases hc : Nd.cls b with
  | bad e => rw [Nd.dec_cls, hc]; exact hz
  | many s => rw [Nd.dec_cls, hc]; exact hz
  | fine n u =>
    by_cases hu : u ≠ []
    · rw [Nd.dec_over hc hu]; exact hz
    · by_cases ho : Nd.Ok n
      · rw [Nd.dec_good hc hu ho]; exact ok_few ho
      · rw [Nd.dec_wrong hc hu ho]; exact hz
set_option maxRecDepth 8000 in
set_option maxHeartbeats 16000000 in
theorem decodes_any {w : World} {A : Option Addr} {c : Nat} {b : List Nat} (hsl : Sl w w.heap.size A (byts b)) (hcap : b.length ≤ c) (hA : A = none → c = 0) (hb : ∀ x ∈ b, x < 256) : Calls Try.prog 10 #[.slice A b.length c] w fun e w' => e = .returned (.bool true) ∧ Below w.heap.size w w' := by
  have NK := Lib.hid (nawake_any w)
  obtain ⟨kb, hkb⟩ : ∃ k, k = b.length := ⟨_, rfl⟩
  by_cases hl : 1000 < b.length
  · rw [← hkb] at hl ⊢
    have z0 : decide ((1000 : Int) < (kb : Int)) = true := by rw [decide_eq_true_eq]; omega
    have z0' : decide (1000 < kb) = true := by rw [decide_eq_true_eq]; exact hl
    clear hsl hcap hkb hl
    go_enter Try.func10, Try.ntmps10
    go_wp2_with (go_at_call 40; ((with_reducible refine NK.out.mono ?_); rintro e w1 ⟨rfl, b1⟩; have B1 := Lib.hid b1; clear b1))
    go_ret
    exact ⟨rfl, B1.out⟩
  have z0 : decide ((1000 : Int) < (kb : Int)) = false := by rw [decide_eq_false_iff_not]; omega
  have z0' : decide (1000 < kb) = false := by rw [decide_eq_false_iff_not]; omega
  have hfew := dec_few b
  have hinv := fun (n : Nd.N) (h : Nd.dec b = (n, 0)) => Nd.dec_inv hb h
  obtain ⟨D, hD⟩ : ∃ D, D = Nd.dec b := ⟨_, rfl⟩
  have NP0 := Lib.hid (fun (V : World) (h : Below w.heap.size w V) => show Calls Try.prog 47 #[.slice A kb c] V fun e w' => ∃ v, e = .returned (.tuple #[v, .int .i64 (D.2 : Int)]) ∧ NdAt w' w'.heap.size v D.1 ∧ Below V.heap.size V w' from by rw [hD, hkb]; exact pdec_any ((hsl.below h).more h.size) hcap hA hb (by omega))
  have NR0 := Lib.hid (fun (V : World) (h : Below w.heap.size w V) => show Calls Try.prog 50 #[.slice A kb c] V fun e w' => ∃ v, e = .returned (.tuple #[v, .int .i64 (D.2 : Int)]) ∧ NdAt w' w'.heap.size v D.1 ∧ Below V.heap.size V w' from by rw [hD, hkb]; exact rdec_any ((hsl.below h).more h.size) hb (by omega))
  rw [← hD] at hfew hinv
  have Cb := Lib.hid (fun (V : World) (h : Below w.heap.size w V) => show (convert 24 9 (.slice A kb c)).run Try.prog V = .ok (.string (bstr b)) V from by rw [hkb]; exact conv_b (hsl.below h))
  clear hD hsl hcap hA hb
  rw [← hkb]
  have Hkb := Lib.hid hkb
  clear hkb hl
  obtain ⟨n, k⟩ := D
  dsimp only at NP0 NR0 hfew
  have Hfew := Lib.hid hfew
  clear hfew
  by_cases hk : k = 0
  case neg =>
    have q0 : ((k : Int) != 0) = true := by rw [bne_iff_ne]; omega
    clear hk hinv
    go_enter Try.func10, Try.ntmps10
    go_upto_region 7 with (first
      | (go_at_call 40; ((with_reducible refine NK.out.mono ?_); rintro e w1 ⟨rfl, b1⟩; have NP := Lib.hid (NP0.out w1 b1); have B1 := Lib.hid b1; clear b1))
      | (go_at_call 47; ((with_reducible refine NP.out.mono ?_); rintro e w2 ⟨v2, rfl, g2, b2⟩; have B2 := Lib.hid (B1.out.trans (b2.mono B1.out.size)); obtain ⟨X1, y1, X2, y2, X3, y3, X4, y4, rfl, nx⟩ := nb_box g2 66; have HX := Lib.hid nx; have NR := Lib.hid (NR0.out (w2.alloc (.cells #[.int .i64 n.h, .slice X1 n.ks.length y1, .slice X2 n.ps.length y2, .slice X3 n.gs.length y3, .slice X4 n.cs.length y4] 66)) (B2.out.alloc B2.out.size _)); clear b2 g2 nx))
      | (go_at_call 50; ((with_reducible refine NR.out.mono ?_); rintro e w3 ⟨v3, rfl, g3, b3⟩; have B3 := Lib.hid ((B2.out.alloc B2.out.size (.cells #[.int .i64 n.h, .slice X1 n.ks.length y1, .slice X2 n.ps.length y2, .slice X3 n.gs.length y3, .slice X4 n.cs.length y4] 66)).trans (b3.mono (B2.out.alloc B2.out.size (.cells #[.int .i64 n.h, .slice X1 n.ks.length y1, .slice X2 n.ps.length y2, .slice X3 n.gs.length y3, .slice X4 n.cs.length y4] 66)).size)); have HX3 := Lib.hid (HX.out.below b3); obtain ⟨Y1, z1, Y2, z2, Y3, z3, Y4, z4, rfl, ny⟩ := nb_box g3 60; have HY := Lib.hid ny; have HX4 := Lib.hid (HX3.out.below ((Below.refl _ _).alloc (Nat.le_refl _) (.cells #[.int .i64 n.h, .slice Y1 n.ks.length z1, .slice Y2 n.ps.length z2, .slice Y3 n.gs.length z3, .slice Y4 n.cs.length z4] 60))); clear b3 g3 ny)))
    obtain ⟨gx, hgx⟩ : ∃ g, w2.heap.size = g := ⟨_, rfl⟩
    obtain ⟨gy, hgy⟩ : ∃ g, w3.heap.size = g := ⟨_, rfl⟩
    obtain ⟨W4, h4⟩ : ∃ W, w3.alloc (.cells #[.int .i64 n.h, .slice Y1 n.ks.length z1, .slice Y2 n.ps.length z2, .slice Y3 n.gs.length z3, .slice Y4 n.cs.length z4] 60) = W := ⟨_, rfl⟩
    have hx := HX4.out
    have hy := HY.out
    rw [h4, hgx] at hx
    rw [h4, hgy] at hy
    have B4 := Lib.hid (show Below w.heap.size w W4 from by rw [← h4]; exact B3.out.alloc B3.out.size _)
    rw [h4, hgx, hgy]
    have Kp := Lib.hid (fun (V : World) (h : Below W4.heap.size W4 V) => show (V.cell? ⟨gx, 0, none⟩ = some (.int .i64 n.h) ∧ V.cell? ⟨gx, 1, none⟩ = some (.slice X1 n.ks.length y1) ∧ V.cell? ⟨gx, 2, none⟩ = some (.slice X2 n.ps.length y2) ∧ V.cell? ⟨gx, 3, none⟩ = some (.slice X3 n.gs.length y3) ∧ V.cell? ⟨gx, 4, none⟩ = some (.slice X4 n.cs.length y4)) ∧ (V.cell? ⟨gy, 0, none⟩ = some (.int .i64 n.h) ∧ V.cell? ⟨gy, 1, none⟩ = some (.slice Y1 n.ks.length z1) ∧ V.cell? ⟨gy, 2, none⟩ = some (.slice Y2 n.ps.length z2) ∧ V.cell? ⟨gy, 3, none⟩ = some (.slice Y3 n.gs.length z3) ∧ V.cell? ⟨gy, 4, none⟩ = some (.slice Y4 n.cs.length z4)) from ⟨(hx.below h).cells, (hy.below h).cells⟩)
    have hbc : Below W4.heap.size W4 W4.drew := (Below.refl _ _).drew
    have NBk := Lib.hid (back_any (hx.below hbc).at_ Hfew.out.1)
    have NY := Lib.hid (fun (V : World) (h : Below W4.heap.size W4 V) => (hy.below h).at_)
    have NX := Lib.hid (fun (V : World) (h : Below W4.heap.size W4 V) => (hx.below h).at_)
    clear hx hy h4
    go_region_held3 (fun V => (V.cell? ⟨gx, 0, none⟩ = some (.int .i64 n.h) ∧ V.cell? ⟨gx, 1, none⟩ = some (.slice X1 n.ks.length y1) ∧ V.cell? ⟨gx, 2, none⟩ = some (.slice X2 n.ps.length y2) ∧ V.cell? ⟨gx, 3, none⟩ = some (.slice X3 n.gs.length y3) ∧ V.cell? ⟨gx, 4, none⟩ = some (.slice X4 n.cs.length y4)) ∧ (V.cell? ⟨gy, 0, none⟩ = some (.int .i64 n.h) ∧ V.cell? ⟨gy, 1, none⟩ = some (.slice Y1 n.ks.length z1) ∧ V.cell? ⟨gy, 2, none⟩ = some (.slice Y2 n.ps.length z2) ∧ V.cell? ⟨gy, 3, none⟩ = some (.slice Y3 n.gs.length z3) ∧ V.cell? ⟨gy, 4, none⟩ = some (.slice Y4 n.cs.length z4))) (first | exact Kp.out _ hbc) (first
      | (go_at_call 49; ((with_reducible refine NBk.out.mono ?_); rintro e w10 ⟨v10, rfl, g10, b10⟩; have hbc := hbc.trans (b10.mono hbc.size); have NS := Lib.hid (same_any g10 (NY.out w10 hbc) Hfew.out.2 Hfew.out.1); clear b10 g10))
      | (go_at_call 48; ((with_reducible refine NS.out.mono ?_); rintro e w11 ⟨rfl, b11⟩; have hbc := hbc.trans (b11.mono hbc.size); clear b11)))
    all_goals
      have Fin := Lib.hid (B4.out.trans (hbc.mono B4.out.size))
      go_wp2_with fail
      go_ret
      exact ⟨rfl, Fin.out⟩
  obtain ⟨hok, henc⟩ := hinv n (by rw [hk])
  rw [hk] at NP0 NR0
  have NE0 := Lib.hid (fun (V : World) (v : Value) (h : NdAt V V.heap.size v n) => show Calls Try.prog 42 #[v] V fun e w' => ∃ A' c', e = .returned (.tuple #[.slice A' kb c', .int .i64 0]) ∧ (convert 24 9 (.slice A' kb c')).run Try.prog w' = .ok (.string (bstr b)) w' ∧ Below V.heap.size V w' from (enc_ok h hok).mono fun e w' h => by
    obtain ⟨A', c', h1, h2, h3⟩ := h
    rw [henc] at h1 h2
    exact ⟨A', c', by rw [Hkb.out]; exact h1, by rw [Hkb.out]; exact conv_b (oy_sl h2).1, h3⟩)
  clear hinv hok henc hk
  go_enter Try.func10, Try.ntmps10
  go_upto_region 7 with (first
    | (go_at_call 40; ((with_reducible refine NK.out.mono ?_); rintro e w1 ⟨rfl, b1⟩; have NP := Lib.hid (NP0.out w1 b1); have B1 := Lib.hid b1; clear b1))
    | (go_at_call 47; ((with_reducible refine NP.out.mono ?_); rintro e w2 ⟨v2, rfl, g2, b2⟩; have B2 := Lib.hid (B1.out.trans (b2.mono B1.out.size)); obtain ⟨X1, y1, X2, y2, X3, y3, X4, y4, rfl, nx⟩ := nb_box g2 66; have HX := Lib.hid nx; have NR := Lib.hid (NR0.out (w2.alloc (.cells #[.int .i64 n.h, .slice X1 n.ks.length y1, .slice X2 n.ps.length y2, .slice X3 n.gs.length y3, .slice X4 n.cs.length y4] 66)) (B2.out.alloc B2.out.size _)); clear b2 g2 nx))
    | (go_at_call 50; ((with_reducible refine NR.out.mono ?_); rintro e w3 ⟨v3, rfl, g3, b3⟩; have B3 := Lib.hid ((B2.out.alloc B2.out.size (.cells #[.int .i64 n.h, .slice X1 n.ks.length y1, .slice X2 n.ps.length y2, .slice X3 n.gs.length y3, .slice X4 n.cs.length y4] 66)).trans (b3.mono (B2.out.alloc B2.out.size (.cells #[.int .i64 n.h, .slice X1 n.ks.length y1, .slice X2 n.ps.length y2, .slice X3 n.gs.length y3, .slice X4 n.cs.length y4] 66)).size)); have HX3 := Lib.hid (HX.out.below b3); obtain ⟨Y1, z1, Y2, z2, Y3, z3, Y4, z4, rfl, ny⟩ := nb_box g3 60; have HY := Lib.hid ny; have HX4 := Lib.hid (HX3.out.below ((Below.refl _ _).alloc (Nat.le_refl _) (.cells #[.int .i64 n.h, .slice Y1 n.ks.length z1, .slice Y2 n.ps.length z2, .slice Y3 n.gs.length z3, .slice Y4 n.cs.length z4] 60))); clear b3 g3 ny)))
  obtain ⟨gx, hgx⟩ : ∃ g, w2.heap.size = g := ⟨_, rfl⟩
  obtain ⟨gy, hgy⟩ : ∃ g, w3.heap.size = g := ⟨_, rfl⟩
  obtain ⟨W4, h4⟩ : ∃ W, w3.alloc (.cells #[.int .i64 n.h, .slice Y1 n.ks.length z1, .slice Y2 n.ps.length z2, .slice Y3 n.gs.length z3, .slice Y4 n.cs.length z4] 60) = W := ⟨_, rfl⟩
  have hx := HX4.out
  have hy := HY.out
  rw [h4, hgx] at hx
  rw [h4, hgy] at hy
  have B4 := Lib.hid (show Below w.heap.size w W4 from by rw [← h4]; exact B3.out.alloc B3.out.size _)
  rw [h4, hgx, hgy]
  have Kp := Lib.hid (fun (V : World) (h : Below W4.heap.size W4 V) => show (V.cell? ⟨gx, 0, none⟩ = some (.int .i64 n.h) ∧ V.cell? ⟨gx, 1, none⟩ = some (.slice X1 n.ks.length y1) ∧ V.cell? ⟨gx, 2, none⟩ = some (.slice X2 n.ps.length y2) ∧ V.cell? ⟨gx, 3, none⟩ = some (.slice X3 n.gs.length y3) ∧ V.cell? ⟨gx, 4, none⟩ = some (.slice X4 n.cs.length y4)) ∧ (V.cell? ⟨gy, 0, none⟩ = some (.int .i64 n.h) ∧ V.cell? ⟨gy, 1, none⟩ = some (.slice Y1 n.ks.length z1) ∧ V.cell? ⟨gy, 2, none⟩ = some (.slice Y2 n.ps.length z2) ∧ V.cell? ⟨gy, 3, none⟩ = some (.slice Y3 n.gs.length z3) ∧ V.cell? ⟨gy, 4, none⟩ = some (.slice Y4 n.cs.length z4)) from ⟨(hx.below h).cells, (hy.below h).cells⟩)
  have hbc : Below W4.heap.size W4 W4.drew := (Below.refl _ _).drew
  have NBk := Lib.hid (back_any (hx.below hbc).at_ Hfew.out.1)
  have NY := Lib.hid (fun (V : World) (h : Below W4.heap.size W4 V) => (hy.below h).at_)
  have NX := Lib.hid (fun (V : World) (h : Below W4.heap.size W4 V) => (hx.below h).at_)
  clear hx hy h4
  go_region_held3 (fun V => (V.cell? ⟨gx, 0, none⟩ = some (.int .i64 n.h) ∧ V.cell? ⟨gx, 1, none⟩ = some (.slice X1 n.ks.length y1) ∧ V.cell? ⟨gx, 2, none⟩ = some (.slice X2 n.ps.length y2) ∧ V.cell? ⟨gx, 3, none⟩ = some (.slice X3 n.gs.length y3) ∧ V.cell? ⟨gx, 4, none⟩ = some (.slice X4 n.cs.length y4)) ∧ (V.cell? ⟨gy, 0, none⟩ = some (.int .i64 n.h) ∧ V.cell? ⟨gy, 1, none⟩ = some (.slice Y1 n.ks.length z1) ∧ V.cell? ⟨gy, 2, none⟩ = some (.slice Y2 n.ps.length z2) ∧ V.cell? ⟨gy, 3, none⟩ = some (.slice Y3 n.gs.length z3) ∧ V.cell? ⟨gy, 4, none⟩ = some (.slice Y4 n.cs.length z4))) (first | exact Kp.out _ hbc) (first
    | (go_at_call 49; ((with_reducible refine NBk.out.mono ?_); rintro e w10 ⟨v10, rfl, g10, b10⟩; have hbc := hbc.trans (b10.mono hbc.size); have NS := Lib.hid (same_any g10 (NY.out w10 hbc) Hfew.out.2 Hfew.out.1); clear b10 g10))
    | (go_at_call 48; ((with_reducible refine NS.out.mono ?_); rintro e w11 ⟨rfl, b11⟩; have hbc := hbc.trans (b11.mono hbc.size); clear b11)))
  all_goals
    have NE := Lib.hid (NE0.out _ _ (NX.out _ hbc))
    have Fin := Lib.hid (B4.out.trans (hbc.mono B4.out.size))
    obtain ⟨⟨x0, x1, x2, x3, x4⟩, -⟩ := Kp.out _ hbc
    go_wp2_with (go_at_call 42; ((with_reducible refine NE.out.mono ?_); rintro e w12 ⟨A12, c12, rfl, cv, b12⟩; have Fin := Lib.hid (Fin.out.trans (b12.mono Fin.out.size)); have cw := Cb.out w12 Fin.out; clear b12))
    go_ret
    exact ⟨by simp, Fin.out⟩
end Go.Proofs.Ytdfelkkibolheaa
