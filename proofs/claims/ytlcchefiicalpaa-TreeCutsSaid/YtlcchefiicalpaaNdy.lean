/- The document's May. -/
import Derived.Test.YtlcchefiicalpaaNds
namespace Go.Proofs.Ytlcchefiicalpaa
open Go.RowKit

theorem rrun_q (a n : Int) (w : World) (m : Nat) (r : Bool) (hr : decide (Nd.RunOk a n) = r) (k : Nat) : Calls Try.prog 58 #[.int .i64 a, .int .i64 n] (w.drewN (m + k)) fun e w' => e = .returned (.bool r) ∧ ∃ q, w' = w.drewN (m + q) :=
  (rrun_any a n (w.drewN (m + k))).mono fun e w' ⟨h1, h2⟩ => ⟨by rw [h1, hr], k, h2.symm⟩
theorem rgen_q (a : Int) (w : World) (m : Nat) (r : Bool) (hr : decide (Nd.GenOk a) = r) (k : Nat) : Calls Try.prog 59 #[.int .i64 a] (w.drewN (m + k)) fun e w' => e = .returned (.bool r) ∧ ∃ q, w' = w.drewN (m + q) :=
  (rgen_any a (w.drewN (m + k))).mono fun e w' ⟨h1, h2⟩ => ⟨by rw [h1, hr], k, h2.symm⟩
theorem below_drewN {B : Nat} {a c : World} (h : Below B a c) (m : Nat) : Below B a (c.drewN m) := ⟨h.os, h.tape, h.output, h.size, h.block⟩
/-- Keys as they must be, as far as i. -/
def Nd.KeysOk (ks : List Int) (i : Nat) : Prop := (∀ j, j < i → 0 ≤ Nd.at_ ks j ∧ Nd.at_ ks j < 512) ∧ ∀ j, j + 1 < i → Nd.at_ ks j < Nd.at_ ks (j + 1)
theorem Nd.KeysOk.next {ks : List Int} {i : Nat} (h : Nd.KeysOk ks i) (h1 : 0 ≤ Nd.at_ ks i ∧ Nd.at_ ks i < 512) (h2 : ∀ p, i = p + 1 → Nd.at_ ks p < Nd.at_ ks i) : Nd.KeysOk ks (i + 1) := by
  refine ⟨fun j hj => ?_, fun j hj => ?_⟩
  · rcases Nat.lt_or_ge j i with c | c
    · exact h.1 j c
    · rw [show j = i by omega]; exact h1
  · rcases Nat.lt_or_ge (j + 1) i with c | c
    · exact h.2 j c
    · have : i = j + 1 := by omega
      rw [← this]; exact h2 j this
theorem Nd.Ok.keysOk {n : Nd.N} (h : Nd.Ok n) : Nd.KeysOk n.ks n.ks.length := ⟨h.key, h.asc⟩
section
variable {w W : World} {b : Nat} {n : Nd.N} {A1 A2 A3 A4 : Option Addr} {c1 c2 c3 c4 : Nat} {R : Bool}
/-- What the walk knows of a node in its block, at every later world. -/
structure NdW (W : World) (b : Nat) (n : Nd.N) (A1 : Option Addr) (c1 : Nat) (A2 : Option Addr) (c2 : Nat) (A3 : Option Addr) (c3 : Nat) (A4 : Option Addr) (c4 : Nat) : Prop where
  blk : Blk W b 26 #[.int .i64 n.h, .slice A1 n.ks.length c1, .slice A2 n.ps.length c2, .slice A3 n.gs.length c3, .slice A4 n.cs.length c4]
  row : NdF W W.heap.size n A1 c1 A2 c2 A3 c3 A4 c4
theorem NdW.below {W' : World} (h : NdW W b n A1 c1 A2 c2 A3 c3 A4 c4) (hb : Below W.heap.size W W') : NdW W' b n A1 c1 A2 c2 A3 c3 A4 c4 := ⟨h.blk.keep (hb.block b h.blk.lt), (h.row.below hb).more hb.size⟩
theorem NdW.drewN (h : NdW W b n A1 c1 A2 c2 A3 c3 A4 c4) (m : Nat) : NdW (W.drewN m) b n A1 c1 A2 c2 A3 c3 A4 c4 := ⟨h.blk, ⟨⟨h.row.ks.le, h.row.ks.nil, h.row.ks.sl⟩, ⟨h.row.ps.le, h.row.ps.nil, h.row.ps.sl⟩, ⟨h.row.gs.le, h.row.gs.nil, h.row.gs.sl⟩, ⟨h.row.cs.le, h.row.cs.nil, h.row.cs.sl⟩⟩⟩
theorem nd_boxed {A1 A2 A3 A4 : Option Addr} {c1 c2 c3 c4 : Nat} (hf : NdF w w.heap.size n A1 c1 A2 c2 A3 c3 A4 c4) (hW : w.alloc (.cells #[.int .i64 n.h, .slice A1 n.ks.length c1, .slice A2 n.ps.length c2, .slice A3 n.gs.length c3, .slice A4 n.cs.length c4] 26) = W) :
    NdW W w.heap.size n A1 c1 A2 c2 A3 c3 A4 c4 ∧ Below w.heap.size w W := by
  obtain ⟨bx, hb⟩ := nd_box hW
  exact ⟨⟨bx, (hf.below hb).more hb.size⟩, hb⟩
end
set_option maxRecDepth 8000 in
set_option maxHeartbeats 16000000 in
theorem rmay_any {w : World} {v : Value} {n : Nd.N} (h : NdAt w w.heap.size v n) (R : Bool) (hT : R = true ↔ Nd.Ok n) : Calls Try.prog 23 #[v] w fun e w' => e = .returned (.bool R) ∧ Below w.heap.size w w' := by
  obtain ⟨A1, c1, A2, c2, A3, c3, A4, c4, rfl, hf⟩ := h
  obtain ⟨W, hW⟩ : ∃ W, w.alloc (.cells #[.int .i64 n.h, .slice A1 n.ks.length c1, .slice A2 n.ps.length c2, .slice A3 n.gs.length c3, .slice A4 n.cs.length c4] 26) = W := ⟨_, rfl⟩
  obtain ⟨hN, hbl⟩ := nd_boxed hf hW
  have HN := Lib.hid hN
  have HB := Lib.hid hbl
  have HT := Lib.hid hT
  have no : Hid (¬ Nd.Ok n → R = false) := Lib.hid fun h => by
    cases hR : R with
    | false => rfl
    | true => exact absurd (hT.1 hR) h
  obtain ⟨k1, e1⟩ : ∃ k, k = n.ks.length := ⟨_, rfl⟩
  obtain ⟨k2, e2⟩ : ∃ k, k = n.ps.length := ⟨_, rfl⟩
  obtain ⟨k3, e3⟩ : ∃ k, k = n.gs.length := ⟨_, rfl⟩
  obtain ⟨k4, e4⟩ : ∃ k, k = n.cs.length := ⟨_, rfl⟩
  obtain ⟨k0, e0⟩ : ∃ k, k = n.h := ⟨_, rfl⟩
  have E1 := Lib.hid e1
  have E2 := Lib.hid e2
  have E3 := Lib.hid e3
  have E4 := Lib.hid e4
  have E0 := Lib.hid e0
  obtain ⟨b, hb⟩ : ∃ b, w.heap.size = b := ⟨_, rfl⟩
  have Cs := Lib.hid (fun (W' : World) (hbw : Below W.heap.size W W') => show W'.cell? ⟨b, 0, none⟩ = some (.int .i64 k0) ∧ W'.cell? ⟨b, 1, none⟩ = some (.slice A1 k1 c1) ∧ W'.cell? ⟨b, 2, none⟩ = some (.slice A2 k2 c2) ∧ W'.cell? ⟨b, 3, none⟩ = some (.slice A3 k3 c3) ∧ W'.cell? ⟨b, 4, none⟩ = some (.slice A4 k4 c4) from by
    have := (hN.below hbw).blk
    rw [hb, ← e0, ← e1, ← e2, ← e3, ← e4] at this
    exact ⟨this.cell 0, this.cell 1, this.cell 2, this.cell 3, this.cell 4⟩)
  rw [← e1, ← e2, ← e3, ← e4, ← e0] at hW ⊢
  rw [hb] at HB ⊢
  obtain ⟨x0, x1, x2, x3, x4⟩ := Cs.out W (Below.refl _ _)
  clear hN hbl hT hf e1 e2 e3 e4 e0
  by_cases h0 : k0 < 0
  · have z0 : decide (k0 < 0) = true := by rw [decide_eq_true_eq]; exact h0
    have F := no.out fun o => by have := o.h0; rw [← E0.out] at this; omega
    clear h0
    go_enter Try.func23, Try.ntmps23
    go_wp2_with fail
    go_ret
    exact ⟨by rw [F]; rfl, HB.out⟩
  have z0 : decide (k0 < 0) = false := by rw [decide_eq_false_iff_not]; exact h0
  by_cases h6 : 6 ≤ k0
  · have z6 : decide ((6 : Int) ≤ k0) = true := by rw [decide_eq_true_eq]; exact h6
    have F := no.out fun o => by have := o.h6; rw [← E0.out] at this; omega
    clear h0 h6
    go_enter Try.func23, Try.ntmps23
    go_wp2_with fail
    go_ret
    exact ⟨by rw [F]; rfl, HB.out⟩
  have z6 : decide ((6 : Int) ≤ k0) = false := by rw [decide_eq_false_iff_not]; exact h6
  by_cases h8 : 8 < k1
  · have z8 : decide ((8 : Int) < (k1 : Int)) = true := by rw [decide_eq_true_eq]; omega
    have z8' : decide (8 < k1) = true := by rw [decide_eq_true_eq]; exact h8
    have F := no.out fun o => by have := o.few; rw [← E1.out] at this; omega
    clear h0 h6 h8
    go_enter Try.func23, Try.ntmps23
    go_wp2_with fail
    go_ret
    exact ⟨by rw [F]; rfl, HB.out⟩
  have z8 : decide ((8 : Int) < (k1 : Int)) = false := by rw [decide_eq_false_iff_not]; omega
  have z8' : decide (8 < k1) = false := by rw [decide_eq_false_iff_not]; exact h8
  have b1 : k1 ≤ 8 := by omega
  clear h8
  go_enter Try.func23, Try.ntmps23
  go_wp2_with fail
  go_loopw [3] (fun v wr => ∃ i m : Nat, v = .int .i64 (i : Int) ∧ i ≤ k1 ∧ wr = W.drewN m ∧ Nd.KeysOk n.ks i) (fun v _ => k1 - (intOf v).toNat)
  case atStart => exact ⟨0, 0, rfl, Nat.zero_le _, (drewN_zeroN W).symm, fun j hj => absurd hj (Nat.not_lt_zero _), fun j hj => absurd hj (Nat.not_lt_zero _)⟩
  case round =>
    obtain ⟨i, m, rfl, hi, rfl, hK⟩ := hrel
    have HK := Lib.hid hK
    have HBm := Lib.hid (show Below b w (W.drewN m) from below_drewN HB.out m)
    clear hK
    by_cases hik : i < k1
    · have y0 : decide ((i : Int) < (k1 : Int)) = true := by rw [decide_eq_true_eq]; omega
      have y0' : decide (i < k1) = true := by rw [decide_eq_true_eq]; exact hik
      have hki : (i : Int) < (k1 : Int) := by omega
      obtain ⟨g, o, rfl, -, hc⟩ := HN.out.row.ks.int (i := i) (by rw [← E1.out]; exact hik)
      obtain ⟨x, hx⟩ : ∃ x, x = Nd.at_ n.ks i := ⟨_, rfl⟩
      have Hx := Lib.hid hx
      rw [← hx] at hc
      clear hx
      by_cases hx0 : x < 0
      · have y1 : decide (x < 0) = true := by rw [decide_eq_true_eq]; exact hx0
        have F := no.out fun o => by have := (o.key i (by rw [← E1.out]; exact hik)).1; rw [← Hx.out] at this; omega
        clear hx0
        go_wp2_with fail
        go_quiet (fail)
        go_wp2_with fail
        go_ret
        exact ⟨by rw [F]; rfl, below_drewN HBm.out _⟩
      have y1 : decide (x < 0) = false := by rw [decide_eq_false_iff_not]; exact hx0
      by_cases hx5 : 512 ≤ x
      · have y2 : decide ((512 : Int) ≤ x) = true := by rw [decide_eq_true_eq]; exact hx5
        have F := no.out fun o => by have := (o.key i (by rw [← E1.out]; exact hik)).2; rw [← Hx.out] at this; omega
        clear hx0 hx5
        go_wp2_with fail
        go_quiet (fail)
        go_wp2_with fail
        go_ret
        exact ⟨by rw [F]; rfl, below_drewN HBm.out _⟩
      have y2 : decide ((512 : Int) ≤ x) = false := by rw [decide_eq_false_iff_not]; exact hx5
      by_cases hi0 : i = 0
      · have y3 : decide ((0 : Int) < (i : Int)) = false := by rw [decide_eq_false_iff_not]; omega
        have y3' : decide (0 < i) = false := by rw [decide_eq_false_iff_not]; omega
        have Nx := Lib.hid (HK.out.next (by rw [← Hx.out]; omega) (fun p hp => by omega))
        clear hx0 hx5 hi0
        go_wp2_with fail
        go_quiet (fail)
        go_wp2_with fail
        go_roundw
        case rel => exact ⟨i + 1, _, by go_num, by omega, rfl, Nx.out⟩
        case measure => simp [intOf]; omega
      · obtain ⟨p, hp⟩ : ∃ p, i = p + 1 := ⟨i - 1, by omega⟩
        obtain ⟨g', o', e, -, hc2⟩ := HN.out.row.ks.int (i := p) (by rw [← E1.out]; omega)
        injection e with e
        injection e with e e'
        subst e; subst e'
        obtain ⟨y, hy⟩ : ∃ y, y = Nd.at_ n.ks p := ⟨_, rfl⟩
        have Hy := Lib.hid hy
        rw [← hy] at hc2
        clear hy
        have y3 : decide ((0 : Int) < (i : Int)) = true := by rw [decide_eq_true_eq]; omega
        have y3' : decide (0 < i) = true := by rw [decide_eq_true_eq]; omega
        have s1 : (i : Int) - 1 = (p : Int) := by omega
        have s2 : IntKind.i64.wrap ((i : Int) - 1) = (p : Int) := by rw [s1, IntKind.wrap_i64]; omega
        have hp8 : p < 8 := by omega
        have hpk : (p : Int) < (k1 : Int) := by omega
        have Hp := Lib.hid hp
        by_cases hxy : x ≤ y
        · have y4 : decide (x ≤ y) = true := by rw [decide_eq_true_eq]; exact hxy
          have F := no.out fun o => by have := o.asc p (by rw [← E1.out]; omega); rw [← Hp.out, ← Hx.out, ← Hy.out] at this; omega
          clear hx0 hx5 hxy hp hi0
          go_wp2_with fail
          go_quiet (fail)
          go_wp2_with fail
          go_ret
          exact ⟨by rw [F]; rfl, below_drewN HBm.out _⟩
        · have y4 : decide (x ≤ y) = false := by rw [decide_eq_false_iff_not]; exact hxy
          have Nx := Lib.hid (HK.out.next (by rw [← Hx.out]; omega) (fun q hq => by rw [show q = p by omega, ← Hx.out, ← Hy.out]; omega))
          clear hx0 hx5 hxy hp hi0
          go_wp2_with fail
          go_quiet (fail)
          go_wp2_with fail
          go_roundw
          case rel => exact ⟨i + 1, _, by go_num, by omega, rfl, Nx.out⟩
          case measure => simp [intOf]; omega
    · have hik' : i = k1 := by omega
      subst hik'
      have y0 : decide ((i : Int) < (i : Int)) = false := by simp
      have y0' : decide (i < i) = false := by simp
      have hk1 : i = n.ks.length := E1.out
      have HKk := Lib.hid (show Nd.KeysOk n.ks n.ks.length by rw [← hk1]; exact HK.out)
      obtain ⟨V, hV⟩ : ∃ V, V = W.drewN m := ⟨_, rfl⟩
      have BV := Lib.hid (show Below W.heap.size W V by rw [hV]; exact below_drewN (Below.refl _ _) m)
      have HBV := Lib.hid (show Below b w V by rw [hV]; exact HBm.out)
      have CV := Lib.hid (fun (W' : World) (hb : Below V.heap.size V W') => Cs.out W' (BV.out.trans (hb.mono BV.out.size)))
      have NV := Lib.hid (HN.out.below BV.out)
      rw [← hV]
      obtain ⟨x0, x1, x2, x3, x4⟩ := CV.out V (Below.refl _ _)
      clear hik hi hk1 HK HBm hV
      by_cases hz : k0 = 0
      · have q0 : (k0 == 0) = true := by rw [beq_iff_eq]; exact hz
        have Hz := Lib.hid hz
        clear h0 h6
        by_cases ha : k2 = i
        case neg =>
          have q1 : ((k2 : Int) != (i : Int)) = true := by rw [bne_iff_ne]; omega
          have F := no.out fun o => by have := (o.leaf (by rw [← E0.out]; exact hz)).1; rw [← E2.out, ← E1.out] at this; exact ha this
          clear hz ha
          go_wp2_with fail
          go_ret
          exact ⟨by rw [F]; rfl, HBV.out⟩
        have q1 : ((k2 : Int) != (i : Int)) = false := by rw [ha]; simp
        by_cases hb' : k3 = i
        case neg =>
          have q2 : ((k3 : Int) != (i : Int)) = true := by rw [bne_iff_ne]; omega
          have F := no.out fun o => by have := (o.leaf (by rw [← E0.out]; exact hz)).2.1; rw [← E3.out, ← E1.out] at this; exact hb' this
          clear hz ha hb'
          go_wp2_with fail
          go_ret
          exact ⟨by rw [F]; rfl, HBV.out⟩
        have q2 : ((k3 : Int) != (i : Int)) = false := by rw [hb']; simp
        by_cases hc' : k4 = 0
        case neg =>
          have q3 : decide ((0 : Int) < (k4 : Int)) = true := by rw [decide_eq_true_eq]; omega
          have q3' : decide (0 < k4) = true := by rw [decide_eq_true_eq]; omega
          have F := no.out fun o => by have := (o.leaf (by rw [← E0.out]; exact hz)).2.2.1; rw [E4.out, this] at hc'; exact hc' rfl
          clear hz ha hb' hc'
          go_wp2_with fail
          go_ret
          exact ⟨by rw [F]; rfl, HBV.out⟩
        have q3 : decide ((0 : Int) < (k4 : Int)) = false := by rw [decide_eq_false_iff_not]; omega
        have q3' : decide (0 < k4) = false := by rw [decide_eq_false_iff_not]; omega
        have Ha := Lib.hid ha
        have Hb := Lib.hid hb'
        have Hc := Lib.hid hc'
        clear hz ha hb' hc'
        go_wp2_with fail
        clear x0 x1 x2 x3 x4
        go_loopw [4] (fun v wr => ∃ j : Nat, v = .int .i64 (j : Int) ∧ j ≤ i ∧ Below V.heap.size V wr ∧ ∀ t, t < j → Nd.PlaceOk (Nd.t3 n.ps t) (Nd.at_ n.gs t)) (fun v _ => i - (intOf v).toNat)
        case atStart => exact ⟨0, rfl, Nat.zero_le _, Below.refl _ _, fun j hj => absurd hj (Nat.not_lt_zero _)⟩
        case round =>
          obtain ⟨j, rfl, hj, hbw, hP⟩ := hrel
          have HP := Lib.hid hP
          have Hbw := Lib.hid hbw
          have NW := Lib.hid (NV.out.below hbw)
          obtain ⟨x0, x1, x2, x3, x4⟩ := CV.out wr hbw
          have HBr := Lib.hid (show Below b w wr from HBV.out.trans (hbw.mono (by rw [← hb]; exact HBV.out.size)))
          have HBs := Lib.hid (show b ≤ wr.heap.size by rw [← hb]; exact HBr.out.size)
          clear hP hbw
          by_cases hji : j < i
          · have z7 : decide ((j : Int) < (i : Int)) = true := by rw [decide_eq_true_eq]; omega
            have z7' : decide (j < i) = true := by rw [decide_eq_true_eq]; exact hji
            have hk2 : (j : Int) < (k2 : Int) := by rw [Ha.out]; omega
            have hk3 : (j : Int) < (k3 : Int) := by rw [Hb.out]; omega
            obtain ⟨g, o, rfl, -, hp1, hp2, hp3⟩ := NW.out.row.ps.three (i := j) (by rw [← E2.out, Ha.out]; exact hji)
            obtain ⟨g2, o2, rfl, -, hg⟩ := NW.out.row.gs.int (i := j) (by rw [← E3.out, Hb.out]; exact hji)
            obtain ⟨p, hp⟩ : ∃ p, p = Nd.t3 n.ps j := ⟨_, rfl⟩
            obtain ⟨x, hx⟩ : ∃ x, x = Nd.at_ n.gs j := ⟨_, rfl⟩
            have Hp := Lib.hid hp
            have Hx := Lib.hid hx
            rw [← hp] at hp1 hp2 hp3
            rw [← hx] at hg
            clear hp hx
            obtain ⟨p1, p2, p3⟩ := p
            dsimp only at hp1 hp2 hp3
            have NP := Lib.hid (rplace_any p1 p2 p3 x wr.drew)
            by_cases hok : Nd.PlaceOk (p1, p2, p3) x
            · rw [decide_eq_true hok] at NP
              have Nx := Lib.hid (show ∀ t, t < j + 1 → Nd.PlaceOk (Nd.t3 n.ps t) (Nd.at_ n.gs t) from fun t ht => by
                rcases Nat.lt_or_ge t j with c | c
                · exact HP.out t c
                · rw [show t = j by omega, ← Hp.out, ← Hx.out]; exact hok)
              clear hok
              go_wp2_with fail
              go_region_with (go_at_call 57; ((with_reducible refine NP.out.mono ?_); rintro e9 w9 ⟨rfl, h9⟩; have H9 := Lib.hid (show Below V.heap.size V w9 from Hbw.out.trans (((Below.refl wr.heap.size wr).drew.trans h9).mono Hbw.out.size)); clear h9))
              all_goals
                go_wp2_with fail
                go_roundw
                case rel => exact ⟨j + 1, by go_num, by omega, H9.out, Nx.out⟩
                case measure => simp [intOf]; omega
            · rw [decide_eq_false hok] at NP
              have F := no.out fun o => by
                have := (o.leaf (by rw [← E0.out]; exact Hz.out)).2.2.2 j (by rw [← E1.out]; exact hji)
                rw [← Hp.out, ← Hx.out] at this
                exact hok this
              clear hok
              go_wp2_with fail
              go_region_with (go_at_call 57; ((with_reducible refine NP.out.mono ?_); rintro e9 w9 ⟨rfl, h9⟩; have H9 := Lib.hid (show Below b w w9 from HBr.out.trans (((Below.refl wr.heap.size wr).drew.trans h9).mono HBs.out)); clear h9))
              all_goals
                go_wp2_with fail
                go_ret
                exact ⟨by rw [F]; rfl, H9.out⟩
          · have hji' : j = i := by omega
            subst hji'
            have z7 : decide ((j : Int) < (j : Int)) = false := by simp
            have z7' : decide (j < j) = false := by simp
            have F : R = true := HT.out.2 ⟨by rw [← E0.out, Hz.out]; decide, by rw [← E0.out, Hz.out]; decide, by rw [← E1.out]; exact b1, HKk.out.1, HKk.out.2, fun _ => ⟨by rw [← E2.out, Ha.out, E1.out], by rw [← E3.out, Hb.out, E1.out], List.eq_nil_of_length_eq_zero (by rw [← E4.out]; exact Hc.out), by rw [← E1.out]; exact HP.out⟩, fun h => absurd (by rw [← E0.out]; exact Hz.out) h⟩
            go_wp2_with fail
            go_ret
            exact ⟨by rw [F]; rfl, HBr.out⟩
      · have q0 : (k0 == 0) = false := by rw [beq_eq_false_iff_ne]; exact hz
        have Hz := Lib.hid hz
        have H06 := Lib.hid (show 0 ≤ k0 ∧ k0 < 6 by omega)
        have hnz : n.h ≠ 0 := by rw [← E0.out]; exact hz
        clear h0 h6
        by_cases ha : k4 = i
        case neg =>
          have q1 : ((k4 : Int) != (i : Int)) = true := by rw [bne_iff_ne]; omega
          have F := no.out fun o => by have := (o.inner hnz).1; rw [← E4.out, ← E1.out] at this; exact ha this
          clear hz ha hnz
          go_wp2_with fail
          go_ret
          exact ⟨by rw [F]; rfl, HBV.out⟩
        have q1 : ((k4 : Int) != (i : Int)) = false := by rw [ha]; simp
        by_cases hd : i < 1
        · have q4 : decide ((i : Int) < 1) = true := by rw [decide_eq_true_eq]; omega
          have q4' : decide (i < 1) = true := by rw [decide_eq_true_eq]; exact hd
          have F := no.out fun o => by have := (o.inner hnz).2.1; rw [← E1.out] at this; omega
          clear hz ha hnz hd
          go_wp2_with fail
          go_ret
          exact ⟨by rw [F]; rfl, HBV.out⟩
        have q4 : decide ((i : Int) < 1) = false := by rw [decide_eq_false_iff_not]; omega
        have q4' : decide (i < 1) = false := by rw [decide_eq_false_iff_not]; exact hd
        by_cases hb' : k2 = 0
        case neg =>
          have q2 : decide ((0 : Int) < (k2 : Int)) = true := by rw [decide_eq_true_eq]; omega
          have q2' : decide (0 < k2) = true := by rw [decide_eq_true_eq]; omega
          have F := no.out fun o => by have := (o.inner hnz).2.2.1; rw [E2.out, this] at hb'; exact hb' rfl
          clear hz ha hnz hd hb'
          go_wp2_with fail
          go_ret
          exact ⟨by rw [F]; rfl, HBV.out⟩
        have q2 : decide ((0 : Int) < (k2 : Int)) = false := by rw [decide_eq_false_iff_not]; omega
        have q2' : decide (0 < k2) = false := by rw [decide_eq_false_iff_not]; omega
        by_cases hc' : k3 = 0
        case neg =>
          have q3 : decide ((0 : Int) < (k3 : Int)) = true := by rw [decide_eq_true_eq]; omega
          have q3' : decide (0 < k3) = true := by rw [decide_eq_true_eq]; omega
          have F := no.out fun o => by have := (o.inner hnz).2.2.2.1; rw [E3.out, this] at hc'; exact hc' rfl
          clear hz ha hnz hd hb' hc'
          go_wp2_with fail
          go_ret
          exact ⟨by rw [F]; rfl, HBV.out⟩
        have q3 : decide ((0 : Int) < (k3 : Int)) = false := by rw [decide_eq_false_iff_not]; omega
        have q3' : decide (0 < k3) = false := by rw [decide_eq_false_iff_not]; omega
        have Ha := Lib.hid ha
        have Hb := Lib.hid hb'
        have Hc := Lib.hid hc'
        have Hd := Lib.hid hd
        have Hnz := Lib.hid hnz
        clear hz ha hb' hc' hd hnz
        go_wp2_with fail
        clear x0 x1 x2 x3 x4
        go_loopw [5] (fun v wr => ∃ j m : Nat, v = .int .i64 (j : Int) ∧ j ≤ i ∧ wr = V.drewN m ∧ ∀ t, t < j → Nd.KidOk (Nd.t3 n.cs t)) (fun v _ => i - (intOf v).toNat)
        case atStart => exact ⟨0, 0, rfl, Nat.zero_le _, (drewN_zeroN V).symm, fun j hj => absurd hj (Nat.not_lt_zero _)⟩
        case round =>
          obtain ⟨j, m, rfl, hj, rfl, hP⟩ := hrel
          have HP := Lib.hid hP
          obtain ⟨x0, x1, x2, x3, x4⟩ := CV.out V (Below.refl _ _)
          have HBr := Lib.hid (show Below b w (V.drewN m) from below_drewN HBV.out m)
          clear hP
          by_cases hji : j < i
          · have z7 : decide ((j : Int) < (k4 : Int)) = true := by rw [decide_eq_true_eq, Ha.out]; omega
            have z7' : decide (j < k4) = true := by rw [decide_eq_true_eq, Ha.out]; exact hji
            have hk4 : (j : Int) < (k4 : Int) := by rw [Ha.out]; omega
            obtain ⟨g, o, rfl, -, hp1, hp2, hp3⟩ := NV.out.row.cs.three (i := j) (by rw [← E4.out, Ha.out]; exact hji)
            obtain ⟨p, hp⟩ : ∃ p, p = Nd.t3 n.cs j := ⟨_, rfl⟩
            have Hp := Lib.hid hp
            rw [← hp] at hp1 hp2 hp3
            clear hp
            obtain ⟨p1, p2, p3⟩ := p
            dsimp only at hp1 hp2 hp3
            by_cases hr : Nd.RunOk p1 p2
            · have NR := Lib.hid (rrun_q p1 p2 V m true (decide_eq_true hr))
              by_cases hg : Nd.GenOk p3
              · have NG := Lib.hid (rgen_q p3 V m true (decide_eq_true hg))
                have Nx := Lib.hid (show ∀ t, t < j + 1 → Nd.KidOk (Nd.t3 n.cs t) from fun t ht => by
                  rcases Nat.lt_or_ge t j with c | c
                  · exact HP.out t c
                  · rw [show t = j by omega, ← Hp.out]; exact ⟨hr, hg⟩)
                clear hr hg
                go_wp2_with fail
                go_quiet ((first | (go_at_call 58; with_reducible exact NR.out _) | (go_at_call 59; with_reducible exact NG.out _)))
                go_wp2_with fail
                go_roundw
                case rel => exact ⟨j + 1, _, by go_num, by omega, rfl, Nx.out⟩
                case measure => simp [intOf]; omega
              · have NG := Lib.hid (rgen_q p3 V m false (decide_eq_false hg))
                have F := no.out fun o => by
                  have := (o.inner Hnz.out).2.2.2.2 j (by rw [← E1.out]; exact hji)
                  rw [← Hp.out] at this
                  exact hg this.2
                clear hr hg
                go_wp2_with fail
                go_quiet ((first | (go_at_call 58; with_reducible exact NR.out _) | (go_at_call 59; with_reducible exact NG.out _)))
                go_wp2_with fail
                go_ret
                exact ⟨by rw [F]; rfl, below_drewN HBr.out _⟩
            · have NR := Lib.hid (rrun_q p1 p2 V m false (decide_eq_false hr))
              have F := no.out fun o => by
                have := (o.inner Hnz.out).2.2.2.2 j (by rw [← E1.out]; exact hji)
                rw [← Hp.out] at this
                exact hr this.1
              clear hr
              go_wp2_with fail
              go_quiet ((first | (go_at_call 58; with_reducible exact NR.out _)))
              go_wp2_with fail
              go_ret
              exact ⟨by rw [F]; rfl, below_drewN HBr.out _⟩
          · have hji' : j = i := by omega
            subst hji'
            have z7 : decide ((j : Int) < (k4 : Int)) = false := by rw [Ha.out]; simp
            have z7' : decide (j < k4) = false := by rw [Ha.out]; simp
            have F : R = true := HT.out.2 ⟨by rw [← E0.out]; exact H06.out.1, by rw [← E0.out]; exact H06.out.2, by rw [← E1.out]; exact b1, HKk.out.1, HKk.out.2, fun h => absurd h Hnz.out, fun _ => ⟨by rw [← E4.out, Ha.out, E1.out], by rw [← E1.out]; have := Hd.out; omega, List.eq_nil_of_length_eq_zero (by rw [← E2.out]; exact Hb.out), List.eq_nil_of_length_eq_zero (by rw [← E3.out]; exact Hc.out), by rw [← E1.out]; exact HP.out⟩⟩
            go_wp2_with fail
            go_ret
            exact ⟨by rw [F]; rfl, HBr.out⟩
end Go.Proofs.Ytlcchefiicalpaa
