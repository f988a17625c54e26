/- The document's Encode. -/
import Derived.Test.YtdfelkkibolheaaNde
import Derived.Deep.DeepCutAuto
namespace Go.Proofs.Ytdfelkkibolheaa
open Go.RowKit

theorem nvs_row (l : List Nat) (w : World) (t : TypeId) (cs : Array Value) (h : cs = (nvs l).toArray) (B : Nat) (hB : w.heap.size + 1 ≤ B) : SlC (w.alloc (.cells cs t)) B (some ⟨w.heap.size, 0, none⟩) l.length l.length (nvs l) := by
  subst h
  exact ⟨Nat.le_refl _, (fun h => by cases h), .inr ⟨w.heap.size, 0, rfl, by omega, fun i hi => by rw [Nat.zero_add, (Blk.new w t (nvs l).toArray).cell i]; simp [hi]⟩⟩
theorem Nd.Ok.entry_leaf {n : Nd.N} (h : Nd.Ok n) (h0 : n.h = 0) {i : Nat} (hi : i < n.ks.length) : ∃ K a b c G : Nat, Nd.at_ n.ks i = (K : Int) ∧ Nd.t3 n.ps i = ((a : Int), (b : Int), (c : Int)) ∧ Nd.at_ n.gs i = (G : Int) ∧ Nd.entry n i = [K, a, b, c, G] ∧ K < 268435456 ∧ a < 268435456 ∧ b < 268435456 ∧ c < 268435456 ∧ G < 268435456 := by
  have hk := h.key i hi
  obtain ⟨-, -, -, h4⟩ := h.leaf h0
  obtain ⟨⟨p1, p2, p3, p4, p5⟩, p6, p7, p8, p9⟩ := h4 i hi
  refine ⟨(Nd.at_ n.ks i).toNat, (Nd.t3 n.ps i).1.toNat, (Nd.t3 n.ps i).2.1.toNat, (Nd.t3 n.ps i).2.2.toNat, (Nd.at_ n.gs i).toNat, by omega, ?_, by omega, ?_, by omega, by omega, by omega, by omega, by omega⟩
  · rw [Int.toNat_of_nonneg p1, Int.toNat_of_nonneg (by omega), Int.toNat_of_nonneg p6]
  · unfold Nd.entry; rw [if_pos h0]
theorem Nd.Ok.entry_inner {n : Nd.N} (h : Nd.Ok n) (h0 : n.h ≠ 0) {i : Nat} (hi : i < n.ks.length) : ∃ K a b c : Nat, Nd.at_ n.ks i = (K : Int) ∧ Nd.t3 n.cs i = ((a : Int), (b : Int), (c : Int)) ∧ Nd.entry n i = [K, a, b, c] ∧ K < 268435456 ∧ a < 268435456 ∧ b < 268435456 ∧ c < 268435456 := by
  have hk := h.key i hi
  obtain ⟨-, -, -, -, h4⟩ := h.inner h0
  obtain ⟨⟨p1, p2, p3, p4, p5⟩, p8, p9⟩ := h4 i hi
  refine ⟨(Nd.at_ n.ks i).toNat, (Nd.t3 n.cs i).1.toNat, (Nd.t3 n.cs i).2.1.toNat, (Nd.t3 n.cs i).2.2.toNat, by omega, ?_, ?_, by omega, by omega, by omega, by omega⟩
  · rw [Int.toNat_of_nonneg p1, Int.toNat_of_nonneg (by omega), Int.toNat_of_nonneg p8]
  · unfold Nd.entry; rw [if_neg h0]
theorem entries_len {n : Nd.N} (h : Nd.Ok n) : ∀ {k : Nat}, k ≤ n.ks.length → (Nd.putL (Nd.entries n k)).length ≤ k * 20
  | 0, _ => by simp [Nd.entries, Nd.putL]
  | k + 1, hk => by
    rw [Nd.entries_next, Nd.putL_app, List.length_append]
    have h1 := entries_len h (k := k) (by omega)
    have h2 := putL_len (h.entry_lt (i := k) (by omega))
    rw [h.entry_len] at h2
    have : Nd.width n.h.toNat ≤ 5 := by unfold Nd.width; split <;> omega
    omega
section
variable {w : World} {v : Value} {n : Nd.N}
set_option maxRecDepth 8000 in
set_option maxHeartbeats 8000000 in
theorem renc_no (h : NdAt w w.heap.size v n) (hno : ¬ Nd.Ok n) : Calls Try.prog 44 #[v] w fun e w' => e = .returned (.tuple #[.slice none 0 0, .int .i64 1]) ∧ Below w.heap.size w w' := by
  obtain ⟨A1, c1, A2, c2, A3, c3, A4, c4, rfl, hf⟩ := h
  obtain ⟨W, hW⟩ : ∃ W, w.alloc (.cells #[.int .i64 n.h, .slice A1 n.ks.length c1, .slice A2 n.ps.length c2, .slice A3 n.gs.length c3, .slice A4 n.cs.length c4] 60) = W := ⟨_, rfl⟩
  obtain ⟨hN, hbl⟩ := nd_boxed hf hW
  have HB := Lib.hid hbl
  have N1 := Lib.hid (rmay_any (w := W) (n := n) ⟨A1, c1, A2, c2, A3, c3, A4, c4, rfl, hN.row⟩ false ⟨(fun h => by cases h), fun h => absurd h hno⟩)
  obtain ⟨b, hb⟩ : ∃ b, w.heap.size = b := ⟨_, rfl⟩
  have bx := hN.blk
  rw [hb] at HB bx ⊢
  have HBs := Lib.hid (show b ≤ W.heap.size by rw [← hb]; exact hbl.size)
  have x0 : W.cell? ⟨b, 0, none⟩ = some (.int .i64 n.h) := bx.cell 0
  have x1 : W.cell? ⟨b, 1, none⟩ = some (.slice A1 n.ks.length c1) := bx.cell 1
  have x2 : W.cell? ⟨b, 2, none⟩ = some (.slice A2 n.ps.length c2) := bx.cell 2
  have x3 : W.cell? ⟨b, 3, none⟩ = some (.slice A3 n.gs.length c3) := bx.cell 3
  have x4 : W.cell? ⟨b, 4, none⟩ = some (.slice A4 n.cs.length c4) := bx.cell 4
  clear hN hbl hf bx
  generalize n.ks.length = k1 at *
  generalize n.ps.length = k2 at *
  generalize n.gs.length = k3 at *
  generalize n.cs.length = k4 at *
  generalize n.h = k0 at *
  go_enter Try.func44, Try.ntmps44
  go_wp2_with (go_at_call 46; refine N1.out.mono ?_; rintro e w2 ⟨rfl, h2⟩; have H2 := Lib.hid (HB.out.trans (h2.mono HBs.out)); clear h2)
  go_returns
  exact ⟨rfl, H2.out⟩
set_option maxRecDepth 8000 in
set_option maxHeartbeats 16000000 in
theorem renc_ok (hNum : RNumC) (h : NdAt w w.heap.size v n) (ho : Nd.Ok n) : Calls Try.prog 44 #[v] w fun e w' => ∃ A c, e = .returned (.tuple #[.slice A (Nd.enc n).length c, .int .i64 0]) ∧ OY w' w.heap.size (.slice A (Nd.enc n).length c) (Nd.enc n) ∧ Below w.heap.size w w' := by
  obtain ⟨i0, hi0, hz0, hs0, hb0⟩ := byte_parts (P := Try.prog) (e := 5) (by kernel_rfl)
  obtain ⟨A1, c1, A2, c2, A3, c3, A4, c4, rfl, hf⟩ := h
  obtain ⟨W, hW⟩ : ∃ W, w.alloc (.cells #[.int .i64 n.h, .slice A1 n.ks.length c1, .slice A2 n.ps.length c2, .slice A3 n.gs.length c3, .slice A4 n.cs.length c4] 60) = W := ⟨_, rfl⟩
  obtain ⟨hN, hbl⟩ := nd_boxed hf hW
  have HB := Lib.hid hbl
  have HO := Lib.hid ho
  have HPut := Lib.hid (fun (w : World) (A : Option Addr) (c : Nat) (l : List Nat) h1 h2 h3 => put_any hNum (w := w) (A := A) (c := c) (l := l) h1 h2 h3)
  have HN := Lib.hid hN
  have N1 := Lib.hid (rmay_any (w := W) (n := n) ⟨A1, c1, A2, c2, A3, c3, A4, c4, rfl, hN.row⟩ true ⟨fun _ => ho, fun _ => rfl⟩)
  obtain ⟨hd, hhd⟩ : ∃ k : Nat, n.h = (k : Int) := ⟨n.h.toNat, by have := ho.h0; omega⟩
  obtain ⟨k1, e1⟩ : ∃ k, k = n.ks.length := ⟨_, rfl⟩
  obtain ⟨k2, e2⟩ : ∃ k, k = n.ps.length := ⟨_, rfl⟩
  obtain ⟨k3, e3⟩ : ∃ k, k = n.gs.length := ⟨_, rfl⟩
  obtain ⟨k4, e4⟩ : ∃ k, k = n.cs.length := ⟨_, rfl⟩
  have E0 := Lib.hid hhd
  have E1 := Lib.hid e1
  have E2 := Lib.hid e2
  have E3 := Lib.hid e3
  have E4 := Lib.hid e4
  have hk8 : k1 ≤ 8 := by rw [e1]; exact ho.few
  have hd6 : hd < 6 := by have := ho.h6; omega
  obtain ⟨b, hb⟩ : ∃ b, w.heap.size = b := ⟨_, rfl⟩
  have Cs := Lib.hid (fun (W' : World) (hbw : Below W.heap.size W W') => show W'.cell? ⟨b, 0, none⟩ = some (.int .i64 (hd : Int)) ∧ W'.cell? ⟨b, 1, none⟩ = some (.slice A1 k1 c1) ∧ W'.cell? ⟨b, 2, none⟩ = some (.slice A2 k2 c2) ∧ W'.cell? ⟨b, 3, none⟩ = some (.slice A3 k3 c3) ∧ W'.cell? ⟨b, 4, none⟩ = some (.slice A4 k4 c4) from by
    have := (hN.below hbw).blk
    rw [hb, hhd, ← e1, ← e2, ← e3, ← e4] at this
    exact ⟨this.cell 0, this.cell 1, this.cell 2, this.cell 3, this.cell 4⟩)
  rw [hhd, ← e1, ← e2, ← e3, ← e4] at hW N1 ⊢
  rw [hb] at HB ⊢
  have HBs := Lib.hid (show b ≤ W.heap.size by rw [← hb]; exact hbl.size)
  obtain ⟨x0, x1, x2, x3, x4⟩ := Cs.out W (Below.refl _ _)
  obtain ⟨R, hR⟩ : ∃ R, R = Nd.enc n := ⟨_, rfl⟩
  have HR := Lib.hid (show R = Nd.putL [hd, k1] ++ Nd.putL (Nd.entries n k1) by
    rw [hR, Nd.enc_is, hhd, ← e1, Int.toNat_natCast]
    simp [Nd.putL])
  rw [← hR]
  clear hN hbl hf hhd e1 e2 e3 e4 ho hNum hR
  go_enter Try.func44, Try.ntmps44
  go_upto_region 3 with (go_at_call 46; refine N1.out.mono ?_; rintro e w2 ⟨rfl, h2⟩; have H2 := Lib.hid h2; clear h2)
  obtain ⟨x0, x1, x2, x3, x4⟩ := Cs.out w2 H2.out
  obtain ⟨g2, hg2⟩ : ∃ g, w2.heap.size = g := ⟨_, rfl⟩
  obtain ⟨Wa, hWa⟩ : ∃ Wa, w2.alloc (.cells #[.int .i64 (hd : Int), .int .i64 (k1 : Int)] 3) = Wa := ⟨_, rfl⟩
  have hWab : Below W.heap.size W Wa := by rw [← hWa]; exact H2.out.alloc H2.out.size _
  have NP := HPut.out Wa (some ⟨g2, 0, none⟩) 2 [hd, k1] (by rw [← hWa, ← hg2]; exact nvs_row [hd, k1] w2 _ _ rfl _ (by simp)) (by simp) (by intro x hx; simp at hx; omega)
  have NP := Lib.hid NP
  rw [show ([hd, k1] : List Nat).length = 2 from rfl] at NP
  obtain ⟨P0, hP0⟩ : ∃ P, P = Nd.putL [hd, k1] := ⟨_, rfl⟩
  rw [← hP0] at NP HR
  have hp0 : P0.length ≤ 8 := by rw [hP0]; exact putL_len (by intro x hx; simp at hx; omega)
  have HWab := Lib.hid hWab
  clear hWab hP0
  go_wp2_with (go_at_call 62; refine NP.out.mono ?_; rintro e w3 ⟨A5, c5, rfl, o3, h3⟩; have O3 := Lib.hid (World.ownsRow_base o3 HWab.out.size); have H3 := Lib.hid (HWab.out.trans (h3.mono HWab.out.size)); clear o3 h3)
  clear x0 x1 x2 x3 x4
  go_loopw [4, 5] (fun s v wr => ∃ (i : Nat) (u : Value), u = s ∧ v = .int .i64 (i : Int) ∧ i ≤ k1 ∧ OY wr W.heap.size u (P0 ++ Nd.putL (Nd.entries n i)) ∧ Below W.heap.size W wr) (fun _ v _ => k1 - (intOf v).toNat)
  case atStart => exact ⟨0, _, rfl, rfl, Nat.zero_le _, by rw [show P0 ++ Nd.putL (Nd.entries n 0) = P0 by simp [Nd.entries, Nd.putL]]; exact O3.out, H3.out⟩
  case round =>
    obtain ⟨i, u, rfl, rfl, hi, own, hbr⟩ := hrel
    have HBr := Lib.hid hbr
    have NR := Lib.hid (HN.out.below hbr)
    obtain ⟨x0, x1, x2, x3, x4⟩ := Cs.out wr hbr
    have hbW : b < W.heap.size := by have := HN.out.blk.lt; rw [hb] at this; exact this
    obtain ⟨P, hP⟩ : ∃ P, P = P0 ++ Nd.putL (Nd.entries n i) := ⟨_, rfl⟩
    have HP := Lib.hid hP
    have hpl : P.length ≤ 8 + i * 20 := by
      rw [hP, List.length_append]
      have := entries_len HO.out (k := i) (by rw [← E1.out]; exact hi)
      omega
    rw [← hP] at own
    obtain ⟨A5, c5, rfl⟩ := own_slice own
    obtain ⟨m, hm⟩ : ∃ m, m = P.length := ⟨_, rfl⟩
    have Hm := Lib.hid hm
    have Own := Lib.hid (show wr.ownsRow W.heap.size 5 1 (.slice A5 m c5) m (byts P) from by have h := own; unfold OY at h; rw [← hm] at h; exact h)
    rw [← hm] at hpl ⊢
    clear hP hm own hbr
    by_cases hik : i < k1
    · have z0 : decide ((i : Int) < (k1 : Int)) = true := by rw [decide_eq_true_eq]; omega
      have z0' : decide (i < k1) = true := by rw [decide_eq_true_eq]; exact hik
      have hki : (i : Int) < (k1 : Int) := by omega
      by_cases hz : hd = 0
      · obtain ⟨K, a, c, e, G, hK, hP, hG, hE, bK, ba, bc, be, bG⟩ := HO.out.entry_leaf (by rw [E0.out, hz]; rfl) (i := i) (by rw [← E1.out]; exact hik)
        have hl := HO.out.leaf (by rw [E0.out, hz]; rfl)
        have e2 : k2 = k1 := by rw [E2.out, E1.out]; exact hl.1
        have e3 : k3 = k1 := by rw [E3.out, E1.out]; exact hl.2.1
        have q0 : ((hd : Int) == 0) = true := by rw [hz]; rfl
        have hk2 : (i : Int) < (k2 : Int) := by omega
        have hk3 : (i : Int) < (k3 : Int) := by omega
        obtain ⟨gp, op, rfl, -, hp1, hp2, hp3⟩ := NR.out.row.ps.three (i := i) (by rw [← E2.out]; omega)
        obtain ⟨g3, o3, rfl, hg3W, -⟩ := HN.out.row.gs.int (i := i) (by rw [← E3.out]; omega)
        obtain ⟨g', o', q, -, hc3⟩ := NR.out.row.gs.int (i := i) (by rw [← E3.out]; omega)
        injection q with q
        injection q with q q'
        subst q; subst q'
        rw [hG] at hc3
        obtain ⟨g, o, rfl, hgW, -⟩ := HN.out.row.ks.int (i := i) (by rw [← E1.out]; exact hik)
        obtain ⟨g', o', q, -, hc⟩ := NR.out.row.ks.int (i := i) (by rw [← E1.out]; exact hik)
        injection q with q
        injection q with q q'
        subst q; subst q'
        rw [hK] at hc
        rw [hP] at hp1 hp2 hp3
        dsimp only at hp1 hp2 hp3
        obtain ⟨pb, hpb⟩ : ∃ pb, wr.heap.size = pb := ⟨_, rfl⟩
        obtain ⟨W1, hW1⟩ : ∃ W1, wr.alloc (.cells #[.int .i64 (a : Int), .int .i64 (c : Int), .int .i64 (e : Int)] 84) = W1 := ⟨_, rfl⟩
        have bp : Blk W1 pb 84 #[.int .i64 (a : Int), .int .i64 (c : Int), .int .i64 (e : Int)] := by rw [← hW1, ← hpb]; exact Blk.new _ _ _
        have hb1 : Below wr.heap.size wr W1 := by rw [← hW1]; exact (Below.refl _ _).alloc (Nat.le_refl _) _
        have hB1 := Lib.hid (HBr.out.trans (hb1.mono HBr.out.size))
        have N1r := NR.out.below hb1
        have Kp := Lib.hid (fun (X : World) (hX : Below W1.heap.size W1 X) => show X.cell? ⟨b, 1, none⟩ = some (.slice (some ⟨g, o, none⟩) k1 c1) ∧ X.cell? ⟨g, o + i, none⟩ = some (.int .i64 (K : Int)) ∧ X.cell? ⟨pb, 0, none⟩ = some (.int .i64 (a : Int)) ∧ X.cell? ⟨pb, 1, none⟩ = some (.int .i64 (c : Int)) ∧ X.cell? ⟨pb, 2, none⟩ = some (.int .i64 (e : Int)) ∧ X.cell? ⟨b, 3, none⟩ = some (.slice (some ⟨g3, o3, none⟩) k3 c3) ∧ X.cell? ⟨g3, o3 + i, none⟩ = some (.int .i64 (G : Int)) from by
          obtain ⟨y0, y1, y2, y3, y4⟩ := Cs.out X (hB1.out.trans (hX.mono hB1.out.size))
          have bp' := bp.keep (hX.block pb bp.lt)
          have NX := N1r.below hX
          obtain ⟨g', o', q, -, hc'⟩ := NX.row.ks.int (i := i) (by rw [← E1.out]; exact hik)
          injection q with q
          injection q with q q'
          subst q; subst q'
          rw [hK] at hc'
          obtain ⟨g', o', q, -, hc''⟩ := NX.row.gs.int (i := i) (by rw [← E3.out]; omega)
          injection q with q
          injection q with q q'
          subst q; subst q'
          rw [hG] at hc''
          exact ⟨y1, hc', bp'.cell 0, bp'.cell 1, bp'.cell 2, y3, hc''⟩)
        have hrow : ∀ b', (Value.slice A5 m c5).ownBlock = some b' → W.heap.size ≤ b' ∧ b' < pb := fun b' h => by have := Own.out.lt b' h; rw [hpb] at this; exact this
        have Kq := Lib.hid (fun (X Y : World) (hX : Below W1.heap.size W1 X) (hY : X.grownBy Y (Value.slice A5 m c5).ownBlock) => show Y.cell? ⟨b, 1, none⟩ = some (.slice (some ⟨g, o, none⟩) k1 c1) ∧ Y.cell? ⟨g, o + i, none⟩ = some (.int .i64 (K : Int)) ∧ Y.cell? ⟨pb, 0, none⟩ = some (.int .i64 (a : Int)) ∧ Y.cell? ⟨pb, 1, none⟩ = some (.int .i64 (c : Int)) ∧ Y.cell? ⟨pb, 2, none⟩ = some (.int .i64 (e : Int)) ∧ Y.cell? ⟨b, 3, none⟩ = some (.slice (some ⟨g3, o3, none⟩) k3 c3) ∧ Y.cell? ⟨g3, o3 + i, none⟩ = some (.int .i64 (G : Int)) from by
          have hs := Kp.out X hX
          have key : ∀ b' o' , b' < X.heap.size → (b' < W.heap.size ∨ b' = pb) → Y.cell? ⟨b', o', none⟩ = X.cell? ⟨b', o', none⟩ := fun b' o' h1 h2 => by
            have := hY.block b' h1 (fun e => by have := hrow b' e.symm; omega)
            unfold World.cell?
            rw [this]
          have hXs := Nat.le_trans hB1.out.size hX.size
          have hpX : pb < X.heap.size := Nat.lt_of_lt_of_le bp.lt hX.size
          refine ⟨(key b 1 (by omega) (.inl hbW)).trans hs.1, (key g _ (by omega) (.inl hgW)).trans hs.2.1, (key pb 0 hpX (.inr rfl)).trans hs.2.2.1, (key pb 1 hpX (.inr rfl)).trans hs.2.2.2.1, (key pb 2 hpX (.inr rfl)).trans hs.2.2.2.2.1, (key b 3 (by omega) (.inl hbW)).trans hs.2.2.2.2.2.1, (key g3 _ (by omega) (.inl hg3W)).trans hs.2.2.2.2.2.2⟩)
        have Ow1 := Lib.hid (own_keep Own.out (w' := W1) fun b' _ hlt => hb1.block b' hlt)
        have hbc := (Below.refl W1.heap.size W1).drew
        obtain ⟨gl, hgl⟩ : ∃ gl, W1.heap.size = gl := ⟨_, rfl⟩
        obtain ⟨Wb, hWb⟩ : ∃ Wb, W1.drew.alloc (.cells #[.int .i64 (K : Int), .int .i64 (a : Int), .int .i64 (c : Int), .int .i64 (e : Int), .int .i64 (G : Int)] 3) = Wb := ⟨_, rfl⟩
        have hbb : Below W1.heap.size W1 Wb := by rw [← hWb]; exact hbc.alloc hbc.size _
        have HBB := Lib.hid hbb
        have NP := HPut.out Wb (some ⟨gl, 0, none⟩) 5 [K, a, c, e, G] (by rw [← hWb, ← hgl]; exact nvs_row [K, a, c, e, G] W1.drew _ _ rfl _ (by simp)) (by simp) (by intro x hx; simp only [List.mem_cons, List.not_mem_nil, or_false] at hx; omega)
        have NP := Lib.hid NP
        rw [show ([K, a, c, e, G] : List Nat).length = 5 from rfl] at NP
        have hplen := putL_len (l := [K, a, c, e, G]) (by intro x hx; simp only [List.mem_cons, List.not_mem_nil, or_false] at hx; omega)
        rw [show ([K, a, c, e, G] : List Nat).length * 4 = 20 from rfl] at hplen
        have Nx := Lib.hid (show P0 ++ Nd.putL (Nd.entries n (i + 1)) = P ++ Nd.putL [K, a, c, e, G] by rw [Nd.entries_next, Nd.putL_app, hE, HP.out, List.append_assoc])
        obtain ⟨Q, hQ⟩ : ∃ Q, Q = Nd.putL [K, a, c, e, G] := ⟨_, rfl⟩
        rw [← hQ] at NP hplen Nx
        obtain ⟨kq, hkq⟩ : ∃ k, k = Q.length := ⟨_, rfl⟩
        have Hkq := Lib.hid hkq
        have NP := Lib.hid (NP.out.mono fun e w' h => show ∃ A' c', e = Ending.returned (.slice A' kq c') ∧ w'.ownsRow Wb.heap.size 5 1 (.slice A' kq c') kq (byts Q) ∧ Below Wb.heap.size Wb w' from by
          obtain ⟨A', c', h1, h2, h3⟩ := h
          exact ⟨A', c', by rw [hkq]; exact h1, by rw [hkq]; exact h2, h3⟩)
        rw [← hkq] at hplen
        have HB1s := hB1.out.size
        clear bp hb1 hbb hQ hkq hE N1r hK hP hl hrow e2 e3 hG
        clear hz
        go_upto_region 9 with fail
        go_region_held_law (fun X => X.cell? ⟨b, 1, none⟩ = some (.slice (some ⟨g, o, none⟩) k1 c1) ∧ X.cell? ⟨g, o + i, none⟩ = some (.int .i64 (K : Int)) ∧ X.cell? ⟨pb, 0, none⟩ = some (.int .i64 (a : Int)) ∧ X.cell? ⟨pb, 1, none⟩ = some (.int .i64 (c : Int)) ∧ X.cell? ⟨pb, 2, none⟩ = some (.int .i64 (e : Int)) ∧ X.cell? ⟨b, 3, none⟩ = some (.slice (some ⟨g3, o3, none⟩) k3 c3) ∧ X.cell? ⟨g3, o3 + i, none⟩ = some (.int .i64 (G : Int))) (first | exact Kp.out _ hbc | exact Kp.out _ HBB.out | exact Kp.out _ (Below.refl _ _).drew | exact Kq.out _ _ hbc hgr) (first
          | (go_at_call 62; ((with_reducible refine NP.out.mono ?_); rintro e4 w4 ⟨A6, c6, rfl, o4, hb4⟩; have hbc := HBB.out.trans (hb4.mono HBB.out.size); have O4 := Lib.hid o4; have S4 := Lib.hid (Sl.of_own o4); have hA6 := own_none o4; have hc6 := own_len o4; have Ow4 := Lib.hid (own_keep Ow1.out fun b' _ hlt => hbc.block b' hlt); have hB4 := Nat.le_trans HB1s hbc.size; clear o4 hb4))
          | (refine step_append_sl (base := W.heap.size) _ rfl (.tmp 33) (.tmp 51) _ rfl Try.underlying24 hi0 hz0 hs0 hb0 rfl (v := .slice A5 m c5) rfl Ow4.out rfl (m := kq) (news := byts Q) (by rw [byts_len', Hkq.out]) hA6 S4.out (byts_one' _) (by rw [byts_len', ← Hkq.out]; exact hc6) (by rw [byts_len', ← Hkq.out]; unfold maxLen; omega) (by rw [byts_len', ← Hkq.out]; omega) hB4 ?_; intro v5 w5 h1 hgr _; rw [byts_len', ← Hkq.out] at h1; obtain ⟨A7, c7, rfl⟩ := own_slice h1; have K5 := Lib.hid h1; clear h1))
        all_goals
          have B5 := Lib.hid ((hB1.out.trans (hbc.mono HB1s)).grown hgr hB4 (fun gq hgq => (Ow4.out.lt gq hgq).1))
          clear hgr
          go_wp2_with fail
          go_roundw
          case rel =>
            refine ⟨i + 1, _, rfl, by go_num, by omega, ?_, B5.out⟩
            rw [Nx.out]
            unfold OY
            rw [List.length_append, byts_app', ← Hm.out, ← Hkq.out]
            exact K5.out
          case measure => simp [intOf]; omega
      · have hnz : n.h ≠ 0 := by rw [E0.out]; omega
        obtain ⟨K, a, c, e, hK, hP, hE, bK, ba, bc, be⟩ := HO.out.entry_inner hnz (i := i) (by rw [← E1.out]; exact hik)
        have hl := HO.out.inner hnz
        have e4 : k4 = k1 := by rw [E4.out, E1.out]; exact hl.1
        have q0 : ((hd : Int) == 0) = false := by rw [beq_eq_false_iff_ne]; omega
        have hk4 : (i : Int) < (k4 : Int) := by omega
        obtain ⟨gp, op, rfl, -, hp1, hp2, hp3⟩ := NR.out.row.cs.three (i := i) (by rw [← E4.out]; omega)
        obtain ⟨g, o, rfl, hgW, -⟩ := HN.out.row.ks.int (i := i) (by rw [← E1.out]; exact hik)
        obtain ⟨g', o', q, -, hc⟩ := NR.out.row.ks.int (i := i) (by rw [← E1.out]; exact hik)
        injection q with q
        injection q with q q'
        subst q; subst q'
        rw [hK] at hc
        rw [hP] at hp1 hp2 hp3
        dsimp only at hp1 hp2 hp3
        obtain ⟨pb, hpb⟩ : ∃ pb, wr.heap.size = pb := ⟨_, rfl⟩
        obtain ⟨W1, hW1⟩ : ∃ W1, wr.alloc (.cells #[.int .i64 (a : Int), .int .i64 (c : Int), .int .i64 (e : Int)] 86) = W1 := ⟨_, rfl⟩
        have bp : Blk W1 pb 86 #[.int .i64 (a : Int), .int .i64 (c : Int), .int .i64 (e : Int)] := by rw [← hW1, ← hpb]; exact Blk.new _ _ _
        have hb1 : Below wr.heap.size wr W1 := by rw [← hW1]; exact (Below.refl _ _).alloc (Nat.le_refl _) _
        have hB1 := Lib.hid (HBr.out.trans (hb1.mono HBr.out.size))
        have N1r := NR.out.below hb1
        have Kp := Lib.hid (fun (X : World) (hX : Below W1.heap.size W1 X) => show X.cell? ⟨b, 1, none⟩ = some (.slice (some ⟨g, o, none⟩) k1 c1) ∧ X.cell? ⟨g, o + i, none⟩ = some (.int .i64 (K : Int)) ∧ X.cell? ⟨pb, 0, none⟩ = some (.int .i64 (a : Int)) ∧ X.cell? ⟨pb, 1, none⟩ = some (.int .i64 (c : Int)) ∧ X.cell? ⟨pb, 2, none⟩ = some (.int .i64 (e : Int)) from by
          obtain ⟨y0, y1, y2, y3, y4⟩ := Cs.out X (hB1.out.trans (hX.mono hB1.out.size))
          have bp' := bp.keep (hX.block pb bp.lt)
          have NX := N1r.below hX
          obtain ⟨g', o', q, -, hc'⟩ := NX.row.ks.int (i := i) (by rw [← E1.out]; exact hik)
          injection q with q
          injection q with q q'
          subst q; subst q'
          rw [hK] at hc'
          exact ⟨y1, hc', bp'.cell 0, bp'.cell 1, bp'.cell 2⟩)
        have hrow : ∀ b', (Value.slice A5 m c5).ownBlock = some b' → W.heap.size ≤ b' ∧ b' < pb := fun b' h => by have := Own.out.lt b' h; rw [hpb] at this; exact this
        have Kq := Lib.hid (fun (X Y : World) (hX : Below W1.heap.size W1 X) (hY : X.grownBy Y (Value.slice A5 m c5).ownBlock) => show Y.cell? ⟨b, 1, none⟩ = some (.slice (some ⟨g, o, none⟩) k1 c1) ∧ Y.cell? ⟨g, o + i, none⟩ = some (.int .i64 (K : Int)) ∧ Y.cell? ⟨pb, 0, none⟩ = some (.int .i64 (a : Int)) ∧ Y.cell? ⟨pb, 1, none⟩ = some (.int .i64 (c : Int)) ∧ Y.cell? ⟨pb, 2, none⟩ = some (.int .i64 (e : Int)) from by
          have hs := Kp.out X hX
          have key : ∀ b' o' , b' < X.heap.size → (b' < W.heap.size ∨ b' = pb) → Y.cell? ⟨b', o', none⟩ = X.cell? ⟨b', o', none⟩ := fun b' o' h1 h2 => by
            have := hY.block b' h1 (fun e => by have := hrow b' e.symm; omega)
            unfold World.cell?
            rw [this]
          have hXs := Nat.le_trans hB1.out.size hX.size
          have hpX : pb < X.heap.size := Nat.lt_of_lt_of_le bp.lt hX.size
          refine ⟨(key b 1 (by omega) (.inl hbW)).trans hs.1, (key g _ (by omega) (.inl hgW)).trans hs.2.1, (key pb 0 hpX (.inr rfl)).trans hs.2.2.1, (key pb 1 hpX (.inr rfl)).trans hs.2.2.2.1, (key pb 2 hpX (.inr rfl)).trans hs.2.2.2.2⟩)
        have Ow1 := Lib.hid (own_keep Own.out (w' := W1) fun b' _ hlt => hb1.block b' hlt)
        have hbc := (Below.refl W1.heap.size W1).drew
        obtain ⟨gl, hgl⟩ : ∃ gl, W1.heap.size = gl := ⟨_, rfl⟩
        obtain ⟨Wb, hWb⟩ : ∃ Wb, W1.drew.alloc (.cells #[.int .i64 (K : Int), .int .i64 (a : Int), .int .i64 (c : Int), .int .i64 (e : Int)] 3) = Wb := ⟨_, rfl⟩
        have hbb : Below W1.heap.size W1 Wb := by rw [← hWb]; exact hbc.alloc hbc.size _
        have HBB := Lib.hid hbb
        have NP := HPut.out Wb (some ⟨gl, 0, none⟩) 4 [K, a, c, e] (by rw [← hWb, ← hgl]; exact nvs_row [K, a, c, e] W1.drew _ _ rfl _ (by simp)) (by simp) (by intro x hx; simp only [List.mem_cons, List.not_mem_nil, or_false] at hx; omega)
        have NP := Lib.hid NP
        rw [show ([K, a, c, e] : List Nat).length = 4 from rfl] at NP
        have hplen := putL_len (l := [K, a, c, e]) (by intro x hx; simp only [List.mem_cons, List.not_mem_nil, or_false] at hx; omega)
        rw [show ([K, a, c, e] : List Nat).length * 4 = 16 from rfl] at hplen
        have Nx := Lib.hid (show P0 ++ Nd.putL (Nd.entries n (i + 1)) = P ++ Nd.putL [K, a, c, e] by rw [Nd.entries_next, Nd.putL_app, hE, HP.out, List.append_assoc])
        obtain ⟨Q, hQ⟩ : ∃ Q, Q = Nd.putL [K, a, c, e] := ⟨_, rfl⟩
        rw [← hQ] at NP hplen Nx
        obtain ⟨kq, hkq⟩ : ∃ k, k = Q.length := ⟨_, rfl⟩
        have Hkq := Lib.hid hkq
        have NP := Lib.hid (NP.out.mono fun e w' h => show ∃ A' c', e = Ending.returned (.slice A' kq c') ∧ w'.ownsRow Wb.heap.size 5 1 (.slice A' kq c') kq (byts Q) ∧ Below Wb.heap.size Wb w' from by
          obtain ⟨A', c', h1, h2, h3⟩ := h
          exact ⟨A', c', by rw [hkq]; exact h1, by rw [hkq]; exact h2, h3⟩)
        rw [← hkq] at hplen
        have HB1s := hB1.out.size
        clear bp hb1 hbb hQ hkq hE N1r hK hP hl hrow e4 hnz
        clear hz
        go_upto_region 11 with fail
        go_region_held_law (fun X => X.cell? ⟨b, 1, none⟩ = some (.slice (some ⟨g, o, none⟩) k1 c1) ∧ X.cell? ⟨g, o + i, none⟩ = some (.int .i64 (K : Int)) ∧ X.cell? ⟨pb, 0, none⟩ = some (.int .i64 (a : Int)) ∧ X.cell? ⟨pb, 1, none⟩ = some (.int .i64 (c : Int)) ∧ X.cell? ⟨pb, 2, none⟩ = some (.int .i64 (e : Int))) (first | exact Kp.out _ hbc | exact Kp.out _ HBB.out | exact Kp.out _ (Below.refl _ _).drew | exact Kq.out _ _ hbc hgr) (first
          | (go_at_call 62; ((with_reducible refine NP.out.mono ?_); rintro e4 w4 ⟨A6, c6, rfl, o4, hb4⟩; have hbc := HBB.out.trans (hb4.mono HBB.out.size); have O4 := Lib.hid o4; have S4 := Lib.hid (Sl.of_own o4); have hA6 := own_none o4; have hc6 := own_len o4; have Ow4 := Lib.hid (own_keep Ow1.out fun b' _ hlt => hbc.block b' hlt); have hB4 := Nat.le_trans HB1s hbc.size; clear o4 hb4))
          | (refine step_append_sl (base := W.heap.size) _ rfl (.tmp 58) (.tmp 71) _ rfl Try.underlying24 hi0 hz0 hs0 hb0 rfl (v := .slice A5 m c5) rfl Ow4.out rfl (m := kq) (news := byts Q) (by rw [byts_len', Hkq.out]) hA6 S4.out (byts_one' _) (by rw [byts_len', ← Hkq.out]; exact hc6) (by rw [byts_len', ← Hkq.out]; unfold maxLen; omega) (by rw [byts_len', ← Hkq.out]; omega) hB4 ?_; intro v5 w5 h1 hgr _; rw [byts_len', ← Hkq.out] at h1; obtain ⟨A7, c7, rfl⟩ := own_slice h1; have K5 := Lib.hid h1; clear h1))
        all_goals
          have B5 := Lib.hid ((hB1.out.trans (hbc.mono HB1s)).grown hgr hB4 (fun gq hgq => (Ow4.out.lt gq hgq).1))
          clear hgr
          go_wp2_with fail
          go_roundw
          case rel =>
            refine ⟨i + 1, _, rfl, by go_num, by omega, ?_, B5.out⟩
            rw [Nx.out]
            unfold OY
            rw [List.length_append, byts_app', ← Hm.out, ← Hkq.out]
            exact K5.out
          case measure => simp [intOf]; omega
    · have hik' : i = k1 := by omega
      have hRP : R = P := by rw [HR.out, HP.out, hik']
      have z0 : decide ((i : Int) < (k1 : Int)) = false := by rw [decide_eq_false_iff_not]; omega
      have z0' : decide (i < k1) = false := by rw [decide_eq_false_iff_not]; exact hik
      have Fin := Lib.hid (show ∃ A c, Ending.returned (.tuple #[.slice A5 m c5, .int .i64 0]) = Ending.returned (.tuple #[.slice A R.length c, .int .i64 0]) ∧ OY wr b (.slice A R.length c) R ∧ Below b w wr from ⟨A5, c5, by rw [hRP, ← Hm.out], by rw [hRP]; unfold OY; rw [← Hm.out]; exact World.ownsRow_base Own.out HBs.out, HB.out.trans (HBr.out.mono HBs.out)⟩)
      clear hik' hRP
      go_wp2_with fail
      go_returns
      exact Fin.out
end
end Go.Proofs.Ytdfelkkibolheaa
