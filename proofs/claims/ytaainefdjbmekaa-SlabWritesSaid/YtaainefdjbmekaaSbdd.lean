/- The program's leaves, inner nodes, May. -/
import Derived.Test.YtaainefdjbmekaaSbdc
namespace Go.Proofs.Ytaainefdjbmekaa
open Go.RowKit
def LeafOk (n : Nd.N) : Prop := n.ps.length = n.ks.length ∧ n.gs.length = n.ks.length ∧ n.cs.length = 0 ∧ ∀ i, i < n.ks.length → Nd.PlaceOk (Nd.t3 n.ps i) (Nd.at_ n.gs i)
def InnerOk (n : Nd.N) : Prop := n.ks.length ≠ 0 ∧ n.cs.length = n.ks.length ∧ n.ps.length = 0 ∧ n.gs.length = 0 ∧ ∀ i, i < n.ks.length → Nd.KidOk (Nd.t3 n.cs i)
theorem ok_iff {n : Nd.N} (h0 : 0 ≤ n.h ∧ n.h < 6) (h1 : n.ks.length ≤ 8) (h2 : Nd.KeysOk n.ks n.ks.length) : Nd.Ok n ↔ if n.h = 0 then LeafOk n else InnerOk n := by
  constructor
  · intro o
    by_cases hz : n.h = 0
    · rw [if_pos hz]
      obtain ⟨a, b, c, d⟩ := o.leaf hz
      exact ⟨a, b, by rw [c]; rfl, d⟩
    · rw [if_neg hz]
      obtain ⟨a, b, c, d, e⟩ := o.inner hz
      exact ⟨by omega, a, by rw [c]; rfl, by rw [d]; rfl, e⟩
  · intro o
    refine ⟨h0.1, h0.2, h1, h2.1, h2.2, fun hz => ?_, fun hz => ?_⟩
    · rw [if_pos hz] at o
      exact ⟨o.1, o.2.1, List.eq_nil_of_length_eq_zero o.2.2.1, o.2.2.2⟩
    · rw [if_neg hz] at o
      exact ⟨o.2.1, by have := o.1; omega, List.eq_nil_of_length_eq_zero o.2.2.1, List.eq_nil_of_length_eq_zero o.2.2.2.1, o.2.2.2.2⟩
section
variable {w W : World} {b : Nat} {n : Nd.N} {A1 A2 A3 A4 : Option Addr} {c1 c2 c3 c4 : Nat} {R : Bool}
/-- A node of the program's in its block, at every later world. -/
structure NdP (W : World) (b : Nat) (n : Nd.N) (A1 : Option Addr) (c1 : Nat) (A2 : Option Addr) (c2 : Nat) (A3 : Option Addr) (c3 : Nat) (A4 : Option Addr) (c4 : Nat) : Prop where
  blk : Blk W b 62 #[.int .i64 n.h, .slice A1 n.ks.length c1, .slice A2 n.ps.length c2, .slice A3 n.gs.length c3, .slice A4 n.cs.length c4]
  row : NdF W W.heap.size n A1 c1 A2 c2 A3 c3 A4 c4
theorem NdP.below {W' : World} (h : NdP W b n A1 c1 A2 c2 A3 c3 A4 c4) (hb : Below W.heap.size W W') : NdP W' b n A1 c1 A2 c2 A3 c3 A4 c4 := ⟨h.blk.keep (hb.block b h.blk.lt), (h.row.below hb).more hb.size⟩
theorem ndp_boxed (hf : NdF w w.heap.size n A1 c1 A2 c2 A3 c3 A4 c4) (hW : w.alloc (.cells #[.int .i64 n.h, .slice A1 n.ks.length c1, .slice A2 n.ps.length c2, .slice A3 n.gs.length c3, .slice A4 n.cs.length c4] 62) = W) :
    NdP W w.heap.size n A1 c1 A2 c2 A3 c3 A4 c4 ∧ Below w.heap.size w W := by
  obtain ⟨bx, hb⟩ := nd_box hW
  exact ⟨⟨bx, (hf.below hb).more hb.size⟩, hb⟩
end
set_option maxHeartbeats 4000000 in
theorem isleaf_any {w : World} {v : Value} {n : Nd.N} {B : Nat} (h : NdAt w B v n) (R : Bool) (hR : decide (n.h = 0) = R) : Calls Try.prog 60 #[v] w fun e w' => e = .returned (.bool R) ∧ Below w.heap.size w w' := by
  obtain ⟨A1, c1, A2, c2, A3, c3, A4, c4, rfl, hf⟩ := h
  obtain ⟨W, hW⟩ : ∃ W, w.alloc (.cells #[.int .i64 n.h, .slice A1 n.ks.length c1, .slice A2 n.ps.length c2, .slice A3 n.gs.length c3, .slice A4 n.cs.length c4] 62) = W := ⟨_, rfl⟩
  obtain ⟨bx, hbl⟩ := nd_box hW
  have HB := Lib.hid hbl
  obtain ⟨b, hb⟩ : ∃ b, w.heap.size = b := ⟨_, rfl⟩
  rw [hb] at bx HB ⊢
  generalize n.ks.length = k1 at *
  generalize n.ps.length = k2 at *
  generalize n.gs.length = k3 at *
  generalize n.cs.length = k4 at *
  generalize n.h = k0 at *
  have x0 : W.cell? ⟨b, 0, none⟩ = some (.int .i64 k0) := bx.cell 0
  have z0 : (k0 == 0) = R := by rw [← hR]; rfl
  clear bx hbl hf hR
  go_enter Try.func60, Try.ntmps60
  go_wp2_with fail
  go_ret
  exact ⟨rfl, HB.out⟩
set_option maxRecDepth 8000 in
set_option maxHeartbeats 16000000 in
theorem mayleaf_any {w : World} {v : Value} {n : Nd.N} (h : NdAt w w.heap.size v n) (hl : n.ks.length ≤ 1000) (R : Bool) (hT : R = true ↔ LeafOk n) : Calls Try.prog 85 #[v] w fun e w' => e = .returned (.bool R) ∧ Below w.heap.size w w' := by
  obtain ⟨A1, c1, A2, c2, A3, c3, A4, c4, rfl, hf⟩ := h
  obtain ⟨W, hW⟩ : ∃ W, w.alloc (.cells #[.int .i64 n.h, .slice A1 n.ks.length c1, .slice A2 n.ps.length c2, .slice A3 n.gs.length c3, .slice A4 n.cs.length c4] 62) = W := ⟨_, rfl⟩
  obtain ⟨hN, hbl⟩ := ndp_boxed hf hW
  have HN := Lib.hid hN
  have HB := Lib.hid hbl
  have HT := Lib.hid hT
  have no : Hid (¬ LeafOk n → R = false) := Lib.hid fun h => by
    cases hR : R with
    | false => rfl
    | true => exact absurd (hT.1 hR) h
  obtain ⟨k1, e1⟩ : ∃ k, k = n.ks.length := ⟨_, rfl⟩
  obtain ⟨k2, e2⟩ : ∃ k, k = n.ps.length := ⟨_, rfl⟩
  obtain ⟨k3, e3⟩ : ∃ k, k = n.gs.length := ⟨_, rfl⟩
  obtain ⟨k4, e4⟩ : ∃ k, k = n.cs.length := ⟨_, rfl⟩
  obtain ⟨k0, e0⟩ : ∃ k, k = n.h := ⟨_, rfl⟩
  have E1 := Lib.hid e1
  have E2 := Lib.hid e2
  have E3 := Lib.hid e3
  have E4 := Lib.hid e4
  have E0 := Lib.hid e0
  obtain ⟨b, hb⟩ : ∃ b, w.heap.size = b := ⟨_, rfl⟩
  have Cs := Lib.hid (fun (W' : World) (hbw : Below W.heap.size W W') => show W'.cell? ⟨b, 0, none⟩ = some (.int .i64 k0) ∧ W'.cell? ⟨b, 1, none⟩ = some (.slice A1 k1 c1) ∧ W'.cell? ⟨b, 2, none⟩ = some (.slice A2 k2 c2) ∧ W'.cell? ⟨b, 3, none⟩ = some (.slice A3 k3 c3) ∧ W'.cell? ⟨b, 4, none⟩ = some (.slice A4 k4 c4) from by
    have := (hN.below hbw).blk
    rw [hb, ← e0, ← e1, ← e2, ← e3, ← e4] at this
    exact ⟨this.cell 0, this.cell 1, this.cell 2, this.cell 3, this.cell 4⟩)
  have HBs := Lib.hid (show b ≤ W.heap.size by rw [← hb]; exact hbl.size)
  rw [← e1, ← e2, ← e3, ← e4, ← e0] at hW ⊢
  rw [← e1] at hl
  rw [hb] at HB ⊢
  obtain ⟨x0, x1, x2, x3, x4⟩ := Cs.out W (Below.refl _ _)
  clear hN hbl hT hf e1 e2 e3 e4 e0
  by_cases ha : k2 = k1
  case neg =>
    have q1 : ((k2 : Int) != (k1 : Int)) = true := by rw [bne_iff_ne]; omega
    have F := no.out fun o => by have := o.1; rw [← E2.out, ← E1.out] at this; exact ha this
    clear ha
    go_enter Try.func85, Try.ntmps85
    go_wp2_with fail
    go_ret
    exact ⟨by rw [F]; rfl, HB.out⟩
  have q1 : ((k2 : Int) != (k1 : Int)) = false := by rw [ha]; simp
  by_cases hb' : k3 = k1
  case neg =>
    have q2 : ((k3 : Int) != (k1 : Int)) = true := by rw [bne_iff_ne]; omega
    have F := no.out fun o => by have := o.2.1; rw [← E3.out, ← E1.out] at this; exact hb' this
    clear ha hb'
    go_enter Try.func85, Try.ntmps85
    go_wp2_with fail
    go_ret
    exact ⟨by rw [F]; rfl, HB.out⟩
  have q2 : ((k3 : Int) != (k1 : Int)) = false := by rw [hb']; simp
  by_cases hc' : k4 = 0
  case neg =>
    have q3 : decide ((0 : Int) < (k4 : Int)) = true := by rw [decide_eq_true_eq]; omega
    have q3' : decide (0 < k4) = true := by rw [decide_eq_true_eq]; omega
    have F := no.out fun o => by have := o.2.2.1; rw [← E4.out] at this; exact hc' this
    clear ha hb' hc'
    go_enter Try.func85, Try.ntmps85
    go_wp2_with fail
    go_ret
    exact ⟨by rw [F]; rfl, HB.out⟩
  have q3 : decide ((0 : Int) < (k4 : Int)) = false := by rw [decide_eq_false_iff_not]; omega
  have q3' : decide (0 < k4) = false := by rw [decide_eq_false_iff_not]; omega
  have hk2l : k2 ≤ 1000 := by omega
  have Ha := Lib.hid ha
  have Hb := Lib.hid hb'
  have Hc := Lib.hid hc'
  clear ha hb' hc'
  go_enter Try.func85, Try.ntmps85
  go_wp2_with fail
  clear x0 x1 x2 x3 x4
  go_loopw [3, 4, 30] (fun _ _ v wr => ∃ j : Nat, v = .int .i64 (j : Int) ∧ j ≤ k2 ∧ Below W.heap.size W wr ∧ ∀ t, t < j → Nd.PlaceOk (Nd.t3 n.ps t) (Nd.at_ n.gs t)) (fun _ _ v _ => k2 - (intOf v).toNat)
  case atStart => exact ⟨0, rfl, Nat.zero_le _, Below.refl _ _, fun j hj => absurd hj (Nat.not_lt_zero _)⟩
  case round =>
    obtain ⟨j, rfl, hj, hbw, hP⟩ := hrel
    have HP := Lib.hid hP
    have Hbw := Lib.hid hbw
    have NW := Lib.hid (HN.out.below hbw)
    obtain ⟨x0, x1, x2, x3, x4⟩ := Cs.out wr hbw
    have HBr := Lib.hid (show Below b w wr from HB.out.trans (hbw.mono HBs.out))
    have HBz := Lib.hid (Nat.le_trans HBs.out hbw.size)
    clear hP hbw
    by_cases hji : j < k2
    · have z7 : decide ((j : Int) < (k2 : Int)) = true := by rw [decide_eq_true_eq]; omega
      have z7' : decide (j < k2) = true := by rw [decide_eq_true_eq]; exact hji
      have hk2 : (j : Int) < (k2 : Int) := by omega
      have hk3 : (j : Int) < (k3 : Int) := by rw [Hb.out, ← Ha.out]; omega
      obtain ⟨g, o, rfl, hgl, hp1, hp2, hp3⟩ := NW.out.row.ps.three (i := j) (by rw [← E2.out]; exact hji)
      obtain ⟨g2, o2, rfl, hg2, hg⟩ := NW.out.row.gs.int (i := j) (by rw [← E3.out, Hb.out, ← Ha.out]; exact hji)
      obtain ⟨p, hp⟩ : ∃ p, p = Nd.t3 n.ps j := ⟨_, rfl⟩
      obtain ⟨x, hx⟩ : ∃ x, x = Nd.at_ n.gs j := ⟨_, rfl⟩
      have Hp := Lib.hid hp
      have Hx := Lib.hid hx
      rw [← hp] at hp1 hp2 hp3
      rw [← hx] at hg
      clear hp hx
      obtain ⟨p1, p2, p3⟩ := p
      dsimp only at hp1 hp2 hp3
      have hgw : wr.cell? ⟨g2, o2 + j, none⟩ = some (.int .i64 x) := hg
      obtain ⟨W1, hW1⟩ : ∃ W1, wr.alloc (.cells #[.int .i64 p1, .int .i64 p2, .int .i64 p3] 51) = W1 := ⟨_, rfl⟩
      have hb1 : Below wr.heap.size wr W1 := by rw [← hW1]; exact (Below.refl _ _).alloc (Nat.le_refl _) _
      have BR := Lib.hid (show Below b w W1 from HBr.out.trans (hb1.mono HBz.out))
      have BW := Lib.hid (show Below W.heap.size W W1 from Hbw.out.trans (hb1.mono Hbw.out.size))
      have bp : Blk W1 wr.heap.size 51 #[.int .i64 p1, .int .i64 p2, .int .i64 p3] := by rw [← hW1]; exact Blk.new _ _ _
      obtain ⟨pb, hpb⟩ : ∃ pb, wr.heap.size = pb := ⟨_, rfl⟩
      rw [hpb] at bp
      have y0 : W1.cell? ⟨pb, 0, none⟩ = some (.int .i64 p1) := bp.cell 0
      have y1 : W1.cell? ⟨pb, 1, none⟩ = some (.int .i64 p2) := bp.cell 1
      have y2 : W1.cell? ⟨pb, 2, none⟩ = some (.int .i64 p3) := bp.cell 2
      obtain ⟨-, -, -, y3, -⟩ := Cs.out W1 BW.out
      have y4 : W1.cell? ⟨g2, o2 + j, none⟩ = some (.int .i64 x) := by rw [← hW1, World.cell?_alloc_lt _ _ _ (World.block_lt_of_cell? _ _ hg)]; exact hg
      clear hg hgw bp hb1
      have bad : Hid (¬ Nd.PlaceOk (p1, p2, p3) x → R = false) := Lib.hid fun h => no.out fun o => by
        have := o.2.2.2 j (by rw [← E1.out, ← Ha.out]; exact hji)
        rw [← Hp.out, ← Hx.out] at this
        exact h this
      by_cases hr : Nd.RunOk p1 p2
      case neg =>
        have NR := Lib.hid (isrun_is p1 p2 false (decide_eq_false hr) W1)
        have F := bad.out fun h => hr h.1
        clear hr bad
        go_wp2_with (first | (go_at_call 99; (with_reducible refine NR.out.mono ?_); rintro e w2 ⟨rfl, h2⟩; subst h2))
        go_ret
        exact ⟨by rw [F]; rfl, BR.out⟩
      have NR := Lib.hid (isrun_is p1 p2 true (decide_eq_true hr) W1)
      by_cases hs : 0 ≤ p3 ∧ p3 < 8
      case neg =>
        have NS := Lib.hid (below_is p3 8 false (decide_eq_false hs) W1)
        have F := bad.out fun h => hs ⟨h.2.1, h.2.2.1⟩
        clear hr hs bad
        go_wp2_with (first | (go_at_call 99; (with_reducible refine NR.out.mono ?_); rintro e w2 ⟨rfl, h2⟩; subst h2) | (go_at_call 83; (with_reducible refine NS.out.mono ?_); rintro e w2 ⟨rfl, h2⟩; subst h2))
        go_ret
        exact ⟨by rw [F]; rfl, BR.out⟩
      have NS := Lib.hid (below_is p3 8 true (decide_eq_true hs) W1)
      by_cases hg : Nd.GenOk x
      case neg =>
        have NG := Lib.hid (below_is x 268435456 false (decide_eq_false hg) W1)
        have F := bad.out fun h => hg h.2.2.2
        clear hr hs hg bad
        go_wp2_with (first | (go_at_call 99; (with_reducible refine NR.out.mono ?_); rintro e w2 ⟨rfl, h2⟩; subst h2) | (go_at_call 83; (with_reducible refine NS.out.mono ?_); rintro e w2 ⟨rfl, h2⟩; subst h2) | (go_at_call 83; (with_reducible refine NG.out.mono ?_); rintro e w2 ⟨rfl, h2⟩; subst h2))
        go_ret
        exact ⟨by rw [F]; rfl, BR.out⟩
      have NG := Lib.hid (below_is x 268435456 true (decide_eq_true hg) W1)
      have Nx := Lib.hid (show ∀ t, t < j + 1 → Nd.PlaceOk (Nd.t3 n.ps t) (Nd.at_ n.gs t) from fun t ht => by
        rcases Nat.lt_or_ge t j with c | c
        · exact HP.out t c
        · rw [show t = j by omega, ← Hp.out, ← Hx.out]; exact ⟨hr, hs.1, hs.2, hg⟩)
      clear hr hs hg bad
      go_wp2_with (first | (go_at_call 99; (with_reducible refine NR.out.mono ?_); rintro e w2 ⟨rfl, h2⟩; subst h2) | (go_at_call 83; (with_reducible refine NS.out.mono ?_); rintro e w2 ⟨rfl, h2⟩; subst h2) | (go_at_call 83; (with_reducible refine NG.out.mono ?_); rintro e w2 ⟨rfl, h2⟩; subst h2))
      go_roundw
      case rel => exact ⟨j + 1, by go_num, by omega, BW.out, Nx.out⟩
      case measure => simp [intOf]; omega
    · have z7 : decide ((j : Int) < (k2 : Int)) = false := by rw [decide_eq_false_iff_not]; omega
      have z7' : decide (j < k2) = false := by rw [decide_eq_false_iff_not]; exact hji
      have hjk : j = k2 := by omega
      have F : R = true := HT.out.2 ⟨by rw [← E2.out, Ha.out, E1.out], by rw [← E3.out, Hb.out, E1.out], by rw [← E4.out]; exact Hc.out, by rw [← E1.out, ← Ha.out, ← hjk]; exact HP.out⟩
      clear hjk
      go_wp2_with fail
      go_ret
      exact ⟨by rw [F]; rfl, HBr.out⟩
set_option maxRecDepth 8000 in
set_option maxHeartbeats 16000000 in
theorem mayinner_any {w : World} {v : Value} {n : Nd.N} (h : NdAt w w.heap.size v n) (hl : n.ks.length ≤ 1000) (R : Bool) (hT : R = true ↔ InnerOk n) : Calls Try.prog 86 #[v] w fun e w' => e = .returned (.bool R) ∧ Below w.heap.size w w' := by
  obtain ⟨A1, c1, A2, c2, A3, c3, A4, c4, rfl, hf⟩ := h
  obtain ⟨W, hW⟩ : ∃ W, w.alloc (.cells #[.int .i64 n.h, .slice A1 n.ks.length c1, .slice A2 n.ps.length c2, .slice A3 n.gs.length c3, .slice A4 n.cs.length c4] 62) = W := ⟨_, rfl⟩
  obtain ⟨hN, hbl⟩ := ndp_boxed hf hW
  have HN := Lib.hid hN
  have HB := Lib.hid hbl
  have HT := Lib.hid hT
  have no : Hid (¬ InnerOk n → R = false) := Lib.hid fun h => by
    cases hR : R with
    | false => rfl
    | true => exact absurd (hT.1 hR) h
  obtain ⟨k1, e1⟩ : ∃ k, k = n.ks.length := ⟨_, rfl⟩
  obtain ⟨k2, e2⟩ : ∃ k, k = n.ps.length := ⟨_, rfl⟩
  obtain ⟨k3, e3⟩ : ∃ k, k = n.gs.length := ⟨_, rfl⟩
  obtain ⟨k4, e4⟩ : ∃ k, k = n.cs.length := ⟨_, rfl⟩
  obtain ⟨k0, e0⟩ : ∃ k, k = n.h := ⟨_, rfl⟩
  have E1 := Lib.hid e1
  have E2 := Lib.hid e2
  have E3 := Lib.hid e3
  have E4 := Lib.hid e4
  have E0 := Lib.hid e0
  obtain ⟨b, hb⟩ : ∃ b, w.heap.size = b := ⟨_, rfl⟩
  have Cs := Lib.hid (fun (W' : World) (hbw : Below W.heap.size W W') => show W'.cell? ⟨b, 0, none⟩ = some (.int .i64 k0) ∧ W'.cell? ⟨b, 1, none⟩ = some (.slice A1 k1 c1) ∧ W'.cell? ⟨b, 2, none⟩ = some (.slice A2 k2 c2) ∧ W'.cell? ⟨b, 3, none⟩ = some (.slice A3 k3 c3) ∧ W'.cell? ⟨b, 4, none⟩ = some (.slice A4 k4 c4) from by
    have := (hN.below hbw).blk
    rw [hb, ← e0, ← e1, ← e2, ← e3, ← e4] at this
    exact ⟨this.cell 0, this.cell 1, this.cell 2, this.cell 3, this.cell 4⟩)
  have HBs := Lib.hid (show b ≤ W.heap.size by rw [← hb]; exact hbl.size)
  rw [← e1, ← e2, ← e3, ← e4, ← e0] at hW ⊢
  rw [← e1] at hl
  rw [hb] at HB ⊢
  obtain ⟨x0, x1, x2, x3, x4⟩ := Cs.out W (Below.refl _ _)
  clear hN hbl hT hf e1 e2 e3 e4 e0
  by_cases hz : k1 = 0
  · have q0 : ((k1 : Int) == 0) = true := by rw [beq_iff_eq]; omega
    have F := no.out fun o => by have := o.1; rw [← E1.out] at this; exact this hz
    clear hz
    go_enter Try.func86, Try.ntmps86
    go_wp2_with fail
    go_ret
    exact ⟨by rw [F]; rfl, HB.out⟩
  have q0 : ((k1 : Int) == 0) = false := by rw [beq_eq_false_iff_ne]; omega
  by_cases ha : k4 = k1
  case neg =>
    have q1 : ((k4 : Int) != (k1 : Int)) = true := by rw [bne_iff_ne]; omega
    have F := no.out fun o => by have := o.2.1; rw [← E4.out, ← E1.out] at this; exact ha this
    clear hz ha
    go_enter Try.func86, Try.ntmps86
    go_wp2_with fail
    go_ret
    exact ⟨by rw [F]; rfl, HB.out⟩
  have q1 : ((k4 : Int) != (k1 : Int)) = false := by rw [ha]; simp
  by_cases hb' : k2 = 0
  case neg =>
    have q2 : decide ((0 : Int) < (k2 : Int)) = true := by rw [decide_eq_true_eq]; omega
    have q2' : decide (0 < k2) = true := by rw [decide_eq_true_eq]; omega
    have F := no.out fun o => by have := o.2.2.1; rw [← E2.out] at this; exact hb' this
    clear hz ha hb'
    go_enter Try.func86, Try.ntmps86
    go_wp2_with fail
    go_ret
    exact ⟨by rw [F]; rfl, HB.out⟩
  have q2 : decide ((0 : Int) < (k2 : Int)) = false := by rw [decide_eq_false_iff_not]; omega
  have q2' : decide (0 < k2) = false := by rw [decide_eq_false_iff_not]; omega
  by_cases hc' : k3 = 0
  case neg =>
    have q3 : decide ((0 : Int) < (k3 : Int)) = true := by rw [decide_eq_true_eq]; omega
    have q3' : decide (0 < k3) = true := by rw [decide_eq_true_eq]; omega
    have F := no.out fun o => by have := o.2.2.2.1; rw [← E3.out] at this; exact hc' this
    clear hz ha hb' hc'
    go_enter Try.func86, Try.ntmps86
    go_wp2_with fail
    go_ret
    exact ⟨by rw [F]; rfl, HB.out⟩
  have q3 : decide ((0 : Int) < (k3 : Int)) = false := by rw [decide_eq_false_iff_not]; omega
  have q3' : decide (0 < k3) = false := by rw [decide_eq_false_iff_not]; omega
  have hk4l : k4 ≤ 1000 := by omega
  have Hz := Lib.hid hz
  have Ha := Lib.hid ha
  have Hb := Lib.hid hb'
  have Hc := Lib.hid hc'
  clear hz ha hb' hc'
  go_enter Try.func86, Try.ntmps86
  go_wp2_with fail
  clear x0 x1 x2 x3 x4
  go_loopw [4, 33] (fun _ v wr => ∃ j : Nat, v = .int .i64 (j : Int) ∧ j ≤ k4 ∧ Below W.heap.size W wr ∧ ∀ t, t < j → Nd.KidOk (Nd.t3 n.cs t)) (fun _ v _ => k4 - (intOf v).toNat)
  case atStart => exact ⟨0, rfl, Nat.zero_le _, Below.refl _ _, fun j hj => absurd hj (Nat.not_lt_zero _)⟩
  case round =>
    obtain ⟨j, rfl, hj, hbw, hP⟩ := hrel
    have HP := Lib.hid hP
    have Hbw := Lib.hid hbw
    have NW := Lib.hid (HN.out.below hbw)
    have HBr := Lib.hid (show Below b w wr from HB.out.trans (hbw.mono HBs.out))
    have HBz := Lib.hid (Nat.le_trans HBs.out hbw.size)
    clear hP hbw
    by_cases hji : j < k4
    · have z7 : decide ((j : Int) < (k4 : Int)) = true := by rw [decide_eq_true_eq]; omega
      have z7' : decide (j < k4) = true := by rw [decide_eq_true_eq]; exact hji
      have hk4 : (j : Int) < (k4 : Int) := by omega
      obtain ⟨g, o, rfl, hgl, hp1, hp2, hp3⟩ := NW.out.row.cs.three (i := j) (by rw [← E4.out]; exact hji)
      obtain ⟨p, hp⟩ : ∃ p, p = Nd.t3 n.cs j := ⟨_, rfl⟩
      have Hp := Lib.hid hp
      rw [← hp] at hp1 hp2 hp3
      clear hp
      obtain ⟨p1, p2, p3⟩ := p
      dsimp only at hp1 hp2 hp3
      obtain ⟨W1, hW1⟩ : ∃ W1, wr.alloc (.cells #[.int .i64 p1, .int .i64 p2, .int .i64 p3] 57) = W1 := ⟨_, rfl⟩
      have hb1 : Below wr.heap.size wr W1 := by rw [← hW1]; exact (Below.refl _ _).alloc (Nat.le_refl _) _
      have BR := Lib.hid (show Below b w W1 from HBr.out.trans (hb1.mono HBz.out))
      have BW := Lib.hid (show Below W.heap.size W W1 from Hbw.out.trans (hb1.mono Hbw.out.size))
      have bp : Blk W1 wr.heap.size 57 #[.int .i64 p1, .int .i64 p2, .int .i64 p3] := by rw [← hW1]; exact Blk.new _ _ _
      obtain ⟨pb, hpb⟩ : ∃ pb, wr.heap.size = pb := ⟨_, rfl⟩
      rw [hpb] at bp
      have y0 : W1.cell? ⟨pb, 0, none⟩ = some (.int .i64 p1) := bp.cell 0
      have y1 : W1.cell? ⟨pb, 1, none⟩ = some (.int .i64 p2) := bp.cell 1
      have y2 : W1.cell? ⟨pb, 2, none⟩ = some (.int .i64 p3) := bp.cell 2
      clear bp hb1
      have bad : Hid (¬ Nd.KidOk (p1, p2, p3) → R = false) := Lib.hid fun h => no.out fun o => by
        have := o.2.2.2.2 j (by rw [← E1.out, ← Ha.out]; exact hji)
        rw [← Hp.out] at this
        exact h this
      by_cases hr : Nd.RunOk p1 p2
      case neg =>
        have NR := Lib.hid (isrun_is p1 p2 false (decide_eq_false hr) W1)
        have F := bad.out fun h => hr h.1
        clear hr bad
        go_wp2_with (first | (go_at_call 99; (with_reducible refine NR.out.mono ?_); rintro e w2 ⟨rfl, h2⟩; subst h2))
        go_ret
        exact ⟨by rw [F]; rfl, BR.out⟩
      have NR := Lib.hid (isrun_is p1 p2 true (decide_eq_true hr) W1)
      by_cases hg : Nd.GenOk p3
      case neg =>
        have NG := Lib.hid (below_is p3 268435456 false (decide_eq_false hg) W1)
        have F := bad.out fun h => hg h.2
        clear hr hg bad
        go_wp2_with (first | (go_at_call 99; (with_reducible refine NR.out.mono ?_); rintro e w2 ⟨rfl, h2⟩; subst h2) | (go_at_call 83; (with_reducible refine NG.out.mono ?_); rintro e w2 ⟨rfl, h2⟩; subst h2))
        go_ret
        exact ⟨by rw [F]; rfl, BR.out⟩
      have NG := Lib.hid (below_is p3 268435456 true (decide_eq_true hg) W1)
      have Nx := Lib.hid (show ∀ t, t < j + 1 → Nd.KidOk (Nd.t3 n.cs t) from fun t ht => by
        rcases Nat.lt_or_ge t j with c | c
        · exact HP.out t c
        · rw [show t = j by omega, ← Hp.out]; exact ⟨hr, hg⟩)
      clear hr hg bad
      go_wp2_with (first | (go_at_call 99; (with_reducible refine NR.out.mono ?_); rintro e w2 ⟨rfl, h2⟩; subst h2) | (go_at_call 83; (with_reducible refine NG.out.mono ?_); rintro e w2 ⟨rfl, h2⟩; subst h2))
      go_roundw
      case rel => exact ⟨j + 1, by go_num, by omega, BW.out, Nx.out⟩
      case measure => simp [intOf]; omega
    · have z7 : decide ((j : Int) < (k4 : Int)) = false := by rw [decide_eq_false_iff_not]; omega
      have z7' : decide (j < k4) = false := by rw [decide_eq_false_iff_not]; exact hji
      have hjk : j = k4 := by omega
      have F : R = true := HT.out.2 ⟨by rw [← E1.out]; exact Hz.out, by rw [← E4.out, Ha.out, E1.out], by rw [← E2.out]; exact Hb.out, by rw [← E3.out]; exact Hc.out, by rw [← E1.out, ← Ha.out, ← hjk]; exact HP.out⟩
      clear hjk
      go_wp2_with fail
      go_ret
      exact ⟨by rw [F]; rfl, HBr.out⟩
set_option maxRecDepth 8000 in
set_option maxHeartbeats 16000000 in
theorem may_any {w : World} {v : Value} {n : Nd.N} (h : NdAt w w.heap.size v n) (R : Bool) (hT : R = true ↔ Nd.Ok n) : Calls Try.prog 58 #[v] w fun e w' => e = .returned (.bool R) ∧ Below w.heap.size w w' := by
  obtain ⟨A1, c1, A2, c2, A3, c3, A4, c4, rfl, hf⟩ := h
  obtain ⟨W, hW⟩ : ∃ W, w.alloc (.cells #[.int .i64 n.h, .slice A1 n.ks.length c1, .slice A2 n.ps.length c2, .slice A3 n.gs.length c3, .slice A4 n.cs.length c4] 62) = W := ⟨_, rfl⟩
  obtain ⟨hN, hbl⟩ := ndp_boxed hf hW
  have HN := Lib.hid hN
  have HB := Lib.hid hbl
  have HT := Lib.hid hT
  have no : Hid (¬ Nd.Ok n → R = false) := Lib.hid fun h => by
    cases hR : R with
    | false => rfl
    | true => exact absurd (hT.1 hR) h
  obtain ⟨k1, e1⟩ : ∃ k, k = n.ks.length := ⟨_, rfl⟩
  obtain ⟨k2, e2⟩ : ∃ k, k = n.ps.length := ⟨_, rfl⟩
  obtain ⟨k3, e3⟩ : ∃ k, k = n.gs.length := ⟨_, rfl⟩
  obtain ⟨k4, e4⟩ : ∃ k, k = n.cs.length := ⟨_, rfl⟩
  obtain ⟨k0, e0⟩ : ∃ k, k = n.h := ⟨_, rfl⟩
  have E1 := Lib.hid e1
  have E2 := Lib.hid e2
  have E3 := Lib.hid e3
  have E4 := Lib.hid e4
  have E0 := Lib.hid e0
  obtain ⟨b, hb⟩ : ∃ b, w.heap.size = b := ⟨_, rfl⟩
  have Cs := Lib.hid (fun (W' : World) (hbw : Below W.heap.size W W') => show W'.cell? ⟨b, 0, none⟩ = some (.int .i64 k0) ∧ W'.cell? ⟨b, 1, none⟩ = some (.slice A1 k1 c1) ∧ W'.cell? ⟨b, 2, none⟩ = some (.slice A2 k2 c2) ∧ W'.cell? ⟨b, 3, none⟩ = some (.slice A3 k3 c3) ∧ W'.cell? ⟨b, 4, none⟩ = some (.slice A4 k4 c4) from by
    have := (hN.below hbw).blk
    rw [hb, ← e0, ← e1, ← e2, ← e3, ← e4] at this
    exact ⟨this.cell 0, this.cell 1, this.cell 2, this.cell 3, this.cell 4⟩)
  have HBs := Lib.hid (show b ≤ W.heap.size by rw [← hb]; exact hbl.size)
  rw [← e1, ← e2, ← e3, ← e4, ← e0] at hW ⊢
  rw [hb] at HB ⊢
  obtain ⟨x0, x1, x2, x3, x4⟩ := Cs.out W (Below.refl _ _)
  clear hN hbl hT hf e1 e2 e3 e4 e0
  have N0 := Lib.hid (below_any k0 6 W)
  by_cases h06 : 0 ≤ k0 ∧ k0 < 6
  case neg =>
    rw [decide_eq_false h06] at N0
    have F := no.out fun o => h06 ⟨by have := o.h0; rw [← E0.out] at this; exact this, by have := o.h6; rw [← E0.out] at this; exact this⟩
    clear h06
    go_enter Try.func58, Try.ntmps58
    go_wp2_with (go_at_call 83; (with_reducible refine N0.out.mono ?_); rintro e w2 ⟨rfl, h2⟩; subst h2)
    go_ret
    exact ⟨by rw [F]; rfl, HB.out⟩
  rw [decide_eq_true h06] at N0
  by_cases h8 : 8 < k1
  · have z8 : decide ((8 : Int) < (k1 : Int)) = true := by rw [decide_eq_true_eq]; omega
    have z8' : decide (8 < k1) = true := by rw [decide_eq_true_eq]; exact h8
    have F := no.out fun o => by have := o.few; rw [← E1.out] at this; omega
    clear h06 h8
    go_enter Try.func58, Try.ntmps58
    go_wp2_with (go_at_call 83; (with_reducible refine N0.out.mono ?_); rintro e w2 ⟨rfl, h2⟩; subst h2)
    go_ret
    exact ⟨by rw [F]; rfl, HB.out⟩
  have z8 : decide ((8 : Int) < (k1 : Int)) = false := by rw [decide_eq_false_iff_not]; omega
  have z8' : decide (8 < k1) = false := by rw [decide_eq_false_iff_not]; exact h8
  have hk8 : k1 ≤ 8 := by omega
  have NK := Lib.hid (fun (r : Bool) (hr : r = true ↔ Nd.KeysOk n.ks n.ks.length) => arekeys_any HN.out.row.ks (by rw [← E1.out]; omega) r hr)
  rw [← E1.out] at NK
  by_cases hK : Nd.KeysOk n.ks k1
  case neg =>
    have NK := Lib.hid (NK.out false ⟨(fun h => by cases h), fun h => absurd h hK⟩)
    have F := no.out fun o => hK (by rw [E1.out]; exact o.keysOk)
    clear h06 h8 hK
    go_enter Try.func58, Try.ntmps58
    go_wp2_with (first | (go_at_call 83; (with_reducible refine N0.out.mono ?_); rintro e w2 ⟨rfl, h2⟩; subst h2) | (go_at_call 84; (with_reducible refine NK.out.mono ?_); rintro e w3 ⟨rfl, h3⟩; subst h3))
    go_ret
    exact ⟨by rw [F]; rfl, HB.out⟩
  have NK := Lib.hid (NK.out true ⟨fun _ => hK, fun _ => rfl⟩)
  have hiff := ok_iff (n := n) (by rw [← E0.out]; exact h06) (by rw [← E1.out]; exact hk8) (by rw [← E1.out]; exact hK)
  have NA : NdAt W W.heap.size (.agg #[.int .i64 k0, .slice A1 k1 c1, .slice A2 k2 c2, .slice A3 k3 c3, .slice A4 k4 c4]) n := ⟨A1, c1, A2, c2, A3, c3, A4, c4, by rw [← E0.out, ← E1.out, ← E2.out, ← E3.out, ← E4.out], HN.out.row⟩
  by_cases hz : k0 = 0
  · have NL := Lib.hid (isleaf_any NA true (by rw [← E0.out]; exact decide_eq_true hz))
    have NM := Lib.hid (fun (w' : World) (hb : Below W.heap.size W w') => mayleaf_any ((NA.below hb).more hb.size) (by rw [← E1.out]; omega) R (by rw [HT.out, hiff, if_pos (by rw [← E0.out]; exact hz)]))
    clear h06 h8 hK hz hiff NA
    go_enter Try.func58, Try.ntmps58
    go_wp2_with (first | (go_at_call 83; (with_reducible refine N0.out.mono ?_); rintro e w2 ⟨rfl, h2⟩; subst h2) | (go_at_call 84; (with_reducible refine NK.out.mono ?_); rintro e w3 ⟨rfl, h3⟩; subst h3) | (go_at_call 60; (with_reducible refine NL.out.mono ?_); rintro e w4 ⟨rfl, h4⟩; have NM := Lib.hid (NM.out w4 h4); have B4 := Lib.hid (HB.out.trans (h4.mono HBs.out)); have B4s := Lib.hid (Nat.le_trans HBs.out h4.size); obtain ⟨x0, x1, x2, x3, x4⟩ := Cs.out w4 h4; clear h4) | (go_at_call 85; (with_reducible refine NM.out.mono ?_); rintro e w5 ⟨rfl, h5⟩; have B5 := Lib.hid (B4.out.trans (h5.mono B4s.out)); clear h5))
    go_ret
    exact ⟨rfl, B5.out⟩
  · have NL := Lib.hid (isleaf_any NA false (by rw [← E0.out]; exact decide_eq_false hz))
    have NM := Lib.hid (fun (w' : World) (hb : Below W.heap.size W w') => mayinner_any ((NA.below hb).more hb.size) (by rw [← E1.out]; omega) R (by rw [HT.out, hiff, if_neg (by rw [← E0.out]; exact hz)]))
    clear h06 h8 hK hz hiff NA
    go_enter Try.func58, Try.ntmps58
    go_wp2_with (first | (go_at_call 83; (with_reducible refine N0.out.mono ?_); rintro e w2 ⟨rfl, h2⟩; subst h2) | (go_at_call 84; (with_reducible refine NK.out.mono ?_); rintro e w3 ⟨rfl, h3⟩; subst h3) | (go_at_call 60; (with_reducible refine NL.out.mono ?_); rintro e w4 ⟨rfl, h4⟩; have NM := Lib.hid (NM.out w4 h4); have B4 := Lib.hid (HB.out.trans (h4.mono HBs.out)); have B4s := Lib.hid (Nat.le_trans HBs.out h4.size); obtain ⟨x0, x1, x2, x3, x4⟩ := Cs.out w4 h4; clear h4) | (go_at_call 86; (with_reducible refine NM.out.mono ?_); rintro e w5 ⟨rfl, h5⟩; have B5 := Lib.hid (B4.out.trans (h5.mono B4s.out)); clear h5))
    go_ret
    exact ⟨rfl, B5.out⟩
end Go.Proofs.Ytaainefdjbmekaa
