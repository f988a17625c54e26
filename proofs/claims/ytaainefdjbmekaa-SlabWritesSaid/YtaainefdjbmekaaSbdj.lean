/- The program's Encode. -/
import Derived.Test.YtaainefdjbmekaaSbdd
import Derived.Test.YtaainefdjbmekaaSbdi
import Derived.Deep.RegionHeld3
namespace Go.Proofs.Ytaainefdjbmekaa
open Go.RowKit
/-- A writer that is told by what it holds, beside a later world. -/
structure Wx (W0 : World) (B g : Nat) (l : List Nat) (w : World) : Prop where
  wn : Wn w B g l
  oth : Oth B W0 w
theorem Oth.refl (B : Nat) (w : World) : Oth B w w := ⟨rfl, rfl, rfl, Nat.le_refl _, fun _ _ _ => rfl, fun _ _ _ h _ _ => h⟩
section
variable {W0 w w' : World} {B g : Nat} {l l' : List Nat}
theorem Wx.next (h : Wx W0 B g l w) (hn : Wn w' B g l') (ho : Oth B w w') : Wx W0 B g l' w' := ⟨hn, h.oth.trans ho⟩
theorem Wx.below (h : Wx W0 B g l w) (hb : Below w.heap.size w w') : Wx W0 B g l w' := ⟨h.wn.below hb, h.oth.trans (oth_of hb)⟩
theorem Wx.alloc (h : Wx W0 B g l w) (o : Obj) : Wx W0 B g l (w.alloc o) := h.below ((Below.refl _ _).alloc (Nat.le_refl _) o)
theorem Wx.num (h : Wx W0 B g l w) (x : Nat) (hx : x < 268435456) (hl : l.length ≤ 1000000000) :
    Calls Try.prog 59 #[.pointer (some ⟨g, 0, none⟩), .int .i64 (x : Int)] w fun e w' => e = .returned (.tuple #[]) ∧ Wx W0 B g (l ++ Vint.vint x) w' ∧ Oth B w w' :=
  (wn_num h.wn x hx hl).mono fun _ _ ⟨h1, h2, h3⟩ => ⟨h1, h.next h2 h3, h3⟩
end
theorem vint1000 {x : Nat} (h : x < 268435456) : (Vint.vint x).length ≤ 4 := Vint.vint_len h
set_option maxHeartbeats 4000000 in
theorem wplace_any {w : World} {B g : Nat} {l : List Nat} (h : Wn w B g l) (hl : l.length ≤ 100000000) (a c e G : Nat) (ha : a < 268435456) (hc : c < 268435456) (he : e < 268435456) (hG : G < 268435456) :
    Calls Try.prog 61 #[.pointer (some ⟨g, 0, none⟩), .agg #[.int .i64 (a : Int), .int .i64 (c : Int), .int .i64 (e : Int)], .int .i64 (G : Int)] w fun r w' => r = .returned (.tuple #[]) ∧ Wn w' B g (l ++ Vint.vint a ++ Vint.vint c ++ Vint.vint e ++ Vint.vint G) ∧ Oth B w w' := by
  obtain ⟨W, hW⟩ : ∃ W, w.alloc (.cells #[.int .i64 (a : Int), .int .i64 (c : Int), .int .i64 (e : Int)] 51) = W := ⟨_, rfl⟩
  obtain ⟨b, hb⟩ : ∃ b, w.heap.size = b := ⟨_, rfl⟩
  have bx : Blk W b 51 #[.int .i64 (a : Int), .int .i64 (c : Int), .int .i64 (e : Int)] := by rw [← hW, ← hb]; exact Blk.new _ _ _
  have X0 : Wx w B g l W := by rw [← hW]; exact Wx.alloc ⟨h, Oth.refl _ _⟩ _
  have la := vint1000 ha
  have lc := vint1000 hc
  have le := vint1000 he
  have N1 := Lib.hid (X0.num a ha (by omega))
  have N2 := Lib.hid (fun (w' : World) (X : Wx w B g (l ++ Vint.vint a) w') => X.num c hc (by rw [List.length_append]; omega))
  have N3 := Lib.hid (fun (w' : World) (X : Wx w B g (l ++ Vint.vint a ++ Vint.vint c) w') => X.num e he (by rw [List.length_append, List.length_append]; omega))
  have N4 := Lib.hid (fun (w' : World) (X : Wx w B g (l ++ Vint.vint a ++ Vint.vint c ++ Vint.vint e) w') => X.num G hG (by rw [List.length_append, List.length_append, List.length_append]; omega))
  have x0 : W.cell? ⟨b, 0, none⟩ = some (.int .i64 (a : Int)) := bx.cell 0
  have K := Lib.hid (fun (V V' : World) (hv : Blk V b 51 #[.int .i64 (a : Int), .int .i64 (c : Int), .int .i64 (e : Int)]) (ho : Oth B V V') => ho.kind _ _ _ hv (by decide) (by decide))
  have BX := Lib.hid bx
  clear X0 bx ha hc he hG hl la lc le h
  go_enter Try.func61, Try.ntmps61
  go_wp2_with fail
  refine N1.out.mono ?_
  rintro r w1 ⟨rfl, X1, o1⟩
  have N2 := Lib.hid (N2.out w1 X1)
  have B1 := Lib.hid (K.out _ _ BX.out o1)
  have x1 : w1.cell? ⟨b, 1, none⟩ = some (.int .i64 (c : Int)) := B1.out.cell 1
  clear X1 o1
  go_wp2_with fail
  refine N2.out.mono ?_
  rintro r w2 ⟨rfl, X2, o2⟩
  have N3 := Lib.hid (N3.out w2 X2)
  have B2 := Lib.hid (K.out _ _ B1.out o2)
  have x2 : w2.cell? ⟨b, 2, none⟩ = some (.int .i64 (e : Int)) := B2.out.cell 2
  clear X2 o2
  go_wp2_with fail
  refine N3.out.mono ?_
  rintro r w3 ⟨rfl, X3, o3⟩
  have N4 := Lib.hid (N4.out w3 X3)
  clear X3 o3
  go_wp2_with fail
  refine N4.out.mono ?_
  rintro r w4 ⟨rfl, X4, o4⟩
  have X4 := Lib.hid X4
  clear o4
  go_wp2_with fail
  refine bodyPost_end (results_none rfl _ _ _) rfl ?_
  exact ⟨rfl, X4.out.wn, X4.out.oth⟩
set_option maxHeartbeats 4000000 in
theorem wkid_any {w : World} {B g : Nat} {l : List Nat} (h : Wn w B g l) (hl : l.length ≤ 100000000) (a c e : Nat) (ha : a < 268435456) (hc : c < 268435456) (he : e < 268435456) :
    Calls Try.prog 62 #[.pointer (some ⟨g, 0, none⟩), .agg #[.int .i64 (a : Int), .int .i64 (c : Int), .int .i64 (e : Int)]] w fun r w' => r = .returned (.tuple #[]) ∧ Wn w' B g (l ++ Vint.vint a ++ Vint.vint c ++ Vint.vint e) ∧ Oth B w w' := by
  obtain ⟨W, hW⟩ : ∃ W, w.alloc (.cells #[.int .i64 (a : Int), .int .i64 (c : Int), .int .i64 (e : Int)] 57) = W := ⟨_, rfl⟩
  obtain ⟨b, hb⟩ : ∃ b, w.heap.size = b := ⟨_, rfl⟩
  have bx : Blk W b 57 #[.int .i64 (a : Int), .int .i64 (c : Int), .int .i64 (e : Int)] := by rw [← hW, ← hb]; exact Blk.new _ _ _
  have X0 : Wx w B g l W := by rw [← hW]; exact Wx.alloc ⟨h, Oth.refl _ _⟩ _
  have la := vint1000 ha
  have lc := vint1000 hc
  have N1 := Lib.hid (X0.num a ha (by omega))
  have N2 := Lib.hid (fun (w' : World) (X : Wx w B g (l ++ Vint.vint a) w') => X.num c hc (by rw [List.length_append]; omega))
  have N3 := Lib.hid (fun (w' : World) (X : Wx w B g (l ++ Vint.vint a ++ Vint.vint c) w') => X.num e he (by rw [List.length_append, List.length_append]; omega))
  have x0 : W.cell? ⟨b, 0, none⟩ = some (.int .i64 (a : Int)) := bx.cell 0
  have K := Lib.hid (fun (V V' : World) (hv : Blk V b 57 #[.int .i64 (a : Int), .int .i64 (c : Int), .int .i64 (e : Int)]) (ho : Oth B V V') => ho.kind _ _ _ hv (by decide) (by decide))
  have BX := Lib.hid bx
  clear X0 bx ha hc he hl la lc h
  go_enter Try.func62, Try.ntmps62
  go_wp2_with fail
  refine N1.out.mono ?_
  rintro r w1 ⟨rfl, X1, o1⟩
  have N2 := Lib.hid (N2.out w1 X1)
  have B1 := Lib.hid (K.out _ _ BX.out o1)
  have x1 : w1.cell? ⟨b, 1, none⟩ = some (.int .i64 (c : Int)) := B1.out.cell 1
  clear X1 o1
  go_wp2_with fail
  refine N2.out.mono ?_
  rintro r w2 ⟨rfl, X2, o2⟩
  have N3 := Lib.hid (N3.out w2 X2)
  have B2 := Lib.hid (K.out _ _ B1.out o2)
  have x2 : w2.cell? ⟨b, 2, none⟩ = some (.int .i64 (e : Int)) := B2.out.cell 2
  clear X2 o2
  go_wp2_with fail
  refine N3.out.mono ?_
  rintro r w3 ⟨rfl, X3, o3⟩
  have X3 := Lib.hid X3
  clear o3
  go_wp2_with fail
  refine bodyPost_end (results_none rfl _ _ _) rfl ?_
  exact ⟨rfl, X3.out.wn, X3.out.oth⟩
section
variable {w : World} {v : Value} {n : Nd.N}
set_option maxRecDepth 8000 in
set_option maxHeartbeats 8000000 in
theorem enc_no (h : NdAt w w.heap.size v n) (hno : ¬ Nd.Ok n) : Calls Try.prog 38 #[v] w fun e w' => e = .returned (.tuple #[.slice none 0 0, .int .i64 1]) ∧ Below w.heap.size w w' := by
  obtain ⟨A1, c1, A2, c2, A3, c3, A4, c4, rfl, hf⟩ := h
  obtain ⟨W, hW⟩ : ∃ W, w.alloc (.cells #[.int .i64 n.h, .slice A1 n.ks.length c1, .slice A2 n.ps.length c2, .slice A3 n.gs.length c3, .slice A4 n.cs.length c4] 62) = W := ⟨_, rfl⟩
  obtain ⟨hN, hbl⟩ := ndp_boxed hf hW
  have HB := Lib.hid hbl
  have N1 := Lib.hid (may_any (w := W) (n := n) ⟨A1, c1, A2, c2, A3, c3, A4, c4, rfl, hN.row⟩ false ⟨(fun h => by cases h), fun h => absurd h hno⟩)
  obtain ⟨b, hb⟩ : ∃ b, w.heap.size = b := ⟨_, rfl⟩
  have bx := hN.blk
  rw [hb] at HB bx ⊢
  have HBs := Lib.hid (show b ≤ W.heap.size by rw [← hb]; exact hbl.size)
  have x0 : W.cell? ⟨b, 0, none⟩ = some (.int .i64 n.h) := bx.cell 0
  have x1 : W.cell? ⟨b, 1, none⟩ = some (.slice A1 n.ks.length c1) := bx.cell 1
  have x2 : W.cell? ⟨b, 2, none⟩ = some (.slice A2 n.ps.length c2) := bx.cell 2
  have x3 : W.cell? ⟨b, 3, none⟩ = some (.slice A3 n.gs.length c3) := bx.cell 3
  have x4 : W.cell? ⟨b, 4, none⟩ = some (.slice A4 n.cs.length c4) := bx.cell 4
  clear hN hbl hf bx
  generalize n.ks.length = k1 at *
  generalize n.ps.length = k2 at *
  generalize n.gs.length = k3 at *
  generalize n.cs.length = k4 at *
  generalize n.h = k0 at *
  go_enter Try.func38, Try.ntmps38
  go_wp2_with (go_at_call 58; refine N1.out.mono ?_; rintro e w2 ⟨rfl, h2⟩; have H2 := Lib.hid (HB.out.trans (h2.mono HBs.out)); clear h2)
  go_returns
  exact ⟨rfl, H2.out⟩
set_option maxRecDepth 8000 in
set_option maxHeartbeats 16000000 in
theorem enc_ok (h : NdAt w w.heap.size v n) (ho : Nd.Ok n) : Calls Try.prog 38 #[v] w fun e w' => ∃ A c, e = .returned (.tuple #[.slice A (Nd.enc n).length c, .int .i64 0]) ∧ OY w' w.heap.size (.slice A (Nd.enc n).length c) (Nd.enc n) ∧ Below w.heap.size w w' := by
  obtain ⟨A1, c1, A2, c2, A3, c3, A4, c4, rfl, hf⟩ := h
  obtain ⟨W, hW⟩ : ∃ W, w.alloc (.cells #[.int .i64 n.h, .slice A1 n.ks.length c1, .slice A2 n.ps.length c2, .slice A3 n.gs.length c3, .slice A4 n.cs.length c4] 62) = W := ⟨_, rfl⟩
  obtain ⟨hN, hbl⟩ := ndp_boxed hf hW
  have HB := Lib.hid hbl
  have HO := Lib.hid ho
  have HN := Lib.hid hN
  have N1 := Lib.hid (may_any (w := W) (n := n) ⟨A1, c1, A2, c2, A3, c3, A4, c4, rfl, hN.row⟩ true ⟨fun _ => ho, fun _ => rfl⟩)
  obtain ⟨hd, hhd⟩ : ∃ k : Nat, n.h = (k : Int) := ⟨n.h.toNat, by have := ho.h0; omega⟩
  obtain ⟨k1, e1⟩ : ∃ k, k = n.ks.length := ⟨_, rfl⟩
  obtain ⟨k2, e2⟩ : ∃ k, k = n.ps.length := ⟨_, rfl⟩
  obtain ⟨k3, e3⟩ : ∃ k, k = n.gs.length := ⟨_, rfl⟩
  obtain ⟨k4, e4⟩ : ∃ k, k = n.cs.length := ⟨_, rfl⟩
  have E0 := Lib.hid hhd
  have E1 := Lib.hid e1
  have E2 := Lib.hid e2
  have E3 := Lib.hid e3
  have E4 := Lib.hid e4
  have hk8 : k1 ≤ 8 := by rw [e1]; exact ho.few
  have hd6 : hd < 6 := by have := ho.h6; omega
  obtain ⟨b, hb⟩ : ∃ b, w.heap.size = b := ⟨_, rfl⟩
  have NA := Lib.hid (fun (W' : World) (hbw : Below W.heap.size W W') => show NdAt W' W'.heap.size (.agg #[.int .i64 (hd : Int), .slice A1 k1 c1, .slice A2 k2 c2, .slice A3 k3 c3, .slice A4 k4 c4]) n from ⟨A1, c1, A2, c2, A3, c3, A4, c4, by rw [hhd, e1, e2, e3, e4], (hN.below hbw).row⟩)
  have Cs := Lib.hid (fun (W' : World) (hbw : Below W.heap.size W W') => show W'.cell? ⟨b, 0, none⟩ = some (.int .i64 (hd : Int)) ∧ W'.cell? ⟨b, 1, none⟩ = some (.slice A1 k1 c1) ∧ W'.cell? ⟨b, 2, none⟩ = some (.slice A2 k2 c2) ∧ W'.cell? ⟨b, 3, none⟩ = some (.slice A3 k3 c3) ∧ W'.cell? ⟨b, 4, none⟩ = some (.slice A4 k4 c4) from by
    have := (hN.below hbw).blk
    rw [hb, hhd, ← e1, ← e2, ← e3, ← e4] at this
    exact ⟨this.cell 0, this.cell 1, this.cell 2, this.cell 3, this.cell 4⟩)
  rw [hhd, ← e1, ← e2, ← e3, ← e4] at hW N1 ⊢
  rw [hb] at HB ⊢
  have HBs := Lib.hid (show b ≤ W.heap.size by rw [← hb]; exact hbl.size)
  obtain ⟨x0, x1, x2, x3, x4⟩ := Cs.out W (Below.refl _ _)
  obtain ⟨R, hR⟩ : ∃ R, R = Nd.enc n := ⟨_, rfl⟩
  have HR := Lib.hid (show R = (([] ++ Vint.vint hd) ++ Vint.vint k1) ++ Nd.putL (Nd.entries n k1) by
    rw [hR, Nd.enc_is, hhd, ← e1, Int.toNat_natCast]
    simp)
  rw [← hR]
  have lh := vint1000 (x := hd) (by omega)
  have lk := vint1000 (x := k1) (by omega)
  clear hN hbl hf hhd e1 e2 e3 e4 ho hR
  go_enter Try.func38, Try.ntmps38
  go_upto_region 3 with (go_at_call 58; refine N1.out.mono ?_; rintro e w2 ⟨rfl, h2⟩; have H2 := Lib.hid h2; clear h2)
  obtain ⟨g, hg⟩ : ∃ g, w2.heap.size = g := ⟨_, rfl⟩
  obtain ⟨V, hV⟩ : ∃ V, w2.alloc (.cells #[.slice none 0 0] 124) = V := ⟨_, rfl⟩
  have bV : Below W.heap.size W V := by rw [← hV]; exact H2.out.alloc H2.out.size _
  have wV : Wx V g g [] V := ⟨by rw [← hV, ← hg]; exact wn_new w2 (Nat.le_refl _), Oth.refl _ _⟩
  have gV : g ≤ V.heap.size := by rw [← hV, ← hg]; simp
  have gW : W.heap.size ≤ g := by rw [← hg]; exact H2.out.size
  have Bo := Lib.hid (fun (X : World) (o : Oth g V X) => bV.trans ((o.below gV).mono gW))
  obtain ⟨x0, x1, x2, x3, x4⟩ := Cs.out V bV
  have M1 := Lib.hid (wV.num hd (by omega) (by simp))
  clear bV wV
  go_wp2_with (first
    | (go_at_call 59; (with_reducible refine M1.out.mono ?_); rintro e w3 ⟨rfl, X3, -⟩; have M2 := Lib.hid (X3.num k1 (by omega) (by rw [List.nil_append]; omega)); obtain ⟨x0, x1, x2, x3, x4⟩ := Cs.out w3 (Bo.out _ X3.oth); clear X3)
    | (go_at_call 59; (with_reducible refine M2.out.mono ?_); rintro e w4 ⟨rfl, X4, -⟩; have X4 := Lib.hid X4; obtain ⟨x0, x1, x2, x3, x4⟩ := Cs.out w4 (Bo.out _ X4.out.oth)))
  clear x0 x1 x2 x3 x4
  obtain ⟨P0, hP0⟩ : ∃ P, P = ([] ++ Vint.vint hd) ++ Vint.vint k1 := ⟨_, rfl⟩
  rw [← hP0] at X4 HR
  have hp0 : P0.length ≤ 8 := by rw [hP0, List.length_append, List.nil_append]; omega
  clear hP0 M1 M2 lh lk
  go_loopw [5, 6, 24] (fun _ _ v wr => ∃ i : Nat, v = .int .i64 (i : Int) ∧ i ≤ k1 ∧ Wx V g g (P0 ++ Nd.putL (Nd.entries n i)) wr) (fun _ _ v _ => k1 - (intOf v).toNat)
  case atStart => exact ⟨0, rfl, Nat.zero_le _, by rw [show P0 ++ Nd.putL (Nd.entries n 0) = P0 by simp [Nd.entries, Nd.putL]]; exact X4.out⟩
  case round =>
    obtain ⟨i, rfl, hi, hX⟩ := hrel
    have HX := Lib.hid hX
    have hbr := Bo.out wr hX.oth
    have HBr := Lib.hid hbr
    have NR := Lib.hid (HN.out.below hbr)
    have NAr := NA.out wr hbr
    obtain ⟨x0, x1, x2, x3, x4⟩ := Cs.out wr hbr
    obtain ⟨P, hP⟩ : ∃ P, P = P0 ++ Nd.putL (Nd.entries n i) := ⟨_, rfl⟩
    have HP := Lib.hid hP
    have hpl : P.length ≤ 8 + i * 20 := by
      rw [hP, List.length_append]
      have := entries_len HO.out (k := i) (by rw [← E1.out]; exact hi)
      omega
    rw [← hP] at hX
    by_cases hik : i < k1
    · have z0 : decide ((i : Int) < (k1 : Int)) = true := by rw [decide_eq_true_eq]; omega
      have z0' : decide (i < k1) = true := by rw [decide_eq_true_eq]; exact hik
      have hki : (i : Int) < (k1 : Int) := by omega
      by_cases hz : hd = 0
      · have hl := HO.out.leaf (by rw [E0.out]; omega)
        obtain ⟨K, a, c, e, G, hK, hPl, hG, hE, bK, ba, bc, be, bG⟩ := HO.out.entry_leaf (by rw [E0.out]; omega) (i := i) (by rw [← E1.out]; exact hik)
        have hk2 : (i : Int) < (k2 : Int) := by rw [E2.out, hl.1, ← E1.out]; omega
        have hk3 : (i : Int) < (k3 : Int) := by rw [E3.out, hl.2.1, ← E1.out]; omega
        obtain ⟨g1, o1, rfl, -, hc1⟩ := NR.out.row.ks.int (i := i) (by rw [← E1.out]; exact hik)
        rw [hK] at hc1
        have MK := Lib.hid (hX.num K bK (by omega))
        have lK := vint1000 bK
        have Nx := Lib.hid (show P0 ++ Nd.putL (Nd.entries n (i + 1)) = P ++ Vint.vint K ++ Vint.vint a ++ Vint.vint c ++ Vint.vint e ++ Vint.vint G by rw [Nd.entries_next, Nd.putL_app, hE, HP.out]; simp [Nd.putL])
        obtain ⟨g2, o2, rfl, -, -, -, -⟩ := NR.out.row.ps.three (i := i) (by rw [hl.1, ← E1.out]; exact hik)
        obtain ⟨g3, o3, rfl, -, -⟩ := NR.out.row.gs.int (i := i) (by rw [hl.2.1, ← E1.out]; exact hik)
        have Kp := Lib.hid (fun (X : World) (hb5 : Below W.heap.size W X) => show X.cell? ⟨b, 2, none⟩ = some (.slice (some ⟨g2, o2, none⟩) k2 c2) ∧ X.cell? ⟨b, 3, none⟩ = some (.slice (some ⟨g3, o3, none⟩) k3 c3) ∧ X.cell? ⟨g2, o2 + i * 3, none⟩ = some (.int .i64 (a : Int)) ∧ X.cell? ⟨g2, o2 + i * 3 + 1, none⟩ = some (.int .i64 (c : Int)) ∧ X.cell? ⟨g2, o2 + i * 3 + 2, none⟩ = some (.int .i64 (e : Int)) ∧ X.cell? ⟨g3, o3 + i, none⟩ = some (.int .i64 (G : Int)) from by
          have N5 := HN.out.below hb5
          obtain ⟨y0, y1, y2, y3, y4⟩ := Cs.out X hb5
          obtain ⟨g2', o2', q2, -, p1, p2, p3⟩ := N5.row.ps.three (i := i) (by rw [hl.1, ← E1.out]; exact hik)
          obtain ⟨g3', o3', q3, -, p4⟩ := N5.row.gs.int (i := i) (by rw [hl.2.1, ← E1.out]; exact hik)
          injection q2 with q2
          injection q2 with q2 q2'
          subst q2; subst q2'
          injection q3 with q3
          injection q3 with q3 q3'
          subst q3; subst q3'
          rw [hPl] at p1 p2 p3
          rw [hG] at p4
          exact ⟨y2, y3, p1, p2, p3, p4⟩)
        have IL := Lib.hid (fun (w5 : World) (X5 : Wx V g g (P ++ Vint.vint K) w5) => isleaf_any (NA.out w5 (Bo.out w5 X5.oth)) true (by rw [E0.out, hz]; rfl))
        have Pl := Lib.hid (fun (w6 : World) (X6 : Wx V g g (P ++ Vint.vint K) w6) => wplace_any X6.wn (by rw [List.length_append]; omega) a c e G ba bc be bG)
        have Cw := Lib.hid (fun (w5 : World) (X5 : Wx V g g (P ++ Vint.vint K) w5) => Cs.out w5 (Bo.out w5 X5.oth))
        clear hX hP hK hPl hG hE ba bc be bG hl hbr NAr hz
        go_upto_region 11 with (first
          | (go_at_call 59; (with_reducible refine MK.out.mono ?_); rintro e w5 ⟨rfl, X5, -⟩; have IL := Lib.hid (IL.out w5 X5); obtain ⟨x0, x1, x2, x3, x4⟩ := Cw.out w5 X5; have X5 := Lib.hid X5)
          | (go_at_call 60; (with_reducible refine IL.out.mono ?_); rintro e w6 ⟨rfl, h6⟩; have X6 := Lib.hid (X5.out.below h6); clear h6))
        obtain ⟨y2, y3, p1, p2, p3, p4⟩ := Kp.out w6 (Bo.out w6 X6.out.oth)
        have X6d := Lib.hid (X6.out.below (Below.refl _ _).drew)
        have PL := Lib.hid (Pl.out w6.drew X6d.out)
        clear x0 x1 x2 x3 x4
        go_region_held3 (fun X => X.cell? ⟨b, 2, none⟩ = some (.slice (some ⟨g2, o2, none⟩) k2 c2) ∧ X.cell? ⟨b, 3, none⟩ = some (.slice (some ⟨g3, o3, none⟩) k3 c3) ∧ X.cell? ⟨g2, o2 + i * 3, none⟩ = some (.int .i64 (a : Int)) ∧ X.cell? ⟨g2, o2 + i * 3 + 1, none⟩ = some (.int .i64 (c : Int)) ∧ X.cell? ⟨g2, o2 + i * 3 + 2, none⟩ = some (.int .i64 (e : Int)) ∧ X.cell? ⟨g3, o3 + i, none⟩ = some (.int .i64 (G : Int))) (first | exact ⟨y2, y3, p1, p2, p3, p4⟩ | exact Kp.out _ (Bo.out _ X7.out.oth)) (first | (go_at_call 61; ((with_reducible refine PL.out.mono ?_); rintro e w7 ⟨rfl, h7, o7⟩; have X7 := Lib.hid (X6d.out.next h7 o7); clear h7 o7)) | fail)
        all_goals
          go_wp2_with fail
          go_roundw
          case rel => exact ⟨i + 1, by go_num, by omega, by rw [Nx.out]; exact X7.out⟩
          case measure => simp [intOf]; omega
      · have hnz : n.h ≠ 0 := by rw [E0.out]; omega
        have hl := HO.out.inner hnz
        obtain ⟨K, a, c, e, hK, hPl, hE, bK, ba, bc, be⟩ := HO.out.entry_inner hnz (i := i) (by rw [← E1.out]; exact hik)
        have hk4 : (i : Int) < (k4 : Int) := by rw [E4.out, hl.1, ← E1.out]; omega
        obtain ⟨g1, o1, rfl, -, hc1⟩ := NR.out.row.ks.int (i := i) (by rw [← E1.out]; exact hik)
        rw [hK] at hc1
        have MK := Lib.hid (hX.num K bK (by omega))
        have lK := vint1000 bK
        have Nx := Lib.hid (show P0 ++ Nd.putL (Nd.entries n (i + 1)) = P ++ Vint.vint K ++ Vint.vint a ++ Vint.vint c ++ Vint.vint e by rw [Nd.entries_next, Nd.putL_app, hE, HP.out]; simp [Nd.putL])
        obtain ⟨g2, o2, rfl, -, -, -, -⟩ := NR.out.row.cs.three (i := i) (by rw [hl.1, ← E1.out]; exact hik)
        have Kp := Lib.hid (fun (X : World) (hb5 : Below W.heap.size W X) => show X.cell? ⟨b, 4, none⟩ = some (.slice (some ⟨g2, o2, none⟩) k4 c4) ∧ X.cell? ⟨g2, o2 + i * 3, none⟩ = some (.int .i64 (a : Int)) ∧ X.cell? ⟨g2, o2 + i * 3 + 1, none⟩ = some (.int .i64 (c : Int)) ∧ X.cell? ⟨g2, o2 + i * 3 + 2, none⟩ = some (.int .i64 (e : Int)) from by
          have N5 := HN.out.below hb5
          obtain ⟨y0, y1, y2, y3, y4⟩ := Cs.out X hb5
          obtain ⟨g2', o2', q2, -, p1, p2, p3⟩ := N5.row.cs.three (i := i) (by rw [hl.1, ← E1.out]; exact hik)
          injection q2 with q2
          injection q2 with q2 q2'
          subst q2; subst q2'
          rw [hPl] at p1 p2 p3
          exact ⟨y4, p1, p2, p3⟩)
        have IL := Lib.hid (fun (w5 : World) (X5 : Wx V g g (P ++ Vint.vint K) w5) => isleaf_any (NA.out w5 (Bo.out w5 X5.oth)) false (by rw [E0.out]; exact decide_eq_false (by omega)))
        have Pl := Lib.hid (fun (w6 : World) (X6 : Wx V g g (P ++ Vint.vint K) w6) => wkid_any X6.wn (by rw [List.length_append]; omega) a c e ba bc be)
        have Cw := Lib.hid (fun (w5 : World) (X5 : Wx V g g (P ++ Vint.vint K) w5) => Cs.out w5 (Bo.out w5 X5.oth))
        clear hX hP hK hPl hE ba bc be hl hbr NAr hz hnz
        go_upto_region 12 with (first
          | (go_at_call 59; (with_reducible refine MK.out.mono ?_); rintro e w5 ⟨rfl, X5, -⟩; have IL := Lib.hid (IL.out w5 X5); obtain ⟨x0, x1, x2, x3, x4⟩ := Cw.out w5 X5; have X5 := Lib.hid X5)
          | (go_at_call 60; (with_reducible refine IL.out.mono ?_); rintro e w6 ⟨rfl, h6⟩; have X6 := Lib.hid (X5.out.below h6); clear h6))
        obtain ⟨y4, p1, p2, p3⟩ := Kp.out w6 (Bo.out w6 X6.out.oth)
        have PL := Lib.hid (Pl.out w6 X6.out)
        clear x0 x1 x2 x3 x4
        go_wp2_with (go_at_call 62; (with_reducible refine PL.out.mono ?_); rintro e w7 ⟨rfl, h7, o7⟩; have X7 := Lib.hid (X6.out.next h7 o7); clear h7 o7)
        go_roundw
        case rel => exact ⟨i + 1, by go_num, by omega, by rw [Nx.out]; exact X7.out⟩
        case measure => simp [intOf]; omega
    · have z0 : decide ((i : Int) < (k1 : Int)) = false := by rw [decide_eq_false_iff_not]; omega
      have z0' : decide (i < k1) = false := by rw [decide_eq_false_iff_not]; exact hik
      have hRP : R = P := by rw [HR.out, HP.out, show i = k1 by omega]
      have NO := Lib.hid (wn_out hX.wn (by omega))
      have Fin := Lib.hid (fun (A : Option Addr) (c : Nat) (w' : World) (h1 : w'.ownsRow wr.heap.size 5 1 (.slice A P.length c) P.length (byts P)) (h2 : Below wr.heap.size wr w') => show ∃ A' c', Ending.returned (.tuple #[.slice A P.length c, .int .i64 0]) = Ending.returned (.tuple #[.slice A' R.length c', .int .i64 0]) ∧ OY w' b (.slice A' R.length c') R ∧ Below b w w' from
        ⟨A, c, by rw [hRP], by rw [hRP]; exact World.ownsRow_base h1 (Nat.le_trans HBs.out HBr.out.size), HB.out.trans ((HBr.out.trans (h2.mono HBr.out.size)).mono HBs.out)⟩)
      clear hX hP hRP hbr NAr x0 x1 x2 x3 x4
      go_wp2_with (go_at_call 63; refine NO.out.mono ?_; rintro e w5 ⟨A5, c5, rfl, h5, h6⟩; have FF := Lib.hid (Fin.out A5 c5 w5 h5 h6); clear h5 h6)
      go_returns
      exact FF.out
end
end Go.Proofs.Ytaainefdjbmekaa
