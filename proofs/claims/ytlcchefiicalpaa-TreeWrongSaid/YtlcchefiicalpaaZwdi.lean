/- TreeWrong. -/
import Derived.Test.YtlcchefiicalpaaZwdg
import Derived.Test.YtlcchefiicalpaaZwdh
import Derived.Deep.RegionHeld3
namespace Go.Proofs.Ytlcchefiicalpaa
open Go.RowKit
def ldL50 : Op := Op.load 62 (.tmp 49)
theorem NdsAt.at_ {w : World} {B : Nat} {A : Option Addr} {l : List Nd.N} (h : NdsAt w B A l) {i : Nat} (hi : i < l.length) : ∃ b o A1 c1 A2 c2 A3 c3 A4 c4, A = some ⟨b, o, none⟩ ∧ b < B ∧ (w.cell? ⟨b, o + i * 5, none⟩ = some (.int .i64 l[i].h) ∧ w.cell? ⟨b, o + i * 5 + 1, none⟩ = some (.slice A1 l[i].ks.length c1) ∧ w.cell? ⟨b, o + i * 5 + 2, none⟩ = some (.slice A2 l[i].ps.length c2) ∧ w.cell? ⟨b, o + i * 5 + 3, none⟩ = some (.slice A3 l[i].gs.length c3) ∧ w.cell? ⟨b, o + i * 5 + 4, none⟩ = some (.slice A4 l[i].cs.length c4)) ∧ NdAt w B (.agg #[.int .i64 l[i].h, .slice A1 l[i].ks.length c1, .slice A2 l[i].ps.length c2, .slice A3 l[i].gs.length c3, .slice A4 l[i].cs.length c4]) l[i] := by
  rcases h with rfl | ⟨b, o, e, hb, hc⟩
  · cases hi
  · obtain ⟨v, h1, h2, A1, c1, A2, c2, A3, c3, A4, c4, e5, hf⟩ := hc i hi
    injection e5 with e5
    subst e5
    exact ⟨b, o, A1, c1, A2, c2, A3, c3, A4, c4, e, hb, ⟨h2 0 (by decide), h2 1 (by decide), h2 2 (by decide), h2 3 (by decide), h2 4 (by decide)⟩, A1, c1, A2, c2, A3, c3, A4, c4, rfl, hf⟩
theorem lw_box5 {B p bx : Nat} {w0 W w s : World} {X X' : Nat → Prop} {st st' : Tr.MSt} {K : World → Prop} {t : TypeId} {C : Array Value} (h : LW B w0 p W X st K) (hr : MRep p w X' st') (k : Stp W X w X') (hbx : W.heap.size ≤ bx) (hc : Chg (fun b => b = bx) w s) (hb : Blk s bx t C) (hX' : ¬ X' bx) : LW B w0 p s X' st' fun u => K u ∧ Blk u bx t C := by
  have h1 := h.stp hr k
  have h2 : Fast (fun b => X' b ∨ b = bx) w K := h.kp.new k fun b hb => by have hb : b = bx := hb; omega
  exact lw_chg h1 hc hX' (Nat.le_trans h.sz hbx) (Fast.and_ (fun u ku => h2 u ((hc.mono fun _ e => .inr e).then_ (ku.mono fun _ hx => .inl hx))) (Fast.blk hb hX'))
theorem blk_st5p {V : World} {xb : Nat} {t : TypeId} {z0 z1 z2 z3 z4 : Value} (h : Blk V xb t #[z0, z1, z2, z3, z4]) (v0 v1 v2 v3 v4 : Value) :
    ∃ s1 s2 s3 s4 s5, V.setCell ⟨xb, 0, none⟩ v0 = s1 ∧ s1.setCell ⟨xb, 1, none⟩ v1 = s2 ∧ s2.setCell ⟨xb, 2, none⟩ v2 = s3 ∧ s3.setCell ⟨xb, 3, none⟩ v3 = s4 ∧ s4.setCell ⟨xb, 4, none⟩ v4 = s5 ∧
      (V.frozen? ⟨xb, 0, none⟩ = false ∧ s1.frozen? ⟨xb, 1, none⟩ = false ∧ s2.frozen? ⟨xb, 2, none⟩ = false ∧ s3.frozen? ⟨xb, 3, none⟩ = false ∧ s4.frozen? ⟨xb, 4, none⟩ = false) ∧
      (V.cell? ⟨xb, 0, none⟩ = some z0 ∧ s1.cell? ⟨xb, 1, none⟩ = some z1 ∧ s2.cell? ⟨xb, 2, none⟩ = some z2 ∧ s3.cell? ⟨xb, 3, none⟩ = some z3 ∧ s4.cell? ⟨xb, 4, none⟩ = some z4) ∧
      Blk s5 xb t #[v0, v1, v2, v3, v4] ∧ Chg (fun b => b = xb) V s5 := by
  refine ⟨_, _, _, _, _, rfl, rfl, rfl, rfl, rfl, ?_⟩
  have r1 : Blk (V.setCell ⟨xb, 0, none⟩ v0) xb t #[v0, z1, z2, z3, z4] := h.set_ 0 _
  have r2 : Blk ((V.setCell ⟨xb, 0, none⟩ v0).setCell ⟨xb, 1, none⟩ v1) xb t #[v0, v1, z2, z3, z4] := r1.set_ 1 _
  have r3 : Blk (((V.setCell ⟨xb, 0, none⟩ v0).setCell ⟨xb, 1, none⟩ v1).setCell ⟨xb, 2, none⟩ v2) xb t #[v0, v1, v2, z3, z4] := r2.set_ 2 _
  have r4 : Blk ((((V.setCell ⟨xb, 0, none⟩ v0).setCell ⟨xb, 1, none⟩ v1).setCell ⟨xb, 2, none⟩ v2).setCell ⟨xb, 3, none⟩ v3) xb t #[v0, v1, v2, v3, z4] := r3.set_ 3 _
  have r5 : Blk (((((V.setCell ⟨xb, 0, none⟩ v0).setCell ⟨xb, 1, none⟩ v1).setCell ⟨xb, 2, none⟩ v2).setCell ⟨xb, 3, none⟩ v3).setCell ⟨xb, 4, none⟩ v4) xb t #[v0, v1, v2, v3, v4] := r4.set_ 4 _
  refine ⟨⟨h.frozen 0, r1.frozen 1, r2.frozen 2, r3.frozen 3, r4.frozen 4⟩, ⟨h.cell 0, r1.cell 1, r2.cell 2, r3.cell 3, r4.cell 4⟩, r5, ?_⟩
  exact (((((Chg.refl (fun b => b = xb) V).setCell (p := ⟨xb, 0, none⟩) (.inl rfl) _).setCell (p := ⟨xb, 1, none⟩) (.inl rfl) _).setCell (p := ⟨xb, 2, none⟩) (.inl rfl) _).setCell (p := ⟨xb, 3, none⟩) (.inl rfl) _).setCell (p := ⟨xb, 4, none⟩) (.inl rfl) _
/-- The slice of one element of one cell. -/
theorem run_slice_int {P : Program} {t e : TypeId} {i : TypeInfo} (ht : P.underlying t = some (.slice e)) (hi : P.info? e = some i) (hs : i.size = 1) (b o n cap k : Nat) (hk : k < cap) (w : World) :
    (Instr.slice t (.slice (some ⟨b, o, none⟩) n cap) (some (.int .i64 (k : Int))) (some (.int .i64 ((k : Int) + 1))) none).run P w = .ok (.slice (some ⟨b, o + k, none⟩) 1 (cap - k)) w := by
  have h1 : ((k : Int) + 1) = ((k + 1 : Nat) : Int) := by omega
  rw [h1]
  simp only [Instr.slice, Instr.sliceBounds, Instr.sliceBound, sizeOf, typeInfo, asIntOf]
  simp [run_underlying ht, hi, hs, Addr.add_lit]
  rw [if_pos (by omega)]
  simp [show cap ≠ k by omega]
theorem slc_int {w : World} {B b o c n : Nat} {ks : List Int} (h : SlC w B (some ⟨b, o, none⟩) c n (ivs ks)) {k : Nat} (hk : k < ks.length) (hn : n = ks.length) : SlC w B (some ⟨b, o + k, none⟩) (c - k) 1 (ivs [Nd.at_ ks k]) := by
  obtain ⟨b', o', e, hb, v0⟩ := h.int hk
  injection e with e
  injection e with e1 e2
  subst e1
  subst e2
  have hle := h.le
  refine ⟨by omega, (fun e => by cases e), .inr ⟨b, o + k, rfl, hb, fun i hi => ?_⟩⟩
  have hi : i < 1 := hi
  obtain rfl : i = 0 := by omega
  exact v0
set_option maxRecDepth 8000 in
set_option maxHeartbeats 16000000 in
theorem wrong_any {A Ak : Option Addr} {c ck : Nat} {l : List Nd.N} {ks : List Int} (kd : Nd.T3) (ht : Int) (w : World) (hD : NdsAt w w.heap.size A l) (hk : SlC w w.heap.size Ak ck ks.length (ivs ks)) (hkr : Tr.KR kd) (hht : -9223372036854775808 ≤ ht ∧ ht ≤ 9223372036854775807) : Calls Try.prog 43 #[.slice A l.length c, .agg #[.int .i64 kd.1, .int .i64 kd.2.1, .int .i64 kd.2.2], .int .i64 ht, .slice Ak ks.length ck] w fun e w' => e = .returned (.bool true) ∧ Below w.heap.size w w' := by
  have HAw := Lib.hid (fun (u : World) => tawake_any u)
  have HK := Lib.hid (fun (u : World) (hu : Below w.heap.size w u) => (hk.below hu).more hu.size)
  have HD := Lib.hid hD
  have HKR := Lib.hid hkr
  have HHT := Lib.hid hht
  obtain ⟨B, hB⟩ : ∃ B, w.heap.size = B := ⟨_, rfl⟩
  obtain ⟨q, hq⟩ : ∃ q, l.length = q := ⟨_, rfl⟩
  obtain ⟨r, hr⟩ : ∃ q, ks.length = q := ⟨_, rfl⟩
  rw [hB, hq, hr]
  rw [hB] at HD HK
  rw [hr] at HK
  have Hq := Lib.hid hq
  have Hr := Lib.hid hr
  clear hD hk hkr hht hq hr
  have q0 : (0 : Int) ≤ (q : Int) := by omega
  have r0 : (0 : Int) ≤ (r : Int) := by omega
  go_enter Try.func43, Try.ntmps43
  go_upto_region 1 with fail
  obtain ⟨Wd, hWd⟩ : ∃ W, w.alloc (.cells #[.int .i64 kd.1, .int .i64 kd.2.1, .int .i64 kd.2.2] 56) = W := ⟨_, rfl⟩
  rw [hWd]
  have ND := Lib.hid (show Below B w Wd ∧ Blk Wd B 56 #[.int .i64 kd.1, .int .i64 kd.2.1, .int .i64 kd.2.2] from by rw [← hWd, ← hB]; exact ⟨below_alloc1 w _, Blk.new w _ _⟩)
  have NBs := Lib.hid (show B ≤ Wd.heap.size from by have := ND.out.2.lt; omega)
  clear hWd
  have AW := Lib.hid (fun (V : World) (hV : Below B w V) => show Calls Try.prog 30 #[] V (fun e w' => e = .returned (.bool true) ∧ Below B w w') from (HAw.out V).mono fun e w' h => ⟨h.1, hV.trans (h.2.mono (by have := hV.size; omega))⟩)
  by_cases h30 : 30 < q
  · have z1 : decide ((30 : Int) < (q : Int)) = true := by rw [decide_eq_true_eq]; omega
    have z1' : decide (30 < q) = true := decide_eq_true h30
    go_wp2_with (go_at_call 30; (with_reducible refine (AW.out _ ND.out.1).mono ?_); rintro e w3 ⟨rfl, b3⟩; (have B3 := Lib.hid b3); clear b3)
    go_ret
    exact ⟨rfl, B3.out⟩
  have z1 : decide ((30 : Int) < (q : Int)) = false := by rw [decide_eq_false_iff_not]; omega
  have z1' : decide (30 < q) = false := decide_eq_false h30
  by_cases h20 : 20 < r
  · have z2 : decide ((20 : Int) < (r : Int)) = true := by rw [decide_eq_true_eq]; omega
    have z2' : decide (20 < r) = true := decide_eq_true h20
    go_wp2_with (go_at_call 30; (with_reducible refine (AW.out _ ND.out.1).mono ?_); rintro e w3 ⟨rfl, b3⟩; (have B3 := Lib.hid b3); clear b3)
    go_ret
    exact ⟨rfl, B3.out⟩
  have z2 : decide ((20 : Int) < (r : Int)) = false := by rw [decide_eq_false_iff_not]; omega
  have z2' : decide (20 < r) = false := decide_eq_false h20
  go_upto_region 4 with fail
  clear z1 z1' z2 z2'
  obtain ⟨p, hp⟩ : ∃ p, Wd.heap.size = p := ⟨_, rfl⟩
  obtain ⟨W1, hW1⟩ : ∃ W, Wd.alloc (.cells #[.slice none 0 0, .int .i64 0, .int .i64 0, .int .i64 0, .int .i64 0] 64) = W := ⟨_, rfl⟩
  try rw [hW1]
  try rw [hp]
  have N1 := Lib.hid (show LW B w p W1 (fun b => b = p) ⟨[], 0, 0, 0, 0⟩ (fun u => Blk u B 56 #[.int .i64 kd.1, .int .i64 kd.2.1, .int .i64 kd.2.2]) from by
    have hl := ND.out.2.lt
    subst hp
    rw [← hW1]
    exact ⟨mrep_new Wd, ND.out.1.trans ((below_alloc1 Wd _).mono (by omega)), fun b hb => by have hb : b = Wd.heap.size := hb; omega, by simp; omega, (Fast.blk (ND.out.2.keep ((below_alloc1 Wd _).block _ hl)) (fun e => by have e : B = Wd.heap.size := e; omega))⟩)
  clear hp hW1
  go_wp2_with fail
  go_loopw [10] (fun v10 wx => ∃ i : Nat, v10 = .int .i64 (i : Int) ∧ i ≤ q ∧ ∃ X st, LW B w p wx X st (fun u => Blk u B 56 #[.int .i64 kd.1, .int .i64 kd.2.1, .int .i64 kd.2.2]) ∧ st.L = l.take i ∧ st.bl = 0) (fun v10 _ => q - (intOf v10).toNat)
  case atStart => exact ⟨0, rfl, Nat.zero_le _, _, _, N1.out, rfl, rfl⟩
  case round =>
    obtain ⟨i, rfl, hi, X, st, hn, hL, hb⟩ := hrel
    have N := Lib.hid hn
    have HLt := Lib.hid hL
    have Hbl := Lib.hid hb
    clear hn hL hb N1
    by_cases hiq : i < q
    · have z0 : decide ((i : Int) < (q : Int)) = true := by rw [decide_eq_true_eq]; omega
      have z0' : decide (i < q) = true := decide_eq_true hiq
      have hqi : (i : Int) < (q : Int) := by omega
      have hil : i < l.length := by rw [Hq.out]; exact hiq
      obtain ⟨bD, oD, A1, c1, A2, c2, A3, c3, A4, c4, rfl, hbD, hcs, hN⟩ := HD.out.at_ hil
      obtain ⟨n, hn⟩ : ∃ n, l[i] = n := ⟨_, rfl⟩
      rw [hn] at hcs hN
      have Hn := Lib.hid (show l.take (i + 1) = l.take i ++ [n] from by rw [List.take_succ_eq_append_getElem hil, hn])
      obtain ⟨k0, e0⟩ : ∃ k, n.h = k := ⟨_, rfl⟩
      obtain ⟨k1, e1⟩ : ∃ k, n.ks.length = k := ⟨_, rfl⟩
      obtain ⟨k2, e2⟩ : ∃ k, n.ps.length = k := ⟨_, rfl⟩
      obtain ⟨k3, e3⟩ : ∃ k, n.gs.length = k := ⟨_, rfl⟩
      obtain ⟨k4, e4⟩ : ∃ k, n.cs.length = k := ⟨_, rfl⟩
      rw [e0, e1, e2, e3, e4] at hcs hN
      have KS := Lib.hid (fun (V : World) (hV : Below B w V) => show (fun u : World => u.cell? ⟨bD, oD + i * 5, none⟩ = some (.int .i64 k0) ∧ u.cell? ⟨bD, oD + i * 5 + 1, none⟩ = some (.slice A1 k1 c1) ∧ u.cell? ⟨bD, oD + i * 5 + 2, none⟩ = some (.slice A2 k2 c2) ∧ u.cell? ⟨bD, oD + i * 5 + 3, none⟩ = some (.slice A3 k3 c3) ∧ u.cell? ⟨bD, oD + i * 5 + 4, none⟩ = some (.slice A4 k4 c4)) V from ⟨(hV.cell (p := ⟨bD, _, none⟩) hbD).trans hcs.1, (hV.cell (p := ⟨bD, _, none⟩) hbD).trans hcs.2.1, (hV.cell (p := ⟨bD, _, none⟩) hbD).trans hcs.2.2.1, (hV.cell (p := ⟨bD, _, none⟩) hbD).trans hcs.2.2.2.1, (hV.cell (p := ⟨bD, _, none⟩) hbD).trans hcs.2.2.2.2⟩)
      have KN := Lib.hid (fun (V : World) (hV : Below B w V) => (hN.below hV).more (show B ≤ V.heap.size by have := hV.size; omega))
      clear hn hcs hN hil e0 e1 e2 e3 e4
      have HFe := Lib.hid (few_any (KN.out _ N.out.bel))
      obtain ⟨d0, d1, d2, d3, d4⟩ := KS.out _ N.out.bel
      by_cases hfw : FewOk n
      · rw [decide_eq_true hfw] at HFe
        have Hfw := Lib.hid hfw
        clear hfw
        go_upto_region 9 with (go_at_call 18; (with_reducible refine HFe.out.mono ?_); rintro e w3 ⟨rfl, b3⟩; (have N3 := Lib.hid (N.out.below b3)); clear b3)
        clear d0 d1 d2 d3 d4 HFe N
        obtain ⟨A0, c0, vs, hm⟩ := N3.out.rep
        have HM := Lib.hid hm
        obtain ⟨m, hml⟩ : ∃ m, m = st.L.length := ⟨_, rfl⟩
        have Hml := Lib.hid hml
        have hm30 : m ≤ 30 := by rw [hml, HLt.out, List.length_take]; omega
        have y0 : w3.cell? ⟨p, 0, none⟩ = some (.slice A0 m c0) := by rw [hml]; exact hm.blk.cell 0
        have Yp := Lib.hid (fun (V : World) (h : Below w3.heap.size w3 V) => show V.cell? ⟨p, 0, none⟩ = some (.slice A0 m c0) from (cell_heap (h.block p (HM.out.lt p HM.out.hp))).trans y0)
        have HRow := Lib.hid (show w3.ownsRow 0 35 5 (.slice A0 m c0) m (ncs vs) from by rw [hml]; exact hm.row)
        have Hhr := Lib.hid (show ∀ b, (Value.slice A0 m c0).ownBlock = some b → X b ∧ b ≠ p from by rw [hml]; exact hm.hr)
        have HNn := Lib.hid (fun (V : World) (hV : Below w3.heap.size w3 V) => node_new (KN.out V (N3.out.below hV).bel) Hfw.out)
        obtain ⟨li, hli, hlz, hls, hlb⟩ := nd_parts
        have hbc : Below w3.heap.size w3 w3.drew := (Below.refl _ _).drew
        have hl1 : ldL50 = Op.load 62 (.tmp 49) := rfl
        clear hm hml
        rw [← hl1]
        go_region_held3 (fun u => u.cell? ⟨bD, oD + i * 5, none⟩ = some (.int .i64 k0) ∧ u.cell? ⟨bD, oD + i * 5 + 1, none⟩ = some (.slice A1 k1 c1) ∧ u.cell? ⟨bD, oD + i * 5 + 2, none⟩ = some (.slice A2 k2 c2) ∧ u.cell? ⟨bD, oD + i * 5 + 3, none⟩ = some (.slice A3 k3 c3) ∧ u.cell? ⟨bD, oD + i * 5 + 4, none⟩ = some (.slice A4 k4 c4)) (first | exact KS.out _ (N3.out.below hbc).bel | exact KS.out _ KB7.out | exact KS.out _ KB8.out | exact KS.out _ N9.out.bel) (first
          | (go_at_call 20; ((with_reducible refine (HNn.out _ hbc).mono ?_); rintro e w5 ⟨v5, rfl, n5, b5⟩; (obtain ⟨D1, d1, D2, d2, D3, d3, D4, d4, e5, -⟩ := n5 w5 (Nat.le_refl _) fun _ _ _ => rfl); subst e5; have H4 := Lib.hid hbc; have H5 := Lib.hid b5; have hbc := hbc.trans (b5.mono hbc.size); have N5 := Lib.hid n5; have yp5 := Yp.out _ hbc; (obtain ⟨q1, e1'⟩ : ∃ k, k = n.ks.length := ⟨_, rfl⟩); (obtain ⟨q2, e2'⟩ : ∃ k, k = n.ps.length := ⟨_, rfl⟩); (obtain ⟨q3, e3'⟩ : ∃ k, k = n.gs.length := ⟨_, rfl⟩); (obtain ⟨q4, e4'⟩ : ∃ k, k = n.cs.length := ⟨_, rfl⟩); (obtain ⟨q0, e0'⟩ : ∃ k, k = n.h := ⟨_, rfl⟩); rw [← e0', ← e1', ← e2', ← e3', ← e4'] at N5 ⊢; clear e0' e1' e2' e3' e4'; have hb7 := hbc.trans ((below_alloc1 w5 (.cells #[.int .i64 q0, .slice D1 q1 d1, .slice D2 q2 d2, .slice D3 q3 d3, .slice D4 q4 d4] 35)).mono hbc.size); have B7 := Lib.hid hb7; have KB7 := Lib.hid (N3.out.below hb7).bel; have yp7 := Yp.out _ hb7; clear n5 b5 hb7))
          | (refine step_append3 (base := 0) _ rfl (.tmp 50) (.tmp 56) _ rfl Try.underlying62 hli hlz hls hlb rfl (by decide) rfl (own_keep HRow.out fun b _ hlt => B7.out.block b hlt) (m := 1) (news := [.int .i64 q0, .slice D1 q1 d1, .slice D2 q2 d2, .slice D3 q3 d3, .slice D4 q4 d4]) rfl rfl (by simp) (Nat.le_refl _) sl_five_ (by simp [Value.oneCell']) (by unfold maxLen; omega) (by omega) (Nat.zero_le _) ?_; intro v8 w8 h1 h2 h3; (obtain ⟨A', c', rfl⟩ := own_slice h1); have hp8 := sv_app B7.out h2 (fun e => (Hhr.out p e).2 rfl) (HM.out.lt p HM.out.hp); have BP := HM.out.blk.keep hp8; have fz := BP.frozen 0; have cl := BP.cell 0; (obtain ⟨T9, hT9⟩ : ∃ W, w8.setCell ⟨p, 0, none⟩ (.slice A' (m + 1) c') = W := ⟨_, rfl⟩); have MP := MemR.push (b1 := T9.heap.size) Hml.out HM.out (.refl _ _) HM.out.lt (Nat.le_refl _) H4.out H5.out N5.out Hfw.out (below_alloc1 w5 _) h2 h1 h3 hT9 (.refl _ _) (by omega); have N9 := Lib.hid (N3.out.stp MP.1 MP.2); have KB8 := Lib.hid (show Below B w w8 from ⟨h2.os.trans KB7.out.os, h2.tape.trans KB7.out.tape, h2.output.trans KB7.out.output, Nat.le_trans KB7.out.size h2.size, fun b hb => (h2.block b (Nat.lt_of_lt_of_le hb (Nat.le_trans N3.out.sz B7.out.size)) (fun e => by have e1 := (Hhr.out b e.symm).1; have e2 := N3.out.ge b e1; omega)).trans (KB7.out.block b hb)⟩); clear h1 h2 h3 MP BP hp8))
        all_goals
          go_wp2_with fail
          go_roundw
          case rel => exact ⟨i + 1, by go_num, by omega, _, _, N9.out, by show st.L ++ [n] = _; rw [Hn.out, HLt.out], Hbl.out⟩
          case measure => simp [intOf]; omega
      · rw [decide_eq_false hfw] at HFe
        go_wp2_with (first
          | (go_at_call 18; (with_reducible refine HFe.out.mono ?_); rintro e w3 ⟨rfl, b3⟩; (have N3 := Lib.hid (N.out.below b3)); clear b3)
          | (go_at_call 30; (with_reducible refine (AW.out _ N3.out.bel).mono ?_); rintro e w4 ⟨rfl, b4⟩; (have B4 := Lib.hid b4); clear b4))
        go_ret
        exact ⟨rfl, B4.out⟩
    · have hiq : i = q := by omega
      subst hiq
      have z0 : decide ((i : Int) < (i : Int)) = false := by rw [decide_eq_false_iff_not]; omega
      have z0' : decide (i < i) = false := by rw [decide_eq_false_iff_not]; omega
      have kc := N.out.now
      have z1 := kc.cell 0
      have z2 := kc.cell 1
      have z3 := kc.cell 2
      go_upto_region 11 with fail
      clear z1 z2 z3 kc
      obtain ⟨xb, hxb⟩ : ∃ b, wr.heap.size = b := ⟨_, rfl⟩
      obtain ⟨W2, hW2⟩ : ∃ W, wr.alloc (.cells #[.int .i64 kd.1, .int .i64 kd.2.1, .int .i64 kd.2.2, .int .i64 ht] 66) = W := ⟨_, rfl⟩
      rw [hW2, hxb]
      have N2 := Lib.hid (by have := (N.out.new 66 #[.int .i64 kd.1, .int .i64 kd.2.1, .int .i64 kd.2.2, .int .i64 ht]).imp (K' := fun u => Blk u xb 66 #[.int .i64 kd.1, .int .i64 kd.2.1, .int .i64 kd.2.2, .int .i64 ht]) (fun u h => by rw [hxb] at h; exact h.2); rw [hW2] at this; exact this)
      clear hxb hW2 N
      obtain ⟨LL, hLL⟩ : ∃ L, st.L = L := ⟨_, rfl⟩
      have HLL := Lib.hid hLL
      have x0 := N2.out.now.cell 0
      have x1 := N2.out.now.cell 1
      have x2 := N2.out.now.cell 2
      have x3 := N2.out.now.cell 3
      have HA := Lib.hid (tall_w (h := ht) N2.out.rep Hbl.out HKR.out)
      unfold AwO memV Tr.rootV at HA
      rw [hLL] at HA
      clear hLL
      go_upto_region 12 with (go_at_call 35; (with_reducible refine HA.out.mono ?_); rintro e w3 ⟨X3, s3, er, A3, n3, c3, rfl, r3, t3, l3, b3, hc⟩; (have N3 := Lib.hid (N2.out.stp r3 t3)); (have L3 := Lib.hid l3); (have B3 := Lib.hid b3); (have CA := Lib.hid hc); clear r3 t3 l3 b3 hc)
      clear x0 x1 x2 x3 HA
      have x0 := N3.out.now.cell 0
      have x1 := N3.out.now.cell 1
      have x2 := N3.out.now.cell 2
      have x3 := N3.out.now.cell 3
      have HNo := Lib.hid (tnodes_w (h := ht) N3.out.rep B3.out HKR.out)
      unfold NwO memV Tr.rootV at HNo
      rw [L3.out] at HNo
      go_upto_region 13 with (go_at_call 41; (with_reducible refine HNo.out.mono ?_); rintro e w4 ⟨X4, s4, fr, A4, n4, c4, rfl, r4, t4, l4, b4, hc⟩; (have N4 := Lib.hid (N3.out.stp r4 t4)); (have L4 := Lib.hid (l4)); (have T4 := Lib.hid t4); (have CN := Lib.hid hc); clear r4 t4 l4 b4 hc)
      clear x0 x1 x2 x3 HNo
      obtain ⟨E, hE⟩ : ∃ E : List Tr.E, n3 = E.length ∧ Tr.Asc E ∧ (E = [] ∨ Fast X4 w4 fun u => SlC u u.heap.size A3 c3 E.length (evs E)) := by
        rcases CA.out with ⟨hR, -, hn, -, hf⟩ | ⟨-, -, hn⟩
        · exact ⟨_, hn, hR.2.2.asc, .inr (by have := hf.step T4.out; rw [hn] at this; exact this)⟩
        · exact ⟨[], hn, List.Pairwise.nil, .inl rfl⟩
      have HE := Lib.hid hE
      have HN3 := Lib.hid (show n3 ≤ 300000 from by
        rcases CA.out with ⟨-, -, -, h, -⟩ | ⟨-, -, h⟩
        · exact h
        · omega)
      obtain ⟨R, hR⟩ : ∃ R : Bool, (R = true ↔ Tr.RightP LL kd.1 ht 0 512) := by
        by_cases h : Tr.RightP LL kd.1 ht 0 512
        · exact ⟨true, iff_of_true rfl h⟩
        · exact ⟨false, iff_of_false (by simp) h⟩
      have HR := Lib.hid hR
      have HEr := Lib.hid (show (er == 0) = R ∧ (R = false → n3 = 0) from by
        rcases CA.out with ⟨h, rfl, -⟩ | ⟨h, he, hn⟩
        · have h1 := HR.out.2 h
          subst h1
          exact ⟨rfl, fun h => by cases h⟩
        · have h1 : R = false := by
            cases hr : R with
            | false => rfl
            | true => exact (h (HR.out.1 hr)).elim
          subst h1
          exact ⟨beq_eq_false_iff_ne.2 he, fun _ => hn⟩)
      have HFr := Lib.hid (show (fr == 0) = R ∧ (R = false → n4 = 0) from by
        rcases CN.out with ⟨h, rfl⟩ | ⟨h, he, hn⟩
        · have h1 := HR.out.2 h
          subst h1
          exact ⟨rfl, fun h => by cases h⟩
        · have h1 : R = false := by
            cases hr : R with
            | false => rfl
            | true => exact (h (HR.out.1 hr)).elim
          subst h1
          exact ⟨beq_eq_false_iff_ne.2 he, fun _ => hn⟩)
      clear hE hR CA CN
      have LS4 := Lib.hid (show s4.L = LL from by rw [L4.out])
      obtain ⟨A0, c0, vs, hm⟩ := N4.out.rep
      obtain ⟨m, hml⟩ : ∃ m, s4.L.length = m := ⟨_, rfl⟩
      have y0 : w4.cell? ⟨p, 0, none⟩ = some (.slice A0 m c0) := by rw [← hml]; exact hm.blk.cell 0
      have Hml := Lib.hid hml
      clear hm hml
      have x0 := N4.out.now.cell 0
      have x1 := N4.out.now.cell 1
      have x2 := N4.out.now.cell 2
      have x3 := N4.out.now.cell 3
      go_cut [16] from 83 to 96 (fun v16 wx => v16 = .bool R ∧ Below w4.heap.size w4 wx)
      case first =>
        have HRt := Lib.hid (right_is p s4 ht.toNat kd ht 0 512 R N4.out.rep HKR.out (by have := HHT.out; omega) rfl (by rw [LS4.out]; exact HR.out))
        by_cases hm0 : 0 < m
        · have t0 : decide ((0 : Int) < (m : Int)) = true := by rw [decide_eq_true_eq]; omega
          have t0' : decide (0 < m) = true := decide_eq_true hm0
          go_wp2_with (go_at_call 34; (with_reducible refine HRt.out.mono ?_); rintro e w5 ⟨rfl, b5⟩; (have B5 := Lib.hid b5); clear b5)
          go_meet
          exact ⟨rfl, B5.out⟩
        · have t0 : decide ((0 : Int) < (m : Int)) = false := by rw [decide_eq_false_iff_not]; omega
          have t0' : decide (0 < m) = false := decide_eq_false hm0
          have hRf : R = false := by
            cases hr : R with
            | false => rfl
            | true =>
              have h1 := (HR.out.1 hr).in_.1
              have h2 : LL.length = m := by rw [← LS4.out]; exact Hml.out
              unfold Tr.In at h1
              omega
          go_wp2_with fail
          go_meet
          exact ⟨by rw [hRf], Below.refl _ _⟩
      case rest =>
        obtain ⟨rfl, hb5⟩ := hcut
        have N5 := Lib.hid (N4.out.below hb5)
        have HE5 := Lib.hid (show n3 = E.length ∧ Tr.Asc E ∧ (E = [] ∨ Fast X4 wc fun u => SlC u u.heap.size A3 c3 E.length (evs E)) from ⟨HE.out.1, HE.out.2.1, HE.out.2.2.imp id fun h => h.below hb5⟩)
        clear hb5 N4 HE x0 x1 x2 x3 y0 T4
        go_upto_region 14 with fail
        go_cut [16, 120] from 97 to 119 (fun _ v120 wx => v120 = .bool false ∧ wx = wc)
        case first =>
          have g1 := HEr.out.1
          have g2 := HFr.out.1
          cases hR : R with
          | true =>
            rw [hR] at g1 g2
            go_wp2_with fail
            go_meet
            exact ⟨rfl, rfl⟩
          | false =>
            rw [hR] at g1 g2
            have g3 : ((n3 : Int) != 0) = false := by rw [HEr.out.2 hR]; rfl
            have g4 : ((n4 : Int) != 0) = false := by rw [HFr.out.2 hR]; rfl
            go_wp2_with fail
            go_meet
            exact ⟨rfl, rfl⟩
        case rest =>
          obtain ⟨rfl, rfl⟩ := hcut
          obtain ⟨nE, hnE⟩ : ∃ n, E.length = n := ⟨_, rfl⟩
          have HnE := Lib.hid hnE
          have hn3 : n3 = nE := by rw [← hnE]; exact HE5.out.1
          subst hn3
          clear hnE HEr HFr HR Hml LS4 B3 L3 L4 HLL
          go_wp2_with fail
          go_loopw [17] (fun v17 wx => ∃ j d : Nat, v17 = .int .i64 (j : Int) ∧ 1 ≤ j ∧ (j ≤ n3 ∨ j = 1) ∧ wx = wc.drewN d) (fun v17 _ => n3 - (intOf v17).toNat)
          case atStart => exact ⟨1, 0, rfl, Nat.le_refl _, .inr rfl, (drewN_zeroN wc).symm⟩
          case round =>
            obtain ⟨j, dn, rfl, hj1, hj2, rfl⟩ := hrel
            by_cases hjn : j < n3
            · have z0 : decide ((j : Int) < (n3 : Int)) = true := by rw [decide_eq_true_eq]; omega
              have z0' : decide (j < n3) = true := decide_eq_true hjn
              have hjj : (1 : Int) ≤ (j : Int) ∧ (j : Int) < (n3 : Int) := by omega
              have hjl : j < E.length := by rw [HnE.out]; exact hjn
              have hsl : SlC wc wc.heap.size A3 c3 E.length (evs E) := by
                rcases HE5.out.2.2 with h | h
                · rw [h] at hjl; cases hjl
                · exact h.now
              obtain ⟨jj, hjq⟩ : ∃ a, j = a + 1 := ⟨j - 1, by omega⟩
              obtain ⟨bE, oE, eA, -, c0, -⟩ := hsl.ev (i := j) hjl
              obtain ⟨bE', oE', eA', -, c1', -⟩ := hsl.ev (i := jj) (by omega)
              subst eA
              injection eA' with e
              injection e with e1 e2
              subst e1
              subst e2
              have hlt : (E.getD jj Tr.z).k < (E.getD j Tr.z).k := by
                rw [List.getD_eq_getElem?_getD, List.getD_eq_getElem?_getD, List.getElem?_eq_getElem hjl, List.getElem?_eq_getElem (show jj < E.length by omega)]
                exact List.pairwise_iff_getElem.1 HE5.out.2.1 jj j (by omega) hjl (by omega)
              generalize (E.getD j Tr.z).k = ka at *
              generalize (E.getD jj Tr.z).k = kb at *
              have t0 : decide (ka ≤ kb) = false := by rw [decide_eq_false_iff_not]; omega
              have hn60 : n3 ≤ 300000 := HN3.out
              have hsub : IntKind.i64.wrap ((j : Int) - 1) = (jj : Int) := by rw [IntWalk.i64_in _ (by omega)]; omega
              have hsub2 : (j : Int) - 1 = (jj : Int) := by omega
              clear hsl hjq hjl hlt
              have hjl2 : (0 : Int) ≤ (jj : Int) ∧ (jj : Int) < (n3 : Int) := by omega
              go_wp2_with fail
              go_quiet (fail)
              go_wp2_with fail
              go_roundw
              case rel => exact ⟨j + 1, _, by go_num, by omega, .inl (by omega), rfl⟩
              case measure => simp [intOf]; omega
            · have z0 : decide ((j : Int) < (n3 : Int)) = false := by rw [decide_eq_false_iff_not]; omega
              have z0' : decide (j < n3) = false := decide_eq_false hjn
              have N6 := Lib.hid (N5.out.below (show Below wc.heap.size wc (wc.drewN dn) from ⟨rfl, rfl, rfl, Nat.le_refl _, fun _ _ => rfl⟩))
              obtain ⟨Wn, hWn⟩ : ∃ W, wc.drewN dn = W := ⟨_, rfl⟩
              rw [hWn] at N6
              rw [hWn]
              clear hWn N5 HE5 HnE HN3
              go_wp2_with fail
              go_loopw [18] (fun v18 wx => ∃ a : Nat, v18 = .int .i64 (a : Int) ∧ a ≤ r ∧ ∃ X st, LW B w p wx X st (fun u => Blk u xb 66 #[.int .i64 kd.1, .int .i64 kd.2.1, .int .i64 kd.2.2, .int .i64 ht])) (fun v18 _ => r - (intOf v18).toNat)
              case atStart => exact ⟨0, rfl, Nat.zero_le _, _, _, N6.out⟩
              case round =>
                obtain ⟨a, rfl, ha, X, st, hn⟩ := hrel
                have N := Lib.hid hn
                clear hn N6
                by_cases har : a < r
                · have z0 : decide ((a : Int) < (r : Int)) = true := by rw [decide_eq_true_eq]; omega
                  have z0' : decide (a < r) = true := decide_eq_true har
                  have haa : (a : Int) < (r : Int) := by omega
                  have har50 : r ≤ 20 := by omega
                  have hcap := (HK.out _ N.out.bel).le
                  have hak : a < ck := by omega
                  obtain ⟨bA, oA, hAe, -, -⟩ := (HK.out _ N.out.bel).int (i := a) (by rw [Hr.out]; exact har)
                  obtain ⟨key, hkey⟩ : ∃ x, Nd.at_ ks a = x := ⟨_, rfl⟩
                  subst hAe
                  have KA := Lib.hid (fun (V : World) (hV : Below B w V) => show V.cell? ⟨bA, oA + a, none⟩ = some (.int .i64 key) ∧ SlC V V.heap.size (some ⟨bA, oA + a, none⟩) (ck - a) 1 (ivs [key]) from by
                    obtain ⟨b', o', e, -, c0⟩ := (HK.out V hV).int (i := a) (by rw [Hr.out]; exact har)
                    have h1 := slc_int (HK.out V hV) (k := a) (by rw [Hr.out]; exact har) Hr.out.symm
                    injection e with e
                    injection e with e1 e2
                    subst e1
                    subst e2
                    rw [hkey] at c0 h1
                    exact ⟨c0, h1⟩)
                  clear hkey hcap
                  have SV : ∀ (V : World) (X' : Nat → Prop) (s' : Tr.MSt), MRep p V X' s' → Stp wr X V X' → (fun u : World => u.cell? ⟨xb, 0, none⟩ = some (.int .i64 kd.1) ∧ u.cell? ⟨xb, 1, none⟩ = some (.int .i64 kd.2.1) ∧ u.cell? ⟨xb, 2, none⟩ = some (.int .i64 kd.2.2) ∧ u.cell? ⟨xb, 3, none⟩ = some (.int .i64 ht) ∧ u.cell? ⟨bA, oA + a, none⟩ = some (.int .i64 key)) V := fun V X' s' hr hs => by
                    have f := N.out.stp hr hs
                    have e := f.now
                    exact ⟨e.cell 0, e.cell 1, e.cell 2, e.cell 3, (KA.out V f.bel).1⟩
                  have KS := Lib.hid (fun (V : World) (hV : Below wr.heap.size wr V) => SV V X st (N.out.below hV).rep (.of_below X hV))
                  have HG := Lib.hid (fun (V : World) (hV : Below wr.heap.size wr V) => tget_w (h := ht) (key := key) (N.out.below hV).rep HKR.out)
                  unfold memV Tr.rootV at HG
                  have XLT := Lib.hid (show ∀ b, X b → b < wr.heap.size from fun b hb => N.out.rep.lt hb)
                  go_upto_region 24 with fail
                  go_cut [19, 20, 21] from 145 to 156 (fun v19 v20 v21 wx => ∃ (yb : Nat) (x : Tr.E) (b : Bool) (er : Int) (X' : Nat → Prop) (s : Tr.MSt), v19 = .pointer (some ⟨yb, 0, none⟩) ∧ v20 = .bool b ∧ v21 = .int .i64 er ∧ LW B w p wx X' s (fun u => Blk u xb 66 #[.int .i64 kd.1, .int .i64 kd.2.1, .int .i64 kd.2.2, .int .i64 ht] ∧ Blk u yb 84 #[.int .i64 x.k, .int .i64 x.p.1, .int .i64 x.p.2.1, .int .i64 x.p.2.2, .int .i64 x.g]) ∧ (b = true → er = 0))
                  case first =>
                    have hbc : Below wr.heap.size wr wr.drew := (Below.refl _ _).drew
                    go_region_held3 (fun u => u.cell? ⟨xb, 0, none⟩ = some (.int .i64 kd.1) ∧ u.cell? ⟨xb, 1, none⟩ = some (.int .i64 kd.2.1) ∧ u.cell? ⟨xb, 2, none⟩ = some (.int .i64 kd.2.2) ∧ u.cell? ⟨xb, 3, none⟩ = some (.int .i64 ht) ∧ u.cell? ⟨bA, oA + a, none⟩ = some (.int .i64 key)) (first | exact KS.out _ hbc | exact KS.out _ (below_alloc1 wr (Obj.cells #[.int .i64 0, .int .i64 0, .int .i64 0, .int .i64 0, .int .i64 0] 84)).drew | exact KV.out _ (Below.refl _ _) | exact KV.out _ (below_alloc1 w9 _) | exact K5.out) (first
                      | (go_at_call 37; ((with_reducible refine (HG.out _ hbc).mono ?_); rintro e w9 ⟨X9, s9, x9, b9, er9, rfl, r9, t9, c9⟩; dsimp only [ev, evv]; have R9 := Lib.hid r9; have T9 := Lib.hid ((Stp.of_below X hbc).trans t9); have KV := Lib.hid (fun (V : World) (hV : Below w9.heap.size w9 V) => SV V X9 s9 ((N.out.stp R9.out T9.out).below hV).rep (T9.out.below hV)); have D9 := Lib.hid c9; clear r9 t9 c9))
                      | (go_at_call 37; (have GBz := (Blk.new wr 84 #[.int .i64 0, .int .i64 0, .int .i64 0, .int .i64 0, .int .i64 0]).keep (w' := (wr.alloc (Obj.cells #[.int .i64 0, .int .i64 0, .int .i64 0, .int .i64 0, .int .i64 0] 84)).drew) rfl); (have hbc := (below_alloc1 wr (Obj.cells #[.int .i64 0, .int .i64 0, .int .i64 0, .int .i64 0, .int .i64 0] 84)).drew); ((with_reducible refine (HG.out _ hbc).mono ?_); rintro e w9 ⟨X9, s9, x9, b9, er9, rfl, r9, t9, c9⟩; dsimp only [ev, evv]; have R9 := Lib.hid r9; have T9 := Lib.hid ((Stp.of_below X hbc).trans t9); have KV := Lib.hid (fun (V : World) (hV : Below w9.heap.size w9 V) => SV V X9 s9 ((N.out.stp R9.out T9.out).below hV).rep (T9.out.below hV)); have D9 := Lib.hid c9; have gb := GBz.keep (t9.chg.block _ GBz.lt fun hx => Nat.lt_irrefl _ (XLT.out _ hx)); have XF := Lib.hid (t9.far GBz.lt fun hx => Nat.lt_irrefl _ (XLT.out _ hx)); (obtain ⟨v1, v2, v3, v4, v5, p1, p2, p3, p4, p5, ⟨f1, f2, f3, f4, f5⟩, ⟨g1', g2', g3', g4', g5'⟩, Bk, Ck⟩ := blk_st5p gb (.int .i64 x9.k) (.int .i64 x9.p.1) (.int .i64 x9.p.2.1) (.int .i64 x9.p.2.2) (.int .i64 x9.g)); have BK := Lib.hid Bk; have CK := Lib.hid Ck; have NB := Lib.hid (lw_box5 N.out R9.out T9.out (Nat.le_refl _) Ck Bk XF.out); have K5 := Lib.hid (show (fun u : World => u.cell? ⟨xb, 0, none⟩ = some (.int .i64 kd.1) ∧ u.cell? ⟨xb, 1, none⟩ = some (.int .i64 kd.2.1) ∧ u.cell? ⟨xb, 2, none⟩ = some (.int .i64 kd.2.2) ∧ u.cell? ⟨xb, 3, none⟩ = some (.int .i64 ht) ∧ u.cell? ⟨bA, oA + a, none⟩ = some (.int .i64 key)) v5 from by have e := NB.out.now.1; exact ⟨e.cell 0, e.cell 1, e.cell 2, e.cell 3, (KA.out _ NB.out.bel).1⟩); clear r9 t9 c9 Bk Ck gb GBz)))
                    all_goals go_wp2_with fail
                    all_goals go_meet
                    all_goals first
                      | exact ⟨_, _, _, _, _, _, rfl, rfl, rfl, NB.out, D9.out⟩
                      | exact ⟨_, _, _, _, _, _, rfl, rfl, rfl, (N.out.stp R9.out T9.out).new _ _, D9.out⟩
                  case rest =>
                    obtain ⟨yb, x, b, er, X9, s9, rfl, rfl, rfl, hn, hbe⟩ := hcut
                    have N9 := Lib.hid (hn.imp (K' := (fun u => Blk u xb 66 #[.int .i64 kd.1, .int .i64 kd.2.1, .int .i64 kd.2.2, .int .i64 ht])) fun _ h => h.1)
                    clear hn KS SV HG XLT N
                    have KS := Lib.hid (fun (V : World) (hV : Below wc.heap.size wc V) => show (fun u : World => u.cell? ⟨xb, 0, none⟩ = some (.int .i64 kd.1) ∧ u.cell? ⟨xb, 1, none⟩ = some (.int .i64 kd.2.1) ∧ u.cell? ⟨xb, 2, none⟩ = some (.int .i64 kd.2.2) ∧ u.cell? ⟨xb, 3, none⟩ = some (.int .i64 ht)) V from by
                      have e := (N9.out.below hV).now
                      exact ⟨e.cell 0, e.cell 1, e.cell 2, e.cell 3⟩)
                    have HCt := Lib.hid (fun (V : World) (hV : Below wc.heap.size wc V) => tcut_w (h := ht) (N9.out.below hV).rep HKR.out (KA.out V (N9.out.below hV).bel).2 rfl (by decide))
                    unfold memV Tr.rootV at HCt
                    obtain ⟨i0, hi0, hs0⟩ : ∃ i, Try.prog.info? 3 = some i ∧ i.size = 1 := by
                      have h : (Try.prog.info? 3).map (fun i => i.size) = some 1 := by kernel_rfl
                      obtain ⟨i, hi, hz⟩ := Option.map_eq_some_iff.1 h
                      exact ⟨i, hi, hz⟩
                    have cut1 := run_slice_int (P := Try.prog) Try.underlying22 hi0 hs0 bA oA r ck a hak
                    have hw1 : IntKind.i64.wrap ((a : Int) + 1) = (a : Int) + 1 := IntWalk.i64_in _ (by omega)
                    clear hi0 hs0
                    have hgo : b = false ∨ er = 0 := by
                      cases b with
                      | false => exact .inl rfl
                      | true => exact .inr (hbe rfl)
                    clear hbe
                    go_upto_region 25 with fail
                    go_cut [20, 161] from 157 to 160 (fun _ v161 wx => v161 = .bool false ∧ wx = wc)
                    case first =>
                      rcases hgo with rfl | rfl
                      · go_wp2_with fail
                        go_meet
                        exact ⟨rfl, rfl⟩
                      · cases b with
                        | true =>
                          go_wp2_with fail
                          go_meet
                          exact ⟨rfl, rfl⟩
                        | false =>
                          go_wp2_with fail
                          go_meet
                          exact ⟨rfl, rfl⟩
                    case rest =>
                      obtain ⟨rfl, rfl⟩ := hcut
                      go_upto_region 27 with fail
                      have hbc : Below wc.heap.size wc wc.drew := (Below.refl _ _).drew
                      go_region_held3 (fun u => u.cell? ⟨xb, 0, none⟩ = some (.int .i64 kd.1) ∧ u.cell? ⟨xb, 1, none⟩ = some (.int .i64 kd.2.1) ∧ u.cell? ⟨xb, 2, none⟩ = some (.int .i64 kd.2.2) ∧ u.cell? ⟨xb, 3, none⟩ = some (.int .i64 ht)) (first | exact KS.out _ hbc | exact KV.out) (first
                        | (go_at_call 40; ((with_reducible refine (HCt.out _ hbc).mono ?_); rintro e w11 ⟨X11, s11, k11, h11, er11, rfl, r11, t11⟩; dsimp only; have N11 := Lib.hid ((N9.out.below hbc).stp r11 t11); have KV := Lib.hid (show (fun u : World => u.cell? ⟨xb, 0, none⟩ = some (.int .i64 kd.1) ∧ u.cell? ⟨xb, 1, none⟩ = some (.int .i64 kd.2.1) ∧ u.cell? ⟨xb, 2, none⟩ = some (.int .i64 kd.2.2) ∧ u.cell? ⟨xb, 3, none⟩ = some (.int .i64 ht)) w11 from ⟨N11.out.now.cell 0, N11.out.now.cell 1, N11.out.now.cell 2, N11.out.now.cell 3⟩); clear r11 t11)))
                      all_goals
                        go_wp2_with fail
                        go_roundw
                        case rel => exact ⟨a + 1, by go_num, by omega, _, _, N11.out⟩
                        case measure => simp [intOf]; omega
                · have har : a = r := by omega
                  subst har
                  have z0 : decide ((a : Int) < (a : Int)) = false := by rw [decide_eq_false_iff_not]; omega
                  have z0' : decide (a < a) = false := by rw [decide_eq_false_iff_not]; omega
                  go_wp2_with (go_at_call 30; (with_reducible refine (AW.out _ N.out.bel).mono ?_); rintro e w3 ⟨rfl, b3⟩; (have B3 := Lib.hid b3); clear b3)
                  go_ret
                  exact ⟨rfl, B3.out⟩
end Go.Proofs.Ytlcchefiicalpaa
