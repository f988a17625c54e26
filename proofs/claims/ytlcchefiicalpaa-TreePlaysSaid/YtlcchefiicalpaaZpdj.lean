/- The statements' do: a deed on a tree and on a map. -/
import Derived.Test.YtlcchefiicalpaaZpdh
import Derived.Test.YtlcchefiicalpaaZpdi
import Derived.BigRegion
import Derived.Deep.RegionHeld3
namespace Go.Proofs.Ytlcchefiicalpaa
open Go.RowKit
set_option maxRecDepth 8000 in
set_option maxHeartbeats 16000000 in
theorem do_cut {p : Nat} {w : World} {X G : Nat → Prop} {st : Tr.MSt} {k : Nd.T3} {h : Int} {m : List Tr.E} {N : Nat} {D0 P0 K0 : Option Addr} {d0 cp ck : Nat} {L : List Tr.E} {ks : List Int} (hr : MRep p w X st) (hc : Tr.Calm st N) (hk : Tr.RootOk st.L k h m)
    (hG : ∀ b, G b → b < w.heap.size) (hm : Fast (fun b => X b ∨ G b) w fun u => SlC u u.heap.size D0 d0 m.length (evs m)) (hL : Fast X w fun u => SlC u u.heap.size P0 cp L.length (evs L)) (hK : Fast X w fun u => SlC u u.heap.size K0 ck ks.length (ivs ks)) (hml : m.length ≤ 100000) (_hLl : L.length ≤ 300) (hkl : ks.length ≤ 300) (hN : N + (15 * (L.length + ks.length) + 6) ≤ 8000)  :
    Calls Try.prog 33 #[.pointer (some ⟨p, 0, none⟩), Tr.rootV k h, .agg #[.slice D0 m.length d0], .agg #[.bool true, .slice P0 L.length cp, .slice K0 ks.length ck]] w (DoO p w X G st (15 * ks.length + 6) (if Tr.KeysOk ks then Tr.cuts m ks else m)) := by
  obtain ⟨q, hq⟩ : ∃ q, m.length = q := ⟨_, rfl⟩
  obtain ⟨nl, hnl⟩ : ∃ q, L.length = q := ⟨_, rfl⟩
  obtain ⟨nk, hnk⟩ : ∃ q, ks.length = q := ⟨_, rfl⟩
  have N0 := Lib.hid (show DW p w X w X st fun u => SlC u u.heap.size D0 d0 m.length (evs m) ∧ SlC u u.heap.size P0 cp L.length (evs L) ∧ SlC u u.heap.size K0 ck ks.length (ivs ks) from ⟨hr, .refl _ _, (Fast.anti hm fun _ h => .inl h).and_ (hL.and_ hK)⟩)
  have HM0 := Lib.hid hm
  have HG := Lib.hid hG
  have Hc := Lib.hid hc
  have Hk := Lib.hid hk
  have hsv : st.sv = (st.L.length : Int) := hc.inv.1
  obtain ⟨ns, hns⟩ : ∃ n, st.L.length = n := ⟨_, rfl⟩
  have hns8 : ns ≤ 8001 := by rw [← hns]; exact hc.inv.2
  rw [hns] at hsv
  have Hsv := Lib.hid hsv
  have Hns := Lib.hid hns
  rw [hq, hnl, hnk]
  rw [hq] at hml
  rw [hnk] at hkl
  rw [hnl, hnk] at hN
  have Hq := Lib.hid hq
  have Hnl := Lib.hid hnl
  have Hnk := Lib.hid hnk
  unfold Tr.rootV
  clear hr hc hk hm hG hL hK hq hnl hnk hsv hns
  obtain ⟨Rm, hRm⟩ : ∃ R, (if Tr.KeysOk ks then Tr.cuts m ks else m) = R := ⟨_, rfl⟩
  rw [hRm]
  have HRm := Lib.hid hRm
  clear hRm
  go_enter Try.func33, Try.ntmps33
  go_upto_region 1 with fail
  obtain ⟨b0, hb0⟩ : ∃ b, w.heap.size = b := ⟨_, rfl⟩
  have M0 := N0
  rw [hb0]
  obtain ⟨U0, hU0⟩ : ∃ W, w.alloc (.cells #[.int .i64 k.1, .int .i64 k.2.1, .int .i64 k.2.2, .int .i64 h] 66) = W := ⟨_, rfl⟩
  rw [hU0]
  have M1 := Lib.hid (by have := M0.out.new 66 #[.int .i64 k.1, .int .i64 k.2.1, .int .i64 k.2.2, .int .i64 h]; rw [hU0, hb0] at this; exact this)
  obtain ⟨b1, hc0⟩ : ∃ b, b0 + 1 = b := ⟨_, rfl⟩
  have hb1 : U0.heap.size = b1 := by rw [← hU0, ← hc0, ← hb0]; simp
  rw [hc0]
  obtain ⟨U1, hU1⟩ : ∃ W, U0.alloc (.cells #[.slice D0 q d0] 71) = W := ⟨_, rfl⟩
  rw [hU1]
  have M2 := Lib.hid (by have := M1.out.new 71 #[.slice D0 q d0]; rw [hU1, hb1] at this; exact this)
  obtain ⟨b2, hc1⟩ : ∃ b, b1 + 1 = b := ⟨_, rfl⟩
  have hb2 : U1.heap.size = b2 := by rw [← hU1, ← hc1, ← hb1]; simp
  rw [hc1]
  obtain ⟨U2, hU2⟩ : ∃ W, U1.alloc (.cells #[.bool true, .slice P0 nl cp, .slice K0 nk ck] 77) = W := ⟨_, rfl⟩
  rw [hU2]
  have M3 := Lib.hid (by have := M2.out.new 77 #[.bool true, .slice P0 nl cp, .slice K0 nk ck]; rw [hU2, hb2] at this; exact this)
  obtain ⟨b3, hc2⟩ : ∃ b, b2 + 1 = b := ⟨_, rfl⟩
  have hb3 : U2.heap.size = b3 := by rw [← hU2, ← hc2, ← hb2]; simp
  rw [hc2]
  obtain ⟨U3, hU3⟩ : ∃ W, U2.alloc (.cells #[.int .i64 0, .int .i64 0, .int .i64 0, .int .i64 0] 66) = W := ⟨_, rfl⟩
  rw [hU3]
  have M4 := Lib.hid (by have := M3.out.new 66 #[.int .i64 0, .int .i64 0, .int .i64 0, .int .i64 0]; rw [hU3, hb3] at this; exact this)
  obtain ⟨b4, hc3⟩ : ∃ b, b3 + 1 = b := ⟨_, rfl⟩
  have hb4 : U3.heap.size = b4 := by rw [← hU3, ← hc3, ← hb3]; simp
  rw [hc3]
  obtain ⟨U4, hU4⟩ : ∃ W, U3.alloc (.cells #[.slice none 0 0] 71) = W := ⟨_, rfl⟩
  rw [hU4]
  have M5 := Lib.hid (by have := M4.out.new 71 #[.slice none 0 0]; rw [hU4, hb4] at this; exact this)
  have N5 := Lib.hid (show DW p w X U4 X st fun u => (SlC u u.heap.size D0 d0 m.length (evs m) ∧ SlC u u.heap.size P0 cp L.length (evs L) ∧ SlC u u.heap.size K0 ck ks.length (ivs ks)) ∧ Blk u b0 66 #[.int .i64 k.1, .int .i64 k.2.1, .int .i64 k.2.2, .int .i64 h] ∧ Blk u b1 71 #[.slice D0 q d0] ∧ Blk u b2 77 #[.bool true, .slice P0 nl cp, .slice K0 nk ck] ∧ Blk u b3 66 #[.int .i64 0, .int .i64 0, .int .i64 0, .int .i64 0] ∧ Blk u b4 71 #[.slice none 0 0] from M5.out.imp fun _ h => ⟨h.1.1.1.1.1, h.1.1.1.1.2, h.1.1.1.2, h.1.1.2, h.1.2, h.2⟩)
  have HB := Lib.hid (show w.heap.size ≤ b3 ∧ w.heap.size ≤ b4 ∧ b3 ≠ b4 ∧ b2 ≠ b3 ∧ b2 ≠ b4 ∧ b0 ≠ b3 ∧ b0 ≠ b4 ∧ b1 ≠ b3 ∧ b1 ≠ b4 from ⟨by omega, by omega, by omega, by omega, by omega, by omega, by omega, by omega, by omega⟩)
  have HX := Lib.hid (show (¬ X b3 ∧ b3 < U4.heap.size) ∧ (¬ X b4 ∧ b4 < U4.heap.size) from ⟨⟨fun h => by have := N0.out.rep.lt h; omega, N5.out.now.2.2.2.2.1.lt⟩, ⟨fun h => by have := N0.out.rep.lt h; omega, N5.out.now.2.2.2.2.2.lt⟩⟩)
  have hs := mrep_sv N5.out.rep
  rw [Hsv.out] at hs
  clear M0 M1 M2 M3 M4 M5 hb0 hb1 hb2 hb3 hb4 hc0 hc1 hc2 hc3 hU0 hU1 hU2 hU3 hU4
  have x0 := N5.out.now.2.1.cell 0
  have x1 := N5.out.now.2.1.cell 1
  have x2 := N5.out.now.2.1.cell 2
  have x3 := N5.out.now.2.1.cell 3
  have y0 := N5.out.now.2.2.1.cell 0
  have z0 := N5.out.now.2.2.2.1.cell 0
  have z1 := N5.out.now.2.2.2.1.cell 1
  have z2 := N5.out.now.2.2.2.1.cell 2
  go_upto_region 3 with fail
  clear hs
  by_cases hok : Tr.KeysOk ks
  · have H3 := Lib.hid (tcut N5.out.rep Hc.out Hk.out N5.out.now.1.2.2 rfl (by rw [Hnk.out]; omega) (keysOk_iff.1 hok))
    have H4 := Lib.hid (fun (V : World) (hV : Below U4.heap.size U4 V) => hV)
    clear H4
    rw [Hnk.out] at H3
    unfold memV Tr.rootV at H3
    have Hok := Lib.hid hok
    clear hok
    go_upto_region 4 with (go_at_call 40; (with_reducible refine H3.out.mono ?_); rintro e w6 ⟨X6, s6, k6, h6, rfl, r6, t6, ⟨j6, m6, l6⟩, o6⟩; unfold Tr.rootV; dsimp only; (have N6 := Lib.hid (N5.out.go r6 t6)); (have O6 := Lib.hid o6); (have M6 := Lib.hid m6); (have F6 := Lib.hid (show (¬ X6 b3 ∧ ¬ X6 b4) from ⟨t6.far HX.out.1.2 HX.out.1.1, t6.far HX.out.2.2 HX.out.2.1⟩)); clear r6 t6 m6 o6)
    obtain ⟨b5, hb5⟩ : ∃ b, w6.heap.size = b := ⟨_, rfl⟩
    obtain ⟨U6, hU6⟩ : ∃ W, w6.alloc (.cells #[.int .i64 k6.1, .int .i64 k6.2.1, .int .i64 k6.2.2, .int .i64 h6] 66) = W := ⟨_, rfl⟩
    rw [hU6, hb5]
    have G5 := Lib.hid (show b3 < b5 ∧ b4 < b5 from ⟨by rw [← hb5]; exact N6.out.now.2.2.2.2.1.lt, by rw [← hb5]; exact N6.out.now.2.2.2.2.2.lt⟩)
    have N7 := Lib.hid (by have := N6.out.new 66 #[.int .i64 k6.1, .int .i64 k6.2.1, .int .i64 k6.2.2, .int .i64 h6]; rw [hU6, hb5] at this; exact this)
    clear x0 x1 x2 x3 y0 z0 z1 z2 hb5 hU6 H3
    have y0 := N7.out.now.1.2.2.1.cell 0
    have z2 := N7.out.now.1.2.2.2.1.cell 2
    have H8 := Lib.hid (mcutF_any N7.out.now.1.1.1 N7.out.now.1.1.2.2 (by rw [Hq.out]; exact hml) (by rw [Hnk.out]; omega))
    rw [Hnk.out, Hq.out] at H8
    obtain ⟨Q, hQ⟩ : ∃ Q, Tr.cuts m ks = Q := ⟨_, rfl⟩
    obtain ⟨nQ, hnQ⟩ : ∃ n, Q.length = n := ⟨_, rfl⟩
    rw [hQ] at H8 O6
    obtain rfl : Q = Rm := hQ.symm.trans ((if_pos Hok.out).symm.trans HRm.out)
    rw [hnQ] at H8
    have HnQ := Lib.hid hnQ
    have H8b := Lib.hid (show Calls Try.prog 46 #[.agg #[.slice D0 q d0], .slice K0 nk ck] U6 (fun e w' => ∃ D d, e = .returned (.tuple #[.agg #[.slice D nQ d], .bool true]) ∧ SlC w' w'.heap.size D d nQ (evs Q) ∧ (∀ a, D = some a → U6.heap.size ≤ a.block) ∧ Below U6.heap.size U6 w') from H8.out.mono fun e w' he => by
      obtain ⟨(⟨hn, -⟩ | ⟨-, D, d, e1, e2, e3⟩), hb⟩ := he
      · exact (hn Hok.out).elim
      · exact ⟨D, d, e1, e2, e3, hb⟩)
    clear H8 hQ hnQ
    go_upto_region 5 with (go_at_call 46; (with_reducible refine H8b.out.mono ?_); rintro e w8 ⟨D8, d8, rfl, e2, e3, b8⟩; dsimp only; (have N8 := Lib.hid (N7.out.below b8)); (have S8 := Lib.hid e2); (have F8 := Lib.hid (show ∀ a, D8 = some a → ¬ X6 a.block ∧ a.block ≠ b3 ∧ a.block ≠ b4 ∧ ¬ G a.block from fun a ha => by have h0 := N7.out.stp.chg.size; have h1 := e3 a ha; have h2 := N7.out.now.1.2.2.2.2.1.lt; have h3 := N7.out.now.1.2.2.2.2.2.lt; exact ⟨fun hx => by have := N7.out.rep.lt hx; omega, by omega, by omega, fun hg => by have := HG.out _ hg; omega⟩)); clear e2 e3 b8)
    obtain ⟨b6, hb6⟩ : ∃ b, w8.heap.size = b := ⟨_, rfl⟩
    obtain ⟨U8, hU8⟩ : ∃ W, w8.alloc (.cells #[.slice D8 nQ d8] 71) = W := ⟨_, rfl⟩
    rw [hU8, hb6]
    have G6 := Lib.hid (show b5 < b6 from by rw [← hb6]; exact N8.out.now.2.lt)
    have N9 := Lib.hid (by have := N8.out.new 71 #[.slice D8 nQ d8]; rw [hU8, hb6] at this; exact this)
    have S9 := Lib.hid (show SlC U8 U8.heap.size D8 d8 nQ (evs Q) from by have hb : Below w8.heap.size w8 U8 := hU8 ▸ below_alloc1 w8 _; exact (S8.out.below hb).more hb.size)
    clear hb6 hU8 y0 z2 H8b
    obtain ⟨jn, hj⟩ : ∃ j : Nat, j6 = j := ⟨_, rfl⟩
    have hsv6 : s6.sv = ((ns + jn : Nat) : Int) := by
      have h1 := (M6.out.inv Hc.out.inv).1
      obtain ⟨l, h2, h3⟩ := M6.out.L
      rw [h1, h2, List.length_append, Hns.out, h3, hj]
    have hj6 : jn ≤ 15 * nk + 6 := by rw [← hj]; exact l6
    have v2 := mrep_sv N9.out.rep
    rw [hsv6] at v2
    have hz : (((ns + jn : Nat) : Int) - (ns : Int)) = (jn : Int) := by omega
    have hd7 : decide ((jn : Int) ≤ 3 * ((nk : Int) + 1) * 6) = true := by rw [decide_eq_true_eq]; omega
    have KS := Lib.hid (fun (V : World) (hc : Chg (fun b => b = b3 ∨ b = b4) U8 V) => show (fun u : World => u.cell? ⟨b5, 0, none⟩ = some (.int .i64 k6.1) ∧ u.cell? ⟨b5, 1, none⟩ = some (.int .i64 k6.2.1) ∧ u.cell? ⟨b5, 2, none⟩ = some (.int .i64 k6.2.2) ∧ u.cell? ⟨b5, 3, none⟩ = some (.int .i64 h6) ∧ u.cell? ⟨b6, 0, none⟩ = some (.slice D8 nQ d8) ∧ u.cell? ⟨p, 2, none⟩ = some (.int .i64 ((ns + jn : Nat) : Int)) ∧ u.cell? ⟨b2, 2, none⟩ = some (.slice K0 nk ck)) V from by
      have kp : ∀ b, b < U8.heap.size → b ≠ b3 → b ≠ b4 → V.heap[b]? = U8.heap[b]? := fun b hl h3 h4 => hc.block b hl fun hg => hg.elim h3 h4
      have g5 := G5.out
      have g6 := G6.out
      have hb := HB.out
      have B5 := N9.out.now.1.2.keep (kp _ N9.out.now.1.2.lt (by omega) (by omega))
      have B6 := N9.out.now.2.keep (kp _ N9.out.now.2.lt (by omega) (by omega))
      have B2 := N9.out.now.1.1.2.2.2.1.keep (kp _ N9.out.now.1.1.2.2.2.1.lt (by omega) (by omega))
      have vs := mrep_sv (N9.out.rep.keep hc fun b hb hg => hg.elim (fun e => F6.out.1 (e ▸ hb)) fun e => F6.out.2 (e ▸ hb))
      rw [hsv6] at vs
      exact ⟨B5.cell 0, B5.cell 1, B5.cell 2, B5.cell 3, B6.cell 0, vs, B2.cell 2⟩)
    clear hj hsv6 v2
    go_upto_region 7 with fail
    obtain ⟨s1, s2, s3, s4, s5, t0, t1, t2, t3, t4, ⟨p1, p2, p3, p4, p5⟩, ⟨q0, q1, q2, q3, q4⟩, ⟨f1, f2, f3, f4, f5⟩, ⟨g0, g1, g2, g3, g4⟩, ⟨i1, i2, i3, i4, i5⟩, ⟨j0, j1, j2, j3, j4⟩, ⟨cA, cB, cC, cD⟩, ⟨e1, e2⟩, ⟨e3, e4⟩⟩ := do_end N9.out.now.1.1.2.2.2.2.1 N9.out.now.1.1.2.2.2.2.2 HB.out.2.2.1 (.int .i64 k6.1) (.int .i64 k6.2.1) (.int .i64 k6.2.2) (.int .i64 h6) (.slice D8 nQ d8)
    have CA := Lib.hid cA
    have CB := Lib.hid cB
    have CC := Lib.hid cC
    have CD := Lib.hid cD
    have E1 := Lib.hid (And.intro e1 e2)
    have E2 := Lib.hid (And.intro e3 e4)
    clear cA cB cC cD e1 e2 e3 e4
    go_region_held3 (fun u => u.cell? ⟨b5, 0, none⟩ = some (.int .i64 k6.1) ∧ u.cell? ⟨b5, 1, none⟩ = some (.int .i64 k6.2.1) ∧ u.cell? ⟨b5, 2, none⟩ = some (.int .i64 k6.2.2) ∧ u.cell? ⟨b5, 3, none⟩ = some (.int .i64 h6) ∧ u.cell? ⟨b6, 0, none⟩ = some (.slice D8 nQ d8) ∧ u.cell? ⟨p, 2, none⟩ = some (.int .i64 ((ns + jn : Nat) : Int)) ∧ u.cell? ⟨b2, 2, none⟩ = some (.slice K0 nk ck)) (first | exact KS.out _ (Chg.refl _ _).drew | exact KS.out _ CA.out.drew | exact KS.out _ CB.out.drew | exact KS.out _ CC.out.drew | exact KS.out _ CD.out.drew) (fail)
    have hdec : decide (IntKind.i64.wrap ((ns : Int) + (jn : Int) - (ns : Int)) ≤ IntKind.i64.wrap (IntKind.i64.wrap (3 * IntKind.i64.wrap ((nk : Int) + 1)) * 6)) = true := by
      rw [IntWalk.i64_in ((ns : Int) + (jn : Int) - (ns : Int)) (by omega), IntWalk.i64_in ((nk : Int) + 1) (by omega), IntWalk.i64_in (3 * ((nk : Int) + 1)) (by omega), IntWalk.i64_in (3 * ((nk : Int) + 1) * 6) (by omega)]
      exact decide_eq_true (by omega)
    have u0 := E1.out.1.cell 0
    have u1 := E1.out.1.cell 1
    have u2 := E1.out.1.cell 2
    have u3 := E1.out.1.cell 3
    have u4 := E1.out.2.cell 0
    clear f1 f2 f3 f4 f5 g0 g1 g2 g3 g4 i1 i2 i3 i4 i5 j0 j1 j2 j3 j4 q0 q1 q2 q3 q4 p1 p2 p3 p4 p5 hd7 hz
    go_wp2_with fail
    have Ed := N9.out.chg CB.out F6.out ⟨HB.out.1, HB.out.2.1⟩ S9.out F8.out
    refine bodyPost_ret (v := .tuple #[Tr.rootV k6 h6, .agg #[.slice D8 nQ d8], .bool true]) ?_ rfl ⟨X6, s6, k6, h6, D8, d8, by rw [HnQ.out], Ed.1, Ed.2.1, ⟨_, M6.out, l6⟩, O6.out, by rw [HnQ.out]; exact Ed.2.2⟩
    simp [results, Try.results33]
    go_simp
    simp [Tr.rootV]
  · obtain rfl : m = Rm := (if_neg hok).symm.trans HRm.out
    have H3 := Lib.hid (tcut_bad N5.out.rep Hk.out N5.out.now.1.2.2 rfl (by rw [Hnk.out]; omega) (fun hy => hok (keysOk_iff.2 hy)))
    rw [Hnk.out] at H3
    unfold memV Tr.rootV at H3
    have Hok := Lib.hid hok
    clear hok
    go_upto_region 4 with (go_at_call 40; (with_reducible refine H3.out.mono ?_); rintro e w6 ⟨X6, k6, h6, rfl, r6, t6⟩; unfold Tr.rootV; dsimp only; (have N6 := Lib.hid (N5.out.go r6 t6)); (have F6 := Lib.hid (show (¬ X6 b3 ∧ ¬ X6 b4) from ⟨t6.far HX.out.1.2 HX.out.1.1, t6.far HX.out.2.2 HX.out.2.1⟩)); clear r6 t6)
    obtain ⟨b5, hb5⟩ : ∃ b, w6.heap.size = b := ⟨_, rfl⟩
    obtain ⟨U6, hU6⟩ : ∃ W, w6.alloc (.cells #[.int .i64 k6.1, .int .i64 k6.2.1, .int .i64 k6.2.2, .int .i64 h6] 66) = W := ⟨_, rfl⟩
    rw [hU6, hb5]
    have N7 := Lib.hid (by have := N6.out.new 66 #[.int .i64 k6.1, .int .i64 k6.2.1, .int .i64 k6.2.2, .int .i64 h6]; rw [hU6, hb5] at this; exact this)
    clear x0 x1 x2 x3 y0 z0 z1 z2 hb5 hU6 H3
    have y0 := N7.out.now.1.2.2.1.cell 0
    have z2 := N7.out.now.1.2.2.2.1.cell 2
    have H8 := Lib.hid (mcutF_any N7.out.now.1.1.1 N7.out.now.1.1.2.2 (by rw [Hq.out]; exact hml) (by rw [Hnk.out]; omega))
    rw [Hnk.out, Hq.out] at H8
    have H8b := Lib.hid (show Calls Try.prog 46 #[.agg #[.slice D0 q d0], .slice K0 nk ck] U6 (fun e w' => e = .returned (.tuple #[.agg #[.slice D0 q d0], .bool false]) ∧ Below U6.heap.size U6 w') from H8.out.mono fun e w' he => by
      obtain ⟨(⟨-, e1⟩ | ⟨hn, -⟩), hb⟩ := he
      · exact ⟨e1, hb⟩
      · exact (Hok.out hn).elim)
    clear H8
    go_upto_region 5 with (go_at_call 46; (with_reducible refine H8b.out.mono ?_); rintro e w8 ⟨rfl, b8⟩; dsimp only; (have N8 := Lib.hid (N7.out.below b8)); clear b8)
    obtain ⟨b6, hb6⟩ : ∃ b, w8.heap.size = b := ⟨_, rfl⟩
    obtain ⟨U8, hU8⟩ : ∃ W, w8.alloc (.cells #[.slice D0 q d0] 71) = W := ⟨_, rfl⟩
    rw [hU8, hb6]
    have N9 := Lib.hid (by have := N8.out.new 71 #[.slice D0 q d0]; rw [hU8, hb6] at this; exact this)
    clear hb6 hU8 y0 z2 H8b
    have KS := Lib.hid (fun (V : World) (hc : Chg (fun b => b = b3 ∨ b = b4) U8 V) => show (fun u : World => u.cell? ⟨b0, 0, none⟩ = some (.int .i64 k.1) ∧ u.cell? ⟨b0, 1, none⟩ = some (.int .i64 k.2.1) ∧ u.cell? ⟨b0, 2, none⟩ = some (.int .i64 k.2.2) ∧ u.cell? ⟨b0, 3, none⟩ = some (.int .i64 h) ∧ u.cell? ⟨b1, 0, none⟩ = some (.slice D0 q d0) ∧ u.cell? ⟨p, 2, none⟩ = some (.int .i64 (ns : Int))) V from by
      have kp : ∀ b, b < U8.heap.size → b ≠ b3 → b ≠ b4 → V.heap[b]? = U8.heap[b]? := fun b hl h3 h4 => hc.block b hl fun hg => hg.elim h3 h4
      have hb := HB.out
      have B5 := N9.out.now.1.1.2.1.keep (kp _ N9.out.now.1.1.2.1.lt (by omega) (by omega))
      have B6 := N9.out.now.1.1.2.2.1.keep (kp _ N9.out.now.1.1.2.2.1.lt (by omega) (by omega))
      have vs := mrep_sv (N9.out.rep.keep hc fun b hb hg => hg.elim (fun e => F6.out.1 (e ▸ hb)) fun e => F6.out.2 (e ▸ hb))
      rw [Hsv.out] at vs
      exact ⟨B5.cell 0, B5.cell 1, B5.cell 2, B5.cell 3, B6.cell 0, vs⟩)
    go_upto_region 6 with fail
    obtain ⟨s1, s2, s3, s4, s5, -, -, -, -, -, ⟨p1, p2, p3, p4, p5⟩, -, ⟨f1, f2, f3, f4, f5⟩, -, ⟨i1, i2, i3, i4, i5⟩, -, ⟨cA, cB, -, -⟩, ⟨e1, e2⟩, -⟩ := do_end N9.out.now.1.1.2.2.2.2.1 N9.out.now.1.1.2.2.2.2.2 HB.out.2.2.1 (.int .i64 k.1) (.int .i64 k.2.1) (.int .i64 k.2.2) (.int .i64 h) (.slice D0 q d0)
    have CA := Lib.hid cA
    have CB := Lib.hid cB
    have E1 := Lib.hid (And.intro e1 e2)
    clear cA cB e1 e2
    have hee : ((ns : Int) == (ns : Int)) = true := by simp
    go_region_held3 (fun u => u.cell? ⟨b0, 0, none⟩ = some (.int .i64 k.1) ∧ u.cell? ⟨b0, 1, none⟩ = some (.int .i64 k.2.1) ∧ u.cell? ⟨b0, 2, none⟩ = some (.int .i64 k.2.2) ∧ u.cell? ⟨b0, 3, none⟩ = some (.int .i64 h) ∧ u.cell? ⟨b1, 0, none⟩ = some (.slice D0 q d0) ∧ u.cell? ⟨p, 2, none⟩ = some (.int .i64 (ns : Int))) (first | exact KS.out _ (Chg.refl _ _).drew | exact KS.out _ CA.out.drew | exact KS.out _ CB.out.drew) (fail)
    have u0 := E1.out.1.cell 0
    have u1 := E1.out.1.cell 1
    have u2 := E1.out.1.cell 2
    have u3 := E1.out.1.cell 3
    have u4 := E1.out.2.cell 0
    clear f1 f2 f3 f4 f5 i1 i2 i3 i4 i5 p1 p2 p3 p4 p5
    go_wp2_with fail
    have Ed := N9.out.chg2 CB.out F6.out ⟨HB.out.1, HB.out.2.1⟩ HM0.out
    refine bodyPost_ret (v := .tuple #[Tr.rootV k h, .agg #[.slice D0 q d0], .bool true]) ?_ rfl ⟨X6, st, k, h, D0, d0, by rw [Hq.out], Ed.1, Ed.2.1, ⟨0, Tr.KS.mor ⟨rfl, rfl, rfl, rfl⟩, Nat.zero_le _⟩, Hk.out, Ed.2.2⟩
    simp [results, Try.results33]
    go_simp
    simp [Tr.rootV]
set_option maxRecDepth 8000 in
set_option maxHeartbeats 16000000 in
theorem do_put {p : Nat} {w : World} {X G : Nat → Prop} {st : Tr.MSt} {k : Nd.T3} {h : Int} {m : List Tr.E} {N : Nat} {D0 P0 K0 : Option Addr} {d0 cp ck : Nat} {L : List Tr.E} {ks : List Int} (hr : MRep p w X st) (hc : Tr.Calm st N) (hk : Tr.RootOk st.L k h m)
    (hG : ∀ b, G b → b < w.heap.size) (hm : Fast (fun b => X b ∨ G b) w fun u => SlC u u.heap.size D0 d0 m.length (evs m)) (hL : Fast X w fun u => SlC u u.heap.size P0 cp L.length (evs L)) (hK : Fast X w fun u => SlC u u.heap.size K0 ck ks.length (ivs ks)) (hml : m.length ≤ 100000) (hLl : L.length ≤ 300) (_hkl : ks.length ≤ 300) (hN : N + (15 * (L.length + ks.length) + 6) ≤ 8000)  :
    Calls Try.prog 33 #[.pointer (some ⟨p, 0, none⟩), Tr.rootV k h, .agg #[.slice D0 m.length d0], .agg #[.bool false, .slice P0 L.length cp, .slice K0 ks.length ck]] w (DoO p w X G st (15 * L.length + 6) (if Tr.OkL L then Tr.puts m L else m)) := by
  obtain ⟨q, hq⟩ : ∃ q, m.length = q := ⟨_, rfl⟩
  obtain ⟨nl, hnl⟩ : ∃ q, L.length = q := ⟨_, rfl⟩
  obtain ⟨nk, hnk⟩ : ∃ q, ks.length = q := ⟨_, rfl⟩
  have N0 := Lib.hid (show DW p w X w X st fun u => SlC u u.heap.size D0 d0 m.length (evs m) ∧ SlC u u.heap.size P0 cp L.length (evs L) ∧ SlC u u.heap.size K0 ck ks.length (ivs ks) from ⟨hr, .refl _ _, (Fast.anti hm fun _ h => .inl h).and_ (hL.and_ hK)⟩)
  have HM0 := Lib.hid hm
  have HG := Lib.hid hG
  have Hc := Lib.hid hc
  have Hk := Lib.hid hk
  have hsv : st.sv = (st.L.length : Int) := hc.inv.1
  obtain ⟨ns, hns⟩ : ∃ n, st.L.length = n := ⟨_, rfl⟩
  have hns8 : ns ≤ 8001 := by rw [← hns]; exact hc.inv.2
  rw [hns] at hsv
  have Hsv := Lib.hid hsv
  have Hns := Lib.hid hns
  rw [hq, hnl, hnk]
  rw [hq] at hml
  rw [hnl] at hLl
  rw [hnl, hnk] at hN
  have Hq := Lib.hid hq
  have Hnl := Lib.hid hnl
  have Hnk := Lib.hid hnk
  unfold Tr.rootV
  clear hr hc hk hm hG hL hK hq hnl hnk hsv hns
  obtain ⟨Rm, hRm⟩ : ∃ R, (if Tr.OkL L then Tr.puts m L else m) = R := ⟨_, rfl⟩
  rw [hRm]
  have HRm := Lib.hid hRm
  clear hRm
  go_enter Try.func33, Try.ntmps33
  go_upto_region 1 with fail
  obtain ⟨b0, hb0⟩ : ∃ b, w.heap.size = b := ⟨_, rfl⟩
  have M0 := N0
  rw [hb0]
  obtain ⟨U0, hU0⟩ : ∃ W, w.alloc (.cells #[.int .i64 k.1, .int .i64 k.2.1, .int .i64 k.2.2, .int .i64 h] 66) = W := ⟨_, rfl⟩
  rw [hU0]
  have M1 := Lib.hid (by have := M0.out.new 66 #[.int .i64 k.1, .int .i64 k.2.1, .int .i64 k.2.2, .int .i64 h]; rw [hU0, hb0] at this; exact this)
  obtain ⟨b1, hc0⟩ : ∃ b, b0 + 1 = b := ⟨_, rfl⟩
  have hb1 : U0.heap.size = b1 := by rw [← hU0, ← hc0, ← hb0]; simp
  rw [hc0]
  obtain ⟨U1, hU1⟩ : ∃ W, U0.alloc (.cells #[.slice D0 q d0] 71) = W := ⟨_, rfl⟩
  rw [hU1]
  have M2 := Lib.hid (by have := M1.out.new 71 #[.slice D0 q d0]; rw [hU1, hb1] at this; exact this)
  obtain ⟨b2, hc1⟩ : ∃ b, b1 + 1 = b := ⟨_, rfl⟩
  have hb2 : U1.heap.size = b2 := by rw [← hU1, ← hc1, ← hb1]; simp
  rw [hc1]
  obtain ⟨U2, hU2⟩ : ∃ W, U1.alloc (.cells #[.bool false, .slice P0 nl cp, .slice K0 nk ck] 77) = W := ⟨_, rfl⟩
  rw [hU2]
  have M3 := Lib.hid (by have := M2.out.new 77 #[.bool false, .slice P0 nl cp, .slice K0 nk ck]; rw [hU2, hb2] at this; exact this)
  obtain ⟨b3, hc2⟩ : ∃ b, b2 + 1 = b := ⟨_, rfl⟩
  have hb3 : U2.heap.size = b3 := by rw [← hU2, ← hc2, ← hb2]; simp
  rw [hc2]
  obtain ⟨U3, hU3⟩ : ∃ W, U2.alloc (.cells #[.int .i64 0, .int .i64 0, .int .i64 0, .int .i64 0] 66) = W := ⟨_, rfl⟩
  rw [hU3]
  have M4 := Lib.hid (by have := M3.out.new 66 #[.int .i64 0, .int .i64 0, .int .i64 0, .int .i64 0]; rw [hU3, hb3] at this; exact this)
  obtain ⟨b4, hc3⟩ : ∃ b, b3 + 1 = b := ⟨_, rfl⟩
  have hb4 : U3.heap.size = b4 := by rw [← hU3, ← hc3, ← hb3]; simp
  rw [hc3]
  obtain ⟨U4, hU4⟩ : ∃ W, U3.alloc (.cells #[.slice none 0 0] 71) = W := ⟨_, rfl⟩
  rw [hU4]
  have M5 := Lib.hid (by have := M4.out.new 71 #[.slice none 0 0]; rw [hU4, hb4] at this; exact this)
  have N5 := Lib.hid (show DW p w X U4 X st fun u => (SlC u u.heap.size D0 d0 m.length (evs m) ∧ SlC u u.heap.size P0 cp L.length (evs L) ∧ SlC u u.heap.size K0 ck ks.length (ivs ks)) ∧ Blk u b0 66 #[.int .i64 k.1, .int .i64 k.2.1, .int .i64 k.2.2, .int .i64 h] ∧ Blk u b1 71 #[.slice D0 q d0] ∧ Blk u b2 77 #[.bool false, .slice P0 nl cp, .slice K0 nk ck] ∧ Blk u b3 66 #[.int .i64 0, .int .i64 0, .int .i64 0, .int .i64 0] ∧ Blk u b4 71 #[.slice none 0 0] from M5.out.imp fun _ h => ⟨h.1.1.1.1.1, h.1.1.1.1.2, h.1.1.1.2, h.1.1.2, h.1.2, h.2⟩)
  have HB := Lib.hid (show w.heap.size ≤ b3 ∧ w.heap.size ≤ b4 ∧ b3 ≠ b4 ∧ b2 ≠ b3 ∧ b2 ≠ b4 ∧ b0 ≠ b3 ∧ b0 ≠ b4 ∧ b1 ≠ b3 ∧ b1 ≠ b4 from ⟨by omega, by omega, by omega, by omega, by omega, by omega, by omega, by omega, by omega⟩)
  have HX := Lib.hid (show (¬ X b3 ∧ b3 < U4.heap.size) ∧ (¬ X b4 ∧ b4 < U4.heap.size) from ⟨⟨fun h => by have := N0.out.rep.lt h; omega, N5.out.now.2.2.2.2.1.lt⟩, ⟨fun h => by have := N0.out.rep.lt h; omega, N5.out.now.2.2.2.2.2.lt⟩⟩)
  have hs := mrep_sv N5.out.rep
  rw [Hsv.out] at hs
  clear M0 M1 M2 M3 M4 M5 hb0 hb1 hb2 hb3 hb4 hc0 hc1 hc2 hc3 hU0 hU1 hU2 hU3 hU4
  have x0 := N5.out.now.2.1.cell 0
  have x1 := N5.out.now.2.1.cell 1
  have x2 := N5.out.now.2.1.cell 2
  have x3 := N5.out.now.2.1.cell 3
  have y0 := N5.out.now.2.2.1.cell 0
  have z0 := N5.out.now.2.2.2.1.cell 0
  have z1 := N5.out.now.2.2.2.1.cell 1
  have z2 := N5.out.now.2.2.2.1.cell 2
  go_upto_region 8 with fail
  clear hs
  by_cases hok : Tr.OkL L
  · have Hok := Lib.hid hok
    obtain ⟨Q, hQ⟩ : ∃ Q, Tr.puts m L = Q := ⟨_, rfl⟩
    obtain rfl : Q = Rm := hQ.symm.trans ((if_pos Hok.out).symm.trans HRm.out)
    obtain ⟨nQ, hnQ⟩ : ∃ n, Q.length = n := ⟨_, rfl⟩
    have HnQ := Lib.hid hnQ
    have HPt := Lib.hid (fun (V : World) (D' : Option Addr) (d' : Nat) (hV : Below U4.heap.size U4 V) (hs : SlC V V.heap.size D' d' nl (evs L)) => show Calls Try.prog 39 #[memV p, Tr.rootV k h, .slice D' nl d'] V (RtO p V X st (15 * nl + 6) Q) from by
      have := tput (N5.out.below hV).rep Hc.out Hk.out (L := L) (n := nl) hs Hnl.out (by omega) (Tr.okL_iff.1 Hok.out)
      rw [hQ] at this
      exact this)
    have HEn := Lib.hid (fun (V : World) (hV : Below U4.heap.size U4 V) => entries_any (N5.out.below hV).now.1.2.1 (by rw [Hnl.out]; omega))
    rw [Hnl.out] at HEn
    unfold memV Tr.rootV at HPt
    obtain ⟨K, hK, hKK⟩ : ∃ K : World → Prop, DW p w X U4 X st K ∧ ∀ u, K u → (SlC u u.heap.size D0 d0 m.length (evs m) ∧ SlC u u.heap.size P0 cp L.length (evs L) ∧ SlC u u.heap.size K0 ck ks.length (ivs ks)) ∧ Blk u b0 66 #[.int .i64 k.1, .int .i64 k.2.1, .int .i64 k.2.2, .int .i64 h] ∧ Blk u b1 71 #[.slice D0 q d0] ∧ Blk u b2 77 #[.bool false, .slice P0 nl cp, .slice K0 nk ck] ∧ Blk u b3 66 #[.int .i64 0, .int .i64 0, .int .i64 0, .int .i64 0] ∧ Blk u b4 71 #[.slice none 0 0] := ⟨_, N5.out, fun _ h => h⟩
    have NK := Lib.hid hK
    have HKK := Lib.hid hKK
    have XLT := Lib.hid (show ∀ b, X b → b < U4.heap.size from fun b hb => N5.out.rep.lt hb)
    have SV : ∀ u, ((SlC u u.heap.size D0 d0 m.length (evs m) ∧ SlC u u.heap.size P0 cp L.length (evs L) ∧ SlC u u.heap.size K0 ck ks.length (ivs ks)) ∧ Blk u b0 66 #[.int .i64 k.1, .int .i64 k.2.1, .int .i64 k.2.2, .int .i64 h] ∧ Blk u b1 71 #[.slice D0 q d0] ∧ Blk u b2 77 #[.bool false, .slice P0 nl cp, .slice K0 nk ck] ∧ Blk u b3 66 #[.int .i64 0, .int .i64 0, .int .i64 0, .int .i64 0] ∧ Blk u b4 71 #[.slice none 0 0]) → u.cell? ⟨b0, 0, none⟩ = some (.int .i64 k.1) ∧ u.cell? ⟨b0, 1, none⟩ = some (.int .i64 k.2.1) ∧ u.cell? ⟨b0, 2, none⟩ = some (.int .i64 k.2.2) ∧ u.cell? ⟨b0, 3, none⟩ = some (.int .i64 h) ∧ u.cell? ⟨b2, 1, none⟩ = some (.slice P0 nl cp) := fun u h => ⟨h.2.1.cell 0, h.2.1.cell 1, h.2.1.cell 2, h.2.1.cell 3, h.2.2.2.1.cell 1⟩
    have KS := Lib.hid (fun (V : World) (hV : Below U4.heap.size U4 V) => SV V (HKK.out V (NK.out.below hV).now))
    clear hK hKK hok x0 x1 x2 x3 y0 z0 z1 z2
    go_cut [16, 17] from 75 to 84 (fun v16 v17 wx => ∃ (cb : Nat) (X' : Nat → Prop) (s : Tr.MSt) (k : Nd.T3) (h : Int), v16 = .pointer (some ⟨cb, 0, none⟩) ∧ v17 = .int .i64 0 ∧ DW p w X wx X' s (fun u => K u ∧ Blk u cb 66 #[.int .i64 k.1, .int .i64 k.2.1, .int .i64 k.2.2, .int .i64 h]) ∧ (¬ X' b3 ∧ ¬ X' b4) ∧ (b3 < cb ∧ b4 < cb) ∧ (∃ j : Nat, Tr.Mor st s j ∧ j ≤ 15 * nl + 6) ∧ Tr.RootOk s.L k h Q)
    case first =>
      have hbc : Below U4.heap.size U4 U4.drew := (Below.refl _ _).drew
      go_region_held3 (fun u => u.cell? ⟨b0, 0, none⟩ = some (.int .i64 k.1) ∧ u.cell? ⟨b0, 1, none⟩ = some (.int .i64 k.2.1) ∧ u.cell? ⟨b0, 2, none⟩ = some (.int .i64 k.2.2) ∧ u.cell? ⟨b0, 3, none⟩ = some (.int .i64 h) ∧ u.cell? ⟨b2, 1, none⟩ = some (.slice P0 nl cp)) (first | exact KS.out _ hbc | exact KS.out _ (below_alloc1 U4 (Obj.cells #[.int .i64 0, .int .i64 0, .int .i64 0, .int .i64 0] 66)).drew | exact KS.out _ (hbc.trans ((below_alloc1 w13 (Obj.cells #[.int .i64 0, .int .i64 0, .int .i64 0, .int .i64 0] 66)).mono hbc.size)) | exact KV.out _ (Below.refl _ _) | exact KV.out _ (below_alloc1 w15 _) | exact K4.out) (first
        | (go_at_call 39; (have gb := GB.out); ((with_reducible refine (HPt.out _ _ _ hbc E13.out).mono ?_); rintro e w15 ⟨X15, s15, k15, h15, rfl, r15, t15, ⟨j15, m15, l15⟩, o15⟩; unfold Tr.rootV; dsimp only; have R15 := Lib.hid r15; have F15 := Lib.hid (show ¬ X15 b3 ∧ ¬ X15 b4 from ⟨((Stp.of_below X hbc).trans t15).far HX.out.1.2 HX.out.1.1, ((Stp.of_below X hbc).trans t15).far HX.out.2.2 HX.out.2.1⟩); have T15 := Lib.hid ((Stp.of_below X hbc).trans t15); have KV := Lib.hid (fun (V : World) (hV : Below w15.heap.size w15 V) => SV V (HKK.out V ((NK.out.go R15.out T15.out).below hV).now)); have O15 := Lib.hid o15; have M15 := Lib.hid m15; have gb15 := gb.keep (t15.chg.block _ gb.lt fun hx => by have := XLT.out _ hx; have := GB2.out; omega); have G15 := Lib.hid GB2.out; have XF := Lib.hid (t15.far gb.lt fun hx => by have := XLT.out _ hx; have := GB2.out; omega); (obtain ⟨v1, v2, v3, v4, p1, p2, p3, p4, ⟨f1, f2, f3, f4⟩, ⟨g1, g2, g3, g4⟩, Bk, Ck⟩ := blk_st4 gb15 (.int .i64 k15.1) (.int .i64 k15.2.1) (.int .i64 k15.2.2) (.int .i64 h15)); have BK := Lib.hid Bk; have CK := Lib.hid Ck; have K4 := Lib.hid (SV v4 (HKK.out v4 (dw_box NK.out R15.out T15.out G15.out Ck Bk XF.out).now.1)); clear Bk Ck gb15; clear r15 t15 m15 o15))
        | (go_at_call 45; ((with_reducible refine (HEn.out _ hbc).mono ?_); rintro e w13 ⟨⟨D13, d13, rfl, e13⟩, b13⟩; have hbc := hbc.trans (b13.mono hbc.size); have E13 := Lib.hid e13;  clear e13 b13))
        | (go_at_call 39; ((with_reducible refine (HPt.out _ _ _ hbc E13.out).mono ?_); rintro e w15 ⟨X15, s15, k15, h15, rfl, r15, t15, ⟨j15, m15, l15⟩, o15⟩; unfold Tr.rootV; dsimp only; have R15 := Lib.hid r15; have F15 := Lib.hid (show ¬ X15 b3 ∧ ¬ X15 b4 from ⟨((Stp.of_below X hbc).trans t15).far HX.out.1.2 HX.out.1.1, ((Stp.of_below X hbc).trans t15).far HX.out.2.2 HX.out.2.1⟩); have T15 := Lib.hid ((Stp.of_below X hbc).trans t15); have KV := Lib.hid (fun (V : World) (hV : Below w15.heap.size w15 V) => SV V (HKK.out V ((NK.out.go R15.out T15.out).below hV).now)); have O15 := Lib.hid o15; have M15 := Lib.hid m15;  clear r15 t15 m15 o15))
        | (go_at_call 45; (have GBz := (Blk.new U4 66 #[.int .i64 0, .int .i64 0, .int .i64 0, .int .i64 0]).keep (w' := (U4.alloc (Obj.cells #[.int .i64 0, .int .i64 0, .int .i64 0, .int .i64 0] 66)).drew) rfl); (have hbc := (below_alloc1 U4 (Obj.cells #[.int .i64 0, .int .i64 0, .int .i64 0, .int .i64 0] 66)).drew); ((with_reducible refine (HEn.out _ hbc).mono ?_); rintro e w13 ⟨⟨D13, d13, rfl, e13⟩, b13⟩; have hbc := hbc.trans (b13.mono hbc.size); have E13 := Lib.hid e13; have GB := Lib.hid (GBz.keep (b13.block _ GBz.lt)); have GB2 := Lib.hid (Nat.le_refl U4.heap.size); clear GBz; clear e13 b13))
        | (go_at_call 39; (have GBz := Blk.new w13 66 #[.int .i64 0, .int .i64 0, .int .i64 0, .int .i64 0]); (have G15 := Lib.hid hbc.size); (have E13 := Lib.hid ((E13.out.below (below_alloc1 _ (Obj.cells #[.int .i64 0, .int .i64 0, .int .i64 0, .int .i64 0] 66))).more (below_alloc1 _ (Obj.cells #[.int .i64 0, .int .i64 0, .int .i64 0, .int .i64 0] 66)).size)); (have hbc := hbc.trans ((below_alloc1 _ (Obj.cells #[.int .i64 0, .int .i64 0, .int .i64 0, .int .i64 0] 66)).mono hbc.size)); ((with_reducible refine (HPt.out _ _ _ hbc E13.out).mono ?_); rintro e w15 ⟨X15, s15, k15, h15, rfl, r15, t15, ⟨j15, m15, l15⟩, o15⟩; unfold Tr.rootV; dsimp only; have R15 := Lib.hid r15; have F15 := Lib.hid (show ¬ X15 b3 ∧ ¬ X15 b4 from ⟨((Stp.of_below X hbc).trans t15).far HX.out.1.2 HX.out.1.1, ((Stp.of_below X hbc).trans t15).far HX.out.2.2 HX.out.2.1⟩); have T15 := Lib.hid ((Stp.of_below X hbc).trans t15); have KV := Lib.hid (fun (V : World) (hV : Below w15.heap.size w15 V) => SV V (HKK.out V ((NK.out.go R15.out T15.out).below hV).now)); have O15 := Lib.hid o15; have M15 := Lib.hid m15; have gb15 := GBz.keep (t15.chg.block _ GBz.lt fun hx => by have := XLT.out _ hx; have := G15.out; omega); have XF := Lib.hid (t15.far GBz.lt fun hx => by have := XLT.out _ hx; have := G15.out; omega); (obtain ⟨v1, v2, v3, v4, p1, p2, p3, p4, ⟨f1, f2, f3, f4⟩, ⟨g1, g2, g3, g4⟩, Bk, Ck⟩ := blk_st4 gb15 (.int .i64 k15.1) (.int .i64 k15.2.1) (.int .i64 k15.2.2) (.int .i64 h15)); have BK := Lib.hid Bk; have CK := Lib.hid Ck; have K4 := Lib.hid (SV v4 (HKK.out v4 (dw_box NK.out R15.out T15.out G15.out Ck Bk XF.out).now.1)); clear Bk Ck gb15; clear GBz; clear r15 t15 m15 o15)))
      all_goals go_wp2_with fail
      all_goals go_meet
      all_goals have HL3 := HX.out.1.2
      all_goals have HL4 := HX.out.2.2
      all_goals first
        | exact ⟨_, _, _, _, _, rfl, rfl, dw_box NK.out R15.out T15.out G15.out CK.out BK.out XF.out, F15.out, ⟨by have := G15.out; omega, by have := G15.out; omega⟩, ⟨_, M15.out, l15⟩, O15.out⟩
        | exact ⟨_, _, _, _, _, rfl, rfl, (NK.out.go R15.out T15.out).new _ _, F15.out, ⟨by have := T15.out.chg.size; omega, by have := T15.out.chg.size; omega⟩, ⟨_, M15.out, l15⟩, O15.out⟩
    case rest =>
      obtain ⟨b5, X6, s6, k6, h6, rfl, rfl, hn, hf, hg, ⟨j6, m6, l6⟩, ho⟩ := hcut
      have M6 := Lib.hid m6
      have O6 := Lib.hid ho
      clear m6 ho
      have N7 := Lib.hid (show DW p w X wc X6 s6 (fun u => ((SlC u u.heap.size D0 d0 m.length (evs m) ∧ SlC u u.heap.size P0 cp L.length (evs L) ∧ SlC u u.heap.size K0 ck ks.length (ivs ks)) ∧ Blk u b0 66 #[.int .i64 k.1, .int .i64 k.2.1, .int .i64 k.2.2, .int .i64 h] ∧ Blk u b1 71 #[.slice D0 q d0] ∧ Blk u b2 77 #[.bool false, .slice P0 nl cp, .slice K0 nk ck] ∧ Blk u b3 66 #[.int .i64 0, .int .i64 0, .int .i64 0, .int .i64 0] ∧ Blk u b4 71 #[.slice none 0 0]) ∧ Blk u b5 66 #[.int .i64 k6.1, .int .i64 k6.2.1, .int .i64 k6.2.2, .int .i64 h6]) from hn.imp fun u h => ⟨HKK.out u h.1, h.2⟩)
      have F6 := Lib.hid hf
      have G5 := Lib.hid hg
      clear hn hf hg KS NK HKK SV HPt HEn
      have y0 := N7.out.now.1.2.2.1.cell 0
      have z1 := N7.out.now.1.2.2.2.1.cell 1
      have H8 := Lib.hid (mput_any N7.out.now.1.1.1 N7.out.now.1.1.2.1 (by rw [Hq.out]; exact hml) (by rw [Hnl.out]; omega))
      rw [Hnl.out, Hq.out] at H8
      have H8b := Lib.hid (show Calls Try.prog 44 #[.agg #[.slice D0 q d0], .slice P0 nl cp] wc (fun e w' => ∃ D d, e = .returned (.tuple #[.agg #[.slice D nQ d], .bool true]) ∧ SlC w' w'.heap.size D d nQ (evs Q) ∧ (∀ a, D = some a → wc.heap.size ≤ a.block) ∧ Below wc.heap.size wc w') from H8.out.mono fun e w' he => by
        obtain ⟨(⟨hn, -⟩ | ⟨-, D, d, e1, e2, e3⟩), hb⟩ := he
        · exact (hn Hok.out).elim
        · rw [hQ, hnQ] at e1
          rw [hQ, hnQ] at e2
          exact ⟨D, d, e1, e2, e3, hb⟩)
      clear H8 hQ hnQ
      go_upto_region 10 with (go_at_call 44; (with_reducible refine H8b.out.mono ?_); rintro e w8 ⟨D8, d8, rfl, e2, e3, b8⟩; dsimp only; (have N8 := Lib.hid (N7.out.below b8)); (have S8 := Lib.hid e2); (have F8 := Lib.hid (show ∀ a, D8 = some a → ¬ X6 a.block ∧ a.block ≠ b3 ∧ a.block ≠ b4 ∧ ¬ G a.block from fun a ha => by have h0 := N7.out.stp.chg.size; have h1 := e3 a ha; have h2 := N7.out.now.1.2.2.2.2.1.lt; have h3 := N7.out.now.1.2.2.2.2.2.lt; exact ⟨fun hx => by have := N7.out.rep.lt hx; omega, by omega, by omega, fun hg => by have := HG.out _ hg; omega⟩)); clear e2 e3 b8)
      obtain ⟨b6, hb6⟩ : ∃ b, w8.heap.size = b := ⟨_, rfl⟩
      obtain ⟨U8, hU8⟩ : ∃ W, w8.alloc (.cells #[.slice D8 nQ d8] 71) = W := ⟨_, rfl⟩
      rw [hU8, hb6]
      have G6 := Lib.hid (show b5 < b6 from by rw [← hb6]; exact N8.out.now.2.lt)
      have N9 := Lib.hid (by have := N8.out.new 71 #[.slice D8 nQ d8]; rw [hU8, hb6] at this; exact this)
      have S9 := Lib.hid (show SlC U8 U8.heap.size D8 d8 nQ (evs Q) from by have hb : Below w8.heap.size w8 U8 := hU8 ▸ below_alloc1 w8 _; exact (S8.out.below hb).more hb.size)
      clear hb6 hU8 y0 z1 H8b
      obtain ⟨jn, hj⟩ : ∃ j : Nat, j6 = j := ⟨_, rfl⟩
      have hsv6 : s6.sv = ((ns + jn : Nat) : Int) := by
        have h1 := (M6.out.inv Hc.out.inv).1
        obtain ⟨l, h2, h3⟩ := M6.out.L
        rw [h1, h2, List.length_append, Hns.out, h3, hj]
      have hj6 : jn ≤ 15 * nl + 6 := by rw [← hj]; exact l6
      have v2 := mrep_sv N9.out.rep
      rw [hsv6] at v2
      have KS := Lib.hid (fun (V : World) (hc : Chg (fun b => b = b3 ∨ b = b4) U8 V) => show (fun u : World => u.cell? ⟨b5, 0, none⟩ = some (.int .i64 k6.1) ∧ u.cell? ⟨b5, 1, none⟩ = some (.int .i64 k6.2.1) ∧ u.cell? ⟨b5, 2, none⟩ = some (.int .i64 k6.2.2) ∧ u.cell? ⟨b5, 3, none⟩ = some (.int .i64 h6) ∧ u.cell? ⟨b6, 0, none⟩ = some (.slice D8 nQ d8) ∧ u.cell? ⟨p, 2, none⟩ = some (.int .i64 ((ns + jn : Nat) : Int)) ∧ u.cell? ⟨b2, 1, none⟩ = some (.slice P0 nl cp)) V from by
        have kp : ∀ b, b < U8.heap.size → b ≠ b3 → b ≠ b4 → V.heap[b]? = U8.heap[b]? := fun b hl h3 h4 => hc.block b hl fun hg => hg.elim h3 h4
        have g5 := G5.out
        have g6 := G6.out
        have hb := HB.out
        have B5 := N9.out.now.1.2.keep (kp _ N9.out.now.1.2.lt (by omega) (by omega))
        have B6 := N9.out.now.2.keep (kp _ N9.out.now.2.lt (by omega) (by omega))
        have B2 := N9.out.now.1.1.2.2.2.1.keep (kp _ N9.out.now.1.1.2.2.2.1.lt (by omega) (by omega))
        have vs := mrep_sv (N9.out.rep.keep hc fun b hb hg => hg.elim (fun e => F6.out.1 (e ▸ hb)) fun e => F6.out.2 (e ▸ hb))
        rw [hsv6] at vs
        exact ⟨B5.cell 0, B5.cell 1, B5.cell 2, B5.cell 3, B6.cell 0, vs, B2.cell 1⟩)
      clear hj hsv6 v2
      go_upto_region 12 with fail
      obtain ⟨s1, s2, s3, s4, s5, t0, t1, t2, t3, t4, ⟨p1, p2, p3, p4, p5⟩, ⟨q0, q1, q2, q3, q4⟩, ⟨f1, f2, f3, f4, f5⟩, ⟨g0, g1, g2, g3, g4⟩, ⟨i1, i2, i3, i4, i5⟩, ⟨j0, j1, j2, j3, j4⟩, ⟨cA, cB, cC, cD⟩, ⟨e1, e2⟩, ⟨e3, e4⟩⟩ := do_end N9.out.now.1.1.2.2.2.2.1 N9.out.now.1.1.2.2.2.2.2 HB.out.2.2.1 (.int .i64 k6.1) (.int .i64 k6.2.1) (.int .i64 k6.2.2) (.int .i64 h6) (.slice D8 nQ d8)
      have CA := Lib.hid cA
      have CB := Lib.hid cB
      have CC := Lib.hid cC
      have CD := Lib.hid cD
      have E1 := Lib.hid (And.intro e1 e2)
      have E2 := Lib.hid (And.intro e3 e4)
      clear cA cB cC cD e1 e2 e3 e4
      go_region_held3 (fun u => u.cell? ⟨b5, 0, none⟩ = some (.int .i64 k6.1) ∧ u.cell? ⟨b5, 1, none⟩ = some (.int .i64 k6.2.1) ∧ u.cell? ⟨b5, 2, none⟩ = some (.int .i64 k6.2.2) ∧ u.cell? ⟨b5, 3, none⟩ = some (.int .i64 h6) ∧ u.cell? ⟨b6, 0, none⟩ = some (.slice D8 nQ d8) ∧ u.cell? ⟨p, 2, none⟩ = some (.int .i64 ((ns + jn : Nat) : Int)) ∧ u.cell? ⟨b2, 1, none⟩ = some (.slice P0 nl cp)) (first | exact KS.out _ (Chg.refl _ _).drew | exact KS.out _ CA.out.drew | exact KS.out _ CB.out.drew | exact KS.out _ CC.out.drew | exact KS.out _ CD.out.drew) (fail)
      have hdec : decide (IntKind.i64.wrap ((ns : Int) + (jn : Int) - (ns : Int)) ≤ IntKind.i64.wrap (IntKind.i64.wrap (3 * IntKind.i64.wrap ((nl : Int) + 1)) * 6)) = true := by
        rw [IntWalk.i64_in ((ns : Int) + (jn : Int) - (ns : Int)) (by omega), IntWalk.i64_in ((nl : Int) + 1) (by omega), IntWalk.i64_in (3 * ((nl : Int) + 1)) (by omega), IntWalk.i64_in (3 * ((nl : Int) + 1) * 6) (by omega)]
        exact decide_eq_true (by omega)
      have u0 := E1.out.1.cell 0
      have u1 := E1.out.1.cell 1
      have u2 := E1.out.1.cell 2
      have u3 := E1.out.1.cell 3
      have u4 := E1.out.2.cell 0
      clear f1 f2 f3 f4 f5 g0 g1 g2 g3 g4 i1 i2 i3 i4 i5 j0 j1 j2 j3 j4 q0 q1 q2 q3 q4 p1 p2 p3 p4 p5
      go_wp2_with fail
  
      have Ed := N9.out.chg CB.out F6.out ⟨HB.out.1, HB.out.2.1⟩ S9.out F8.out
      refine bodyPost_ret (v := .tuple #[Tr.rootV k6 h6, .agg #[.slice D8 nQ d8], .bool true]) ?_ rfl ⟨X6, s6, k6, h6, D8, d8, by rw [HnQ.out], Ed.1, Ed.2.1, ⟨_, M6.out, l6⟩, O6.out, by rw [HnQ.out]; exact Ed.2.2⟩
      simp [results, Try.results33]
      go_simp
      simp [Tr.rootV]
  · obtain rfl : m = Rm := (if_neg hok).symm.trans HRm.out
    have Hok := Lib.hid hok
    have HPt := Lib.hid (fun (V : World) (D' : Option Addr) (d' : Nat) (hV : Below U4.heap.size U4 V) (hs : SlC V V.heap.size D' d' nl (evs L)) => show Calls Try.prog 39 #[memV p, Tr.rootV k h, .slice D' nl d'] V (NoO p V X st) from
      tput_bad (N5.out.below hV).rep Hk.out (L := L) (n := nl) hs Hnl.out (by omega) (fun hy => Hok.out (Tr.okL_iff.2 hy)))
    have HEn := Lib.hid (fun (V : World) (hV : Below U4.heap.size U4 V) => entries_any (N5.out.below hV).now.1.2.1 (by rw [Hnl.out]; omega))
    rw [Hnl.out] at HEn
    unfold memV Tr.rootV at HPt
    obtain ⟨K, hK, hKK⟩ : ∃ K : World → Prop, DW p w X U4 X st K ∧ ∀ u, K u → (SlC u u.heap.size D0 d0 m.length (evs m) ∧ SlC u u.heap.size P0 cp L.length (evs L) ∧ SlC u u.heap.size K0 ck ks.length (ivs ks)) ∧ Blk u b0 66 #[.int .i64 k.1, .int .i64 k.2.1, .int .i64 k.2.2, .int .i64 h] ∧ Blk u b1 71 #[.slice D0 q d0] ∧ Blk u b2 77 #[.bool false, .slice P0 nl cp, .slice K0 nk ck] ∧ Blk u b3 66 #[.int .i64 0, .int .i64 0, .int .i64 0, .int .i64 0] ∧ Blk u b4 71 #[.slice none 0 0] := ⟨_, N5.out, fun _ h => h⟩
    have NK := Lib.hid hK
    have HKK := Lib.hid hKK
    have XLT := Lib.hid (show ∀ b, X b → b < U4.heap.size from fun b hb => N5.out.rep.lt hb)
    have SV : ∀ u, ((SlC u u.heap.size D0 d0 m.length (evs m) ∧ SlC u u.heap.size P0 cp L.length (evs L) ∧ SlC u u.heap.size K0 ck ks.length (ivs ks)) ∧ Blk u b0 66 #[.int .i64 k.1, .int .i64 k.2.1, .int .i64 k.2.2, .int .i64 h] ∧ Blk u b1 71 #[.slice D0 q d0] ∧ Blk u b2 77 #[.bool false, .slice P0 nl cp, .slice K0 nk ck] ∧ Blk u b3 66 #[.int .i64 0, .int .i64 0, .int .i64 0, .int .i64 0] ∧ Blk u b4 71 #[.slice none 0 0]) → u.cell? ⟨b0, 0, none⟩ = some (.int .i64 k.1) ∧ u.cell? ⟨b0, 1, none⟩ = some (.int .i64 k.2.1) ∧ u.cell? ⟨b0, 2, none⟩ = some (.int .i64 k.2.2) ∧ u.cell? ⟨b0, 3, none⟩ = some (.int .i64 h) ∧ u.cell? ⟨b2, 1, none⟩ = some (.slice P0 nl cp) := fun u h => ⟨h.2.1.cell 0, h.2.1.cell 1, h.2.1.cell 2, h.2.1.cell 3, h.2.2.2.1.cell 1⟩
    have KS := Lib.hid (fun (V : World) (hV : Below U4.heap.size U4 V) => SV V (HKK.out V (NK.out.below hV).now))
    clear hK hKK hok x0 x1 x2 x3 y0 z0 z1 z2
    go_cut [16, 17] from 75 to 84 (fun v16 v17 wx => ∃ (cb : Nat) (X' : Nat → Prop) (s : Tr.MSt) (k : Nd.T3) (h : Int), v16 = .pointer (some ⟨cb, 0, none⟩) ∧ v17 = .int .i64 1 ∧ DW p w X wx X' s (fun u => K u ∧ Blk u cb 66 #[.int .i64 k.1, .int .i64 k.2.1, .int .i64 k.2.2, .int .i64 h]) ∧ (¬ X' b3 ∧ ¬ X' b4) ∧ (b3 < cb ∧ b4 < cb) ∧ s = st)
    case first =>
      have hbc : Below U4.heap.size U4 U4.drew := (Below.refl _ _).drew
      go_region_held3 (fun u => u.cell? ⟨b0, 0, none⟩ = some (.int .i64 k.1) ∧ u.cell? ⟨b0, 1, none⟩ = some (.int .i64 k.2.1) ∧ u.cell? ⟨b0, 2, none⟩ = some (.int .i64 k.2.2) ∧ u.cell? ⟨b0, 3, none⟩ = some (.int .i64 h) ∧ u.cell? ⟨b2, 1, none⟩ = some (.slice P0 nl cp)) (first | exact KS.out _ hbc | exact KS.out _ (below_alloc1 U4 (Obj.cells #[.int .i64 0, .int .i64 0, .int .i64 0, .int .i64 0] 66)).drew | exact KS.out _ (hbc.trans ((below_alloc1 w13 (Obj.cells #[.int .i64 0, .int .i64 0, .int .i64 0, .int .i64 0] 66)).mono hbc.size)) | exact KV.out _ (Below.refl _ _) | exact KV.out _ (below_alloc1 w15 _) | exact K4.out) (first
        | (go_at_call 39; (have gb := GB.out); ((with_reducible refine (HPt.out _ _ _ hbc E13.out).mono ?_); rintro e w15 ⟨X15, k15, h15, rfl, r15, t15⟩; unfold Tr.rootV; dsimp only; have R15 := Lib.hid r15; have F15 := Lib.hid (show ¬ X15 b3 ∧ ¬ X15 b4 from ⟨((Stp.of_below X hbc).trans t15).far HX.out.1.2 HX.out.1.1, ((Stp.of_below X hbc).trans t15).far HX.out.2.2 HX.out.2.1⟩); have T15 := Lib.hid ((Stp.of_below X hbc).trans t15); have KV := Lib.hid (fun (V : World) (hV : Below w15.heap.size w15 V) => SV V (HKK.out V ((NK.out.go R15.out T15.out).below hV).now));  have gb15 := gb.keep (t15.chg.block _ gb.lt fun hx => by have := XLT.out _ hx; have := GB2.out; omega); have G15 := Lib.hid GB2.out; have XF := Lib.hid (t15.far gb.lt fun hx => by have := XLT.out _ hx; have := GB2.out; omega); (obtain ⟨v1, v2, v3, v4, p1, p2, p3, p4, ⟨f1, f2, f3, f4⟩, ⟨g1, g2, g3, g4⟩, Bk, Ck⟩ := blk_st4 gb15 (.int .i64 k15.1) (.int .i64 k15.2.1) (.int .i64 k15.2.2) (.int .i64 h15)); have BK := Lib.hid Bk; have CK := Lib.hid Ck; have K4 := Lib.hid (SV v4 (HKK.out v4 (dw_box NK.out R15.out T15.out G15.out Ck Bk XF.out).now.1)); clear Bk Ck gb15; clear r15 t15 ))
        | (go_at_call 45; ((with_reducible refine (HEn.out _ hbc).mono ?_); rintro e w13 ⟨⟨D13, d13, rfl, e13⟩, b13⟩; have hbc := hbc.trans (b13.mono hbc.size); have E13 := Lib.hid e13;  clear e13 b13))
        | (go_at_call 39; ((with_reducible refine (HPt.out _ _ _ hbc E13.out).mono ?_); rintro e w15 ⟨X15, k15, h15, rfl, r15, t15⟩; unfold Tr.rootV; dsimp only; have R15 := Lib.hid r15; have F15 := Lib.hid (show ¬ X15 b3 ∧ ¬ X15 b4 from ⟨((Stp.of_below X hbc).trans t15).far HX.out.1.2 HX.out.1.1, ((Stp.of_below X hbc).trans t15).far HX.out.2.2 HX.out.2.1⟩); have T15 := Lib.hid ((Stp.of_below X hbc).trans t15); have KV := Lib.hid (fun (V : World) (hV : Below w15.heap.size w15 V) => SV V (HKK.out V ((NK.out.go R15.out T15.out).below hV).now));   clear r15 t15 ))
        | (go_at_call 45; (have GBz := (Blk.new U4 66 #[.int .i64 0, .int .i64 0, .int .i64 0, .int .i64 0]).keep (w' := (U4.alloc (Obj.cells #[.int .i64 0, .int .i64 0, .int .i64 0, .int .i64 0] 66)).drew) rfl); (have hbc := (below_alloc1 U4 (Obj.cells #[.int .i64 0, .int .i64 0, .int .i64 0, .int .i64 0] 66)).drew); ((with_reducible refine (HEn.out _ hbc).mono ?_); rintro e w13 ⟨⟨D13, d13, rfl, e13⟩, b13⟩; have hbc := hbc.trans (b13.mono hbc.size); have E13 := Lib.hid e13; have GB := Lib.hid (GBz.keep (b13.block _ GBz.lt)); have GB2 := Lib.hid (Nat.le_refl U4.heap.size); clear GBz; clear e13 b13))
        | (go_at_call 39; (have GBz := Blk.new w13 66 #[.int .i64 0, .int .i64 0, .int .i64 0, .int .i64 0]); (have G15 := Lib.hid hbc.size); (have E13 := Lib.hid ((E13.out.below (below_alloc1 _ (Obj.cells #[.int .i64 0, .int .i64 0, .int .i64 0, .int .i64 0] 66))).more (below_alloc1 _ (Obj.cells #[.int .i64 0, .int .i64 0, .int .i64 0, .int .i64 0] 66)).size)); (have hbc := hbc.trans ((below_alloc1 _ (Obj.cells #[.int .i64 0, .int .i64 0, .int .i64 0, .int .i64 0] 66)).mono hbc.size)); ((with_reducible refine (HPt.out _ _ _ hbc E13.out).mono ?_); rintro e w15 ⟨X15, k15, h15, rfl, r15, t15⟩; unfold Tr.rootV; dsimp only; have R15 := Lib.hid r15; have F15 := Lib.hid (show ¬ X15 b3 ∧ ¬ X15 b4 from ⟨((Stp.of_below X hbc).trans t15).far HX.out.1.2 HX.out.1.1, ((Stp.of_below X hbc).trans t15).far HX.out.2.2 HX.out.2.1⟩); have T15 := Lib.hid ((Stp.of_below X hbc).trans t15); have KV := Lib.hid (fun (V : World) (hV : Below w15.heap.size w15 V) => SV V (HKK.out V ((NK.out.go R15.out T15.out).below hV).now));  have gb15 := GBz.keep (t15.chg.block _ GBz.lt fun hx => by have := XLT.out _ hx; have := G15.out; omega); have XF := Lib.hid (t15.far GBz.lt fun hx => by have := XLT.out _ hx; have := G15.out; omega); (obtain ⟨v1, v2, v3, v4, p1, p2, p3, p4, ⟨f1, f2, f3, f4⟩, ⟨g1, g2, g3, g4⟩, Bk, Ck⟩ := blk_st4 gb15 (.int .i64 k15.1) (.int .i64 k15.2.1) (.int .i64 k15.2.2) (.int .i64 h15)); have BK := Lib.hid Bk; have CK := Lib.hid Ck; have K4 := Lib.hid (SV v4 (HKK.out v4 (dw_box NK.out R15.out T15.out G15.out Ck Bk XF.out).now.1)); clear Bk Ck gb15; clear GBz; clear r15 t15 )))
      all_goals go_wp2_with fail
      all_goals go_meet
      all_goals have HL3 := HX.out.1.2
      all_goals have HL4 := HX.out.2.2
      all_goals first
        | exact ⟨_, _, _, _, _, rfl, rfl, dw_box NK.out R15.out T15.out G15.out CK.out BK.out XF.out, F15.out, ⟨by have := G15.out; omega, by have := G15.out; omega⟩, rfl⟩
        | exact ⟨_, _, _, _, _, rfl, rfl, (NK.out.go R15.out T15.out).new _ _, F15.out, ⟨by have := T15.out.chg.size; omega, by have := T15.out.chg.size; omega⟩, rfl⟩
    case rest =>
      obtain ⟨b5, X6, s6, k6, h6, rfl, rfl, hn, hf, hg, rfl⟩ := hcut
      have N7 := Lib.hid (show DW p w X wc X6 s6 (fun u => ((SlC u u.heap.size D0 d0 m.length (evs m) ∧ SlC u u.heap.size P0 cp L.length (evs L) ∧ SlC u u.heap.size K0 ck ks.length (ivs ks)) ∧ Blk u b0 66 #[.int .i64 k.1, .int .i64 k.2.1, .int .i64 k.2.2, .int .i64 h] ∧ Blk u b1 71 #[.slice D0 q d0] ∧ Blk u b2 77 #[.bool false, .slice P0 nl cp, .slice K0 nk ck] ∧ Blk u b3 66 #[.int .i64 0, .int .i64 0, .int .i64 0, .int .i64 0] ∧ Blk u b4 71 #[.slice none 0 0]) ∧ Blk u b5 66 #[.int .i64 k6.1, .int .i64 k6.2.1, .int .i64 k6.2.2, .int .i64 h6]) from hn.imp fun u h => ⟨HKK.out u h.1, h.2⟩)
      have F6 := Lib.hid hf
      have G5 := Lib.hid hg
      clear hn hf hg KS NK HKK SV HPt HEn
      have y0 := N7.out.now.1.2.2.1.cell 0
      have z1 := N7.out.now.1.2.2.2.1.cell 1
      have H8 := Lib.hid (mput_any N7.out.now.1.1.1 N7.out.now.1.1.2.1 (by rw [Hq.out]; exact hml) (by rw [Hnl.out]; omega))
      rw [Hnl.out, Hq.out] at H8
      have H8b := Lib.hid (show Calls Try.prog 44 #[.agg #[.slice D0 q d0], .slice P0 nl cp] wc (fun e w' => e = .returned (.tuple #[.agg #[.slice D0 q d0], .bool false]) ∧ Below wc.heap.size wc w') from H8.out.mono fun e w' he => by
        obtain ⟨(⟨-, e1⟩ | ⟨hn, -⟩), hb⟩ := he
        · exact ⟨e1, hb⟩
        · exact (Hok.out hn).elim)
      clear H8
      go_upto_region 10 with (go_at_call 44; (with_reducible refine H8b.out.mono ?_); rintro e w8 ⟨rfl, b8⟩; dsimp only; (have N8 := Lib.hid (N7.out.below b8)); clear b8)
      obtain ⟨b6, hb6⟩ : ∃ b, w8.heap.size = b := ⟨_, rfl⟩
      obtain ⟨U8, hU8⟩ : ∃ W, w8.alloc (.cells #[.slice D0 q d0] 71) = W := ⟨_, rfl⟩
      rw [hU8, hb6]
      have N9 := Lib.hid (by have := N8.out.new 71 #[.slice D0 q d0]; rw [hU8, hb6] at this; exact this)
      clear hb6 hU8 y0 z1 H8b
      have KS := Lib.hid (fun (V : World) (hc : Chg (fun b => b = b3 ∨ b = b4) U8 V) => show (fun u : World => u.cell? ⟨b0, 0, none⟩ = some (.int .i64 k.1) ∧ u.cell? ⟨b0, 1, none⟩ = some (.int .i64 k.2.1) ∧ u.cell? ⟨b0, 2, none⟩ = some (.int .i64 k.2.2) ∧ u.cell? ⟨b0, 3, none⟩ = some (.int .i64 h) ∧ u.cell? ⟨b1, 0, none⟩ = some (.slice D0 q d0) ∧ u.cell? ⟨p, 2, none⟩ = some (.int .i64 (ns : Int))) V from by
        have kp : ∀ b, b < U8.heap.size → b ≠ b3 → b ≠ b4 → V.heap[b]? = U8.heap[b]? := fun b hl h3 h4 => hc.block b hl fun hg => hg.elim h3 h4
        have hb := HB.out
        have B5 := N9.out.now.1.1.2.1.keep (kp _ N9.out.now.1.1.2.1.lt (by omega) (by omega))
        have B6 := N9.out.now.1.1.2.2.1.keep (kp _ N9.out.now.1.1.2.2.1.lt (by omega) (by omega))
        have vs := mrep_sv (N9.out.rep.keep hc fun b hb hg => hg.elim (fun e => F6.out.1 (e ▸ hb)) fun e => F6.out.2 (e ▸ hb))
        rw [Hsv.out] at vs
        exact ⟨B5.cell 0, B5.cell 1, B5.cell 2, B5.cell 3, B6.cell 0, vs⟩)
      go_upto_region 11 with fail
      obtain ⟨s1, s2, s3, s4, s5, -, -, -, -, -, ⟨p1, p2, p3, p4, p5⟩, -, ⟨f1, f2, f3, f4, f5⟩, -, ⟨i1, i2, i3, i4, i5⟩, -, ⟨cA, cB, -, -⟩, ⟨e1, e2⟩, -⟩ := do_end N9.out.now.1.1.2.2.2.2.1 N9.out.now.1.1.2.2.2.2.2 HB.out.2.2.1 (.int .i64 k.1) (.int .i64 k.2.1) (.int .i64 k.2.2) (.int .i64 h) (.slice D0 q d0)
      have CA := Lib.hid cA
      have CB := Lib.hid cB
      have E1 := Lib.hid (And.intro e1 e2)
      clear cA cB e1 e2
      have hee : ((ns : Int) == (ns : Int)) = true := by simp
      go_region_held3 (fun u => u.cell? ⟨b0, 0, none⟩ = some (.int .i64 k.1) ∧ u.cell? ⟨b0, 1, none⟩ = some (.int .i64 k.2.1) ∧ u.cell? ⟨b0, 2, none⟩ = some (.int .i64 k.2.2) ∧ u.cell? ⟨b0, 3, none⟩ = some (.int .i64 h) ∧ u.cell? ⟨b1, 0, none⟩ = some (.slice D0 q d0) ∧ u.cell? ⟨p, 2, none⟩ = some (.int .i64 (ns : Int))) (first | exact KS.out _ (Chg.refl _ _).drew | exact KS.out _ CA.out.drew | exact KS.out _ CB.out.drew) (fail)
      have u0 := E1.out.1.cell 0
      have u1 := E1.out.1.cell 1
      have u2 := E1.out.1.cell 2
      have u3 := E1.out.1.cell 3
      have u4 := E1.out.2.cell 0
      clear f1 f2 f3 f4 f5 i1 i2 i3 i4 i5 p1 p2 p3 p4 p5
      go_wp2_with fail
      have Ed := N9.out.chg2 CB.out F6.out ⟨HB.out.1, HB.out.2.1⟩ HM0.out
      refine bodyPost_ret (v := .tuple #[Tr.rootV k h, .agg #[.slice D0 q d0], .bool true]) ?_ rfl ⟨X6, s6, k, h, D0, d0, by rw [Hq.out], Ed.1, Ed.2.1, ⟨0, Tr.KS.mor ⟨rfl, rfl, rfl, rfl⟩, Nat.zero_le _⟩, Hk.out, Ed.2.2⟩
      simp [results, Try.results33]
      go_simp
      simp [Tr.rootV]
end Go.Proofs.Ytlcchefiicalpaa
