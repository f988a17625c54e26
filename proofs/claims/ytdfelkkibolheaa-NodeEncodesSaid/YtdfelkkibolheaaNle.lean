/- The statement NodeEncodes. -/
import Derived.Test.YtdfelkkibolheaaNlf
namespace Go.Proofs.Ytdfelkkibolheaa
open Go.RowKit Vint

set_option maxRecDepth 8000 in
set_option maxHeartbeats 16000000 in
theorem encodes_any {w : World} {v : Value} {n : Nd.N} (h : NdAt w w.heap.size v n) : Calls Try.prog 9 #[v] w fun e w' => e = .returned (.bool true) ∧ Below w.heap.size w w' := by
  obtain ⟨A1, c1, A2, c2, A3, c3, A4, c4, rfl, hf⟩ := h
  obtain ⟨W, hW⟩ : ∃ W, w.alloc (.cells #[.int .i64 n.h, .slice A1 n.ks.length c1, .slice A2 n.ps.length c2, .slice A3 n.gs.length c3, .slice A4 n.cs.length c4] 60) = W := ⟨_, rfl⟩
  obtain ⟨b, hb⟩ : ∃ b, w.heap.size = b := ⟨_, rfl⟩
  have b0 : Below b w W := by rw [← hW, ← hb]; exact (Below.refl _ _).alloc (Nat.le_refl _) _
  have nb : NB 60 W b n A1 c1 A2 c2 A3 c3 A4 c4 := ⟨by rw [← hW, ← hb]; exact Blk.new _ _ _, (hf.below (by rw [hb]; exact b0)).more (by rw [hb]; exact Nat.le_trans (Nat.le_of_eq hb.symm) b0.size)⟩
  have HB := Lib.hid (show Below b w W ∧ b ≤ W.heap.size from ⟨b0, Nat.le_trans (Nat.le_of_eq hb.symm) b0.size⟩)
  have Cs := Lib.hid (fun (V : World) (h : Below W.heap.size W V) => show V.cell? ⟨b, 0, none⟩ = some (.int .i64 n.h) ∧ V.cell? ⟨b, 1, none⟩ = some (.slice A1 n.ks.length c1) ∧ V.cell? ⟨b, 2, none⟩ = some (.slice A2 n.ps.length c2) ∧ V.cell? ⟨b, 3, none⟩ = some (.slice A3 n.gs.length c3) ∧ V.cell? ⟨b, 4, none⟩ = some (.slice A4 n.cs.length c4) from (nb.below h).cells)
  have NA := Lib.hid (fun (V : World) (h : Below W.heap.size W V) => show NdAt V V.heap.size (.agg #[.int .i64 n.h, .slice A1 n.ks.length c1, .slice A2 n.ps.length c2, .slice A3 n.gs.length c3, .slice A4 n.cs.length c4]) n from (nb.below h).at_)
  have Fi := Lib.hid (fun (V : World) (h : Below W.heap.size W V) => show Below b w V from b0.trans (h.mono (Nat.le_trans (Nat.le_of_eq hb.symm) b0.size)))
  have NK := Lib.hid (nawake_any W)
  rw [hb]
  obtain ⟨x0, x1, x2, x3, x4⟩ := Cs.out W (Below.refl _ _)
  clear nb b0 hf
  by_cases hfew : FewOk n
  case neg =>
    have hfw : decide (FewOk n) = false := decide_eq_false hfew
    clear hfew
    go_enter Try.func9, Try.ntmps9
    go_wp2_with (first
      | (go_at_call 40; ((with_reducible refine NK.out.mono ?_); rintro e w1 ⟨rfl, b1⟩; have B1 := Lib.hid b1; obtain ⟨x0, x1, x2, x3, x4⟩ := Cs.out w1 B1.out; have NF := Lib.hid (few_is (NA.out w1 B1.out) _ hfw); clear b1))
      | (go_at_call 41; ((with_reducible refine NF.out.mono ?_); rintro e w2 ⟨rfl, b2⟩; have B2 := Lib.hid (B1.out.trans (b2.mono B1.out.size)); obtain ⟨x0, x1, x2, x3, x4⟩ := Cs.out w2 B2.out; clear b2)))
    go_ret
    exact ⟨rfl, Fi.out _ B2.out⟩
  have hfw : decide (FewOk n) = true := decide_eq_true hfew
  have NN0 := Lib.hid (fun (V : World) (h : Below W.heap.size W V) => node_any (NA.out V h) hfew)
  by_cases hok : Nd.Ok n
  case neg =>
    have NP0 := Lib.hid (fun (V : World) (v : Value) (h : NdAt V V.heap.size v n) => may_any h false ⟨(fun h => by cases h), fun h => absurd h hok⟩)
    have NR0 := Lib.hid (fun (V : World) (h : Below W.heap.size W V) => rmay_any (NA.out V h) false ⟨(fun h => by cases h), fun h => absurd h hok⟩)
    have NE0 := Lib.hid (fun (V : World) (v : Value) (h : NdAt V V.heap.size v n) => enc_no h hok)
    have NF0 := Lib.hid (fun (V : World) (h : Below W.heap.size W V) => renc_no (NA.out V h) hok)
    have cz := fun (V : World) => (conv_b (w := V) (B := 0) (A := none) (cap := 0) (l := []) (Sl.nil _ _ _))
    have Cz := Lib.hid cz
    clear hfew hok cz
    go_enter Try.func9, Try.ntmps9
    go_upto_region 7 with (first
      | (go_at_call 40; ((with_reducible refine NK.out.mono ?_); rintro e w1 ⟨rfl, b1⟩; have B1 := Lib.hid b1; obtain ⟨x0, x1, x2, x3, x4⟩ := Cs.out w1 B1.out; have NF := Lib.hid (few_is (NA.out w1 B1.out) _ hfw); clear b1))
      | (go_at_call 41; ((with_reducible refine NF.out.mono ?_); rintro e w2 ⟨rfl, b2⟩; have B2 := Lib.hid (B1.out.trans (b2.mono B1.out.size)); obtain ⟨x0, x1, x2, x3, x4⟩ := Cs.out w2 B2.out; have NN := Lib.hid (NN0.out w2 B2.out); clear b2))
      | (go_at_call 43; ((with_reducible refine NN.out.mono ?_); rintro e w3 ⟨v3, rfl, g3, b3⟩; have B3 := Lib.hid (B2.out.trans (b3.mono B2.out.size)); obtain ⟨x0, x1, x2, x3, x4⟩ := Cs.out w3 B3.out; have NE := Lib.hid (NE0.out w3 v3 g3); clear g3; clear b3))
      | (go_at_call 42; ((with_reducible refine NE.out.mono ?_); rintro e w4 ⟨rfl, b4⟩; have B4 := Lib.hid (B3.out.trans (b4.mono B3.out.size)); obtain ⟨x0, x1, x2, x3, x4⟩ := Cs.out w4 B4.out; have NG := Lib.hid (NF0.out w4 B4.out); clear b4))
      | (go_at_call 44; ((with_reducible refine NG.out.mono ?_); rintro e w5 ⟨rfl, b5⟩; have B5 := Lib.hid (B4.out.trans (b5.mono B4.out.size)); obtain ⟨x0, x1, x2, x3, x4⟩ := Cs.out w5 B5.out; clear b5)))
    have Cb := Lib.hid (fun (V : World) (_ : Below w5.heap.size w5 V) => show (convert 24 9 (.slice none 0 0)).run Try.prog V = .ok (.string (bstr [])) V from Cz.out V)
    have Cc := Cb
    clear x0 x1 x2 x3 x4
    have Kp := Lib.hid (fun (V : World) (h : Below w5.heap.size w5 V) => show (V.cell? ⟨b, 0, none⟩ = some (.int .i64 n.h) ∧ V.cell? ⟨b, 1, none⟩ = some (.slice A1 n.ks.length c1) ∧ V.cell? ⟨b, 2, none⟩ = some (.slice A2 n.ps.length c2) ∧ V.cell? ⟨b, 3, none⟩ = some (.slice A3 n.gs.length c3) ∧ V.cell? ⟨b, 4, none⟩ = some (.slice A4 n.cs.length c4)) ∧ (convert 24 9 (.slice none 0 0)).run Try.prog V = .ok (.string (bstr [])) V ∧ (convert 24 9 (.slice none 0 0)).run Try.prog V = .ok (.string (bstr [])) V from ⟨Cs.out V (B5.out.trans (h.mono B5.out.size)), Cb.out V h, Cc.out V h⟩)
    have hbc : Below w5.heap.size w5 w5.drew := (Below.refl _ _).drew
    have NN2 := Lib.hid (NN0.out w5.drew (B5.out.trans (hbc.mono B5.out.size)))
    go_region_held3 (fun V => (V.cell? ⟨b, 0, none⟩ = some (.int .i64 n.h) ∧ V.cell? ⟨b, 1, none⟩ = some (.slice A1 n.ks.length c1) ∧ V.cell? ⟨b, 2, none⟩ = some (.slice A2 n.ps.length c2) ∧ V.cell? ⟨b, 3, none⟩ = some (.slice A3 n.gs.length c3) ∧ V.cell? ⟨b, 4, none⟩ = some (.slice A4 n.cs.length c4)) ∧ (convert 24 9 (.slice none 0 0)).run Try.prog V = .ok (.string (bstr [])) V ∧ (convert 24 9 (.slice none 0 0)).run Try.prog V = .ok (.string (bstr [])) V) (first | exact Kp.out _ hbc) (first
      | (go_at_call 43; ((with_reducible refine NN2.out.mono ?_); rintro e w6 ⟨v6, rfl, g6, b6⟩; have hbc := hbc.trans (b6.mono hbc.size); have NM := Lib.hid (NP0.out w6 v6 g6); clear b6 g6))
      | (go_at_call 45; ((with_reducible refine NM.out.mono ?_); rintro e w7 ⟨rfl, b7⟩; have hbc := hbc.trans (b7.mono hbc.size); have NQ := Lib.hid (NR0.out w7 (B5.out.trans (hbc.mono B5.out.size))); clear b7))
      | (go_at_call 46; ((with_reducible refine NQ.out.mono ?_); rintro e w8 ⟨rfl, b8⟩; have hbc := hbc.trans (b8.mono hbc.size); clear b8)))
    all_goals
      have Fin := Lib.hid (Fi.out _ (B5.out.trans (hbc.mono B5.out.size)))
      go_wp2_with fail
      go_ret
      exact ⟨rfl, Fin.out⟩
  have NP0 := Lib.hid (fun (V : World) (v : Value) (h : NdAt V V.heap.size v n) => may_any h true ⟨fun _ => hok, fun _ => rfl⟩)
  have NR0 := Lib.hid (fun (V : World) (h : Below W.heap.size W V) => rmay_any (NA.out V h) true ⟨fun _ => hok, fun _ => rfl⟩)
  have hd := dec_back hok
  have hel := enc_len hok
  have heb := enc_byte n
  obtain ⟨l, hle⟩ : ∃ l, l = Nd.enc n := ⟨_, rfl⟩
  rw [← hle] at hd hel heb
  obtain ⟨kl, hkl⟩ : ∃ k, k = l.length := ⟨_, rfl⟩
  have NE0 := Lib.hid (fun (V : World) (v : Value) (h : NdAt V V.heap.size v n) => show Calls Try.prog 42 #[v] V fun e w' => ∃ A' c', e = .returned (.tuple #[.slice A' kl c', .int .i64 0]) ∧ OY w' V.heap.size (.slice A' l.length c') l ∧ Below V.heap.size V w' from by rw [hkl, hle]; exact enc_ok h hok)
  have NF0 := Lib.hid (fun (V : World) (h : Below W.heap.size W V) => show Calls Try.prog 44 #[.agg #[.int .i64 n.h, .slice A1 n.ks.length c1, .slice A2 n.ps.length c2, .slice A3 n.gs.length c3, .slice A4 n.cs.length c4]] V fun e w' => ∃ A' c', e = .returned (.tuple #[.slice A' kl c', .int .i64 0]) ∧ OY w' V.heap.size (.slice A' l.length c') l ∧ Below V.heap.size V w' from by rw [hkl, hle]; exact renc_ok rnumC (NA.out V h) hok)
  have Cv := Lib.hid (fun (V V' : World) (B : Nat) (A' : Option Addr) (c' : Nat) (h : OY V B (.slice A' l.length c') l) (hb : Below V.heap.size V V') => show (convert 24 9 (.slice A' kl c')).run Try.prog V' = .ok (.string (bstr l)) V' from by rw [hkl]; exact conv_b ((oy_sl h).1.below hb))
  have ND0 := Lib.hid (fun (V V' : World) (B : Nat) (A' : Option Addr) (c' : Nat) (h : OY V B (.slice A' l.length c') l) (hb : Below V.heap.size V V') => show Calls Try.prog 47 #[.slice A' kl c'] V' fun e w' => ∃ v, e = .returned (.tuple #[v, .int .i64 0]) ∧ NdAt w' w'.heap.size v n ∧ Below V'.heap.size V' w' from by
    obtain ⟨s1, s2, s3⟩ := oy_sl h
    rw [hkl]
    refine (pdec_any ((s1.below hb).more hb.size) s2 s3 heb (by omega)).mono fun e w' h => ?_
    rw [hd] at h
    exact h)
  have Hfew := Lib.hid (ok_few hok)
  clear hfew hok hd hel heb hle hkl
  go_enter Try.func9, Try.ntmps9
  go_upto_region 7 with (first
    | (go_at_call 40; ((with_reducible refine NK.out.mono ?_); rintro e w1 ⟨rfl, b1⟩; have B1 := Lib.hid b1; obtain ⟨x0, x1, x2, x3, x4⟩ := Cs.out w1 B1.out; have NF := Lib.hid (few_is (NA.out w1 B1.out) _ hfw); clear b1))
    | (go_at_call 41; ((with_reducible refine NF.out.mono ?_); rintro e w2 ⟨rfl, b2⟩; have B2 := Lib.hid (B1.out.trans (b2.mono B1.out.size)); obtain ⟨x0, x1, x2, x3, x4⟩ := Cs.out w2 B2.out; have NN := Lib.hid (NN0.out w2 B2.out); clear b2))
    | (go_at_call 43; ((with_reducible refine NN.out.mono ?_); rintro e w3 ⟨v3, rfl, g3, b3⟩; have B3 := Lib.hid (B2.out.trans (b3.mono B2.out.size)); obtain ⟨x0, x1, x2, x3, x4⟩ := Cs.out w3 B3.out; have NE := Lib.hid (NE0.out w3 v3 g3); clear g3; clear b3))
    | (go_at_call 42; ((with_reducible refine NE.out.mono ?_); rintro e w4 ⟨A6, c6, rfl, o6, b4⟩; have B4 := Lib.hid (B3.out.trans (b4.mono B3.out.size)); obtain ⟨x0, x1, x2, x3, x4⟩ := Cs.out w4 B4.out; have O6 := Lib.hid o6; have NG := Lib.hid (NF0.out w4 B4.out); clear o6; clear b4))
    | (go_at_call 44; ((with_reducible refine NG.out.mono ?_); rintro e w5 ⟨A7, c7, rfl, o7, b5⟩; have B5 := Lib.hid (B4.out.trans (b5.mono B4.out.size)); obtain ⟨x0, x1, x2, x3, x4⟩ := Cs.out w5 B5.out; have O7 := Lib.hid o7; have H5 := Lib.hid b5; clear o7; clear b5)))
  have Cb := Lib.hid (fun (V : World) (h : Below w5.heap.size w5 V) => Cv.out w4 V _ A6 c6 O6.out (H5.out.trans (h.mono H5.out.size)))
  have Cc := Lib.hid (fun (V : World) (h : Below w5.heap.size w5 V) => Cv.out w5 V _ A7 c7 O7.out h)
  clear x0 x1 x2 x3 x4
  have Kp := Lib.hid (fun (V : World) (h : Below w5.heap.size w5 V) => show (V.cell? ⟨b, 0, none⟩ = some (.int .i64 n.h) ∧ V.cell? ⟨b, 1, none⟩ = some (.slice A1 n.ks.length c1) ∧ V.cell? ⟨b, 2, none⟩ = some (.slice A2 n.ps.length c2) ∧ V.cell? ⟨b, 3, none⟩ = some (.slice A3 n.gs.length c3) ∧ V.cell? ⟨b, 4, none⟩ = some (.slice A4 n.cs.length c4)) ∧ (convert 24 9 (.slice A6 kl c6)).run Try.prog V = .ok (.string (bstr l)) V ∧ (convert 24 9 (.slice A7 kl c7)).run Try.prog V = .ok (.string (bstr l)) V from ⟨Cs.out V (B5.out.trans (h.mono B5.out.size)), Cb.out V h, Cc.out V h⟩)
  have hbc : Below w5.heap.size w5 w5.drew := (Below.refl _ _).drew
  have NN2 := Lib.hid (NN0.out w5.drew (B5.out.trans (hbc.mono B5.out.size)))
  go_region_held3 (fun V => (V.cell? ⟨b, 0, none⟩ = some (.int .i64 n.h) ∧ V.cell? ⟨b, 1, none⟩ = some (.slice A1 n.ks.length c1) ∧ V.cell? ⟨b, 2, none⟩ = some (.slice A2 n.ps.length c2) ∧ V.cell? ⟨b, 3, none⟩ = some (.slice A3 n.gs.length c3) ∧ V.cell? ⟨b, 4, none⟩ = some (.slice A4 n.cs.length c4)) ∧ (convert 24 9 (.slice A6 kl c6)).run Try.prog V = .ok (.string (bstr l)) V ∧ (convert 24 9 (.slice A7 kl c7)).run Try.prog V = .ok (.string (bstr l)) V) (first | exact Kp.out _ hbc) (first
    | (go_at_call 43; ((with_reducible refine NN2.out.mono ?_); rintro e w6 ⟨v6, rfl, g6, b6⟩; have hbc := hbc.trans (b6.mono hbc.size); have NM := Lib.hid (NP0.out w6 v6 g6); clear b6 g6))
    | (go_at_call 45; ((with_reducible refine NM.out.mono ?_); rintro e w7 ⟨rfl, b7⟩; have hbc := hbc.trans (b7.mono hbc.size); have NQ := Lib.hid (NR0.out w7 (B5.out.trans (hbc.mono B5.out.size))); clear b7))
    | (go_at_call 46; ((with_reducible refine NQ.out.mono ?_); rintro e w8 ⟨rfl, b8⟩; have hbc := hbc.trans (b8.mono hbc.size); clear b8)))
  all_goals
    have NC := Lib.hid (ND0.out w4 w8 _ A6 c6 O6.out (H5.out.trans (hbc.mono H5.out.size)))
    obtain ⟨⟨x0, x1, x2, x3, x4⟩, -, -⟩ := Kp.out _ hbc
    have B8 := Lib.hid (B5.out.trans (hbc.mono B5.out.size))
    go_upto_region 12 with (go_at_call 47; ((with_reducible refine NC.out.mono ?_); rintro e w9 ⟨v9, rfl, g9, b9⟩; have B9 := Lib.hid (B8.out.trans (b9.mono B8.out.size)); obtain ⟨X1, y1, X2, y2, X3, y3, X4, y4, rfl, nx⟩ := nb_box g9 66; clear b9 g9))
    obtain ⟨gx, hgx⟩ : ∃ g, w9.heap.size = g := ⟨_, rfl⟩
    obtain ⟨W9, h9⟩ : ∃ W, w9.alloc (.cells #[.int .i64 n.h, .slice X1 n.ks.length y1, .slice X2 n.ps.length y2, .slice X3 n.gs.length y3, .slice X4 n.cs.length y4] 66) = W := ⟨_, rfl⟩
    rw [h9, hgx] at nx
    rw [h9, hgx]
    have BX := Lib.hid (show Below W.heap.size W W9 from by rw [← h9]; exact B9.out.alloc B9.out.size _)
    have HX := Lib.hid nx
    have Kq := Lib.hid (fun (V : World) (h : Below W9.heap.size W9 V) => show (V.cell? ⟨b, 0, none⟩ = some (.int .i64 n.h) ∧ V.cell? ⟨b, 1, none⟩ = some (.slice A1 n.ks.length c1) ∧ V.cell? ⟨b, 2, none⟩ = some (.slice A2 n.ps.length c2) ∧ V.cell? ⟨b, 3, none⟩ = some (.slice A3 n.gs.length c3) ∧ V.cell? ⟨b, 4, none⟩ = some (.slice A4 n.cs.length c4)) ∧ (V.cell? ⟨gx, 0, none⟩ = some (.int .i64 n.h) ∧ V.cell? ⟨gx, 1, none⟩ = some (.slice X1 n.ks.length y1) ∧ V.cell? ⟨gx, 2, none⟩ = some (.slice X2 n.ps.length y2) ∧ V.cell? ⟨gx, 3, none⟩ = some (.slice X3 n.gs.length y3) ∧ V.cell? ⟨gx, 4, none⟩ = some (.slice X4 n.cs.length y4)) from ⟨Cs.out V (BX.out.trans (h.mono BX.out.size)), (HX.out.below h).cells⟩)
    have hbd : Below W9.heap.size W9 W9.drew := (Below.refl _ _).drew
    have NBk := Lib.hid (back_any (HX.out.below hbd).at_ Hfew.out.1)
    clear nx x0 x1 x2 x3 x4 h9
    go_region_held3 (fun V => (V.cell? ⟨b, 0, none⟩ = some (.int .i64 n.h) ∧ V.cell? ⟨b, 1, none⟩ = some (.slice A1 n.ks.length c1) ∧ V.cell? ⟨b, 2, none⟩ = some (.slice A2 n.ps.length c2) ∧ V.cell? ⟨b, 3, none⟩ = some (.slice A3 n.gs.length c3) ∧ V.cell? ⟨b, 4, none⟩ = some (.slice A4 n.cs.length c4)) ∧ (V.cell? ⟨gx, 0, none⟩ = some (.int .i64 n.h) ∧ V.cell? ⟨gx, 1, none⟩ = some (.slice X1 n.ks.length y1) ∧ V.cell? ⟨gx, 2, none⟩ = some (.slice X2 n.ps.length y2) ∧ V.cell? ⟨gx, 3, none⟩ = some (.slice X3 n.gs.length y3) ∧ V.cell? ⟨gx, 4, none⟩ = some (.slice X4 n.cs.length y4))) (first | exact Kq.out _ hbd) (first
      | (go_at_call 49; ((with_reducible refine NBk.out.mono ?_); rintro e w10 ⟨v10, rfl, g10, b10⟩; have hbd := hbd.trans (b10.mono hbd.size); have NS := Lib.hid (same_any g10 (NA.out w10 (BX.out.trans (hbd.mono BX.out.size))) Hfew.out.2 Hfew.out.1); clear b10 g10))
      | (go_at_call 48; ((with_reducible refine NS.out.mono ?_); rintro e w11 ⟨rfl, b11⟩; have hbd := hbd.trans (b11.mono hbd.size); clear b11)))
    all_goals
      have Fin := Lib.hid (Fi.out _ (BX.out.trans (hbd.mono BX.out.size)))
      go_wp2_with fail
      go_ret
      exact ⟨rfl, Fin.out⟩
end Go.Proofs.Ytdfelkkibolheaa
