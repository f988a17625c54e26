/- The statement NodeCuts. -/
import Derived.Test.YtdfelkkibolheaaNlf
namespace Go.Proofs.Ytdfelkkibolheaa
open Go.RowKit Vint

theorem enc_two (n : Nd.N) : 2 ≤ (Nd.enc n).length := by
  rw [Nd.enc_is, List.length_append, List.length_append]
  have h1 := Vint.vint_pos n.h.toNat
  have h2 := Vint.vint_pos n.ks.length
  omega
theorem dec_one {n : Nd.N} (h : Nd.Ok n) : Nd.dec (Nd.enc n ++ [0]) = (Nd.zero, 3) := by
  rw [Nd.dec_enc h [0], if_pos (by simp)]
theorem sl_one8 {w : World} : Sl (w.alloc (.cells #[.int .u8 0] 5)) (w.heap.size + 1) (some ⟨w.heap.size, 0, none⟩) (byts [0]) := .inr ⟨w.heap.size, 0, rfl, by omega, fun i hi => by
  have : i = 0 := by have : i < 1 := hi; omega
  subst this
  exact (Blk.new w _ _).cell _⟩
set_option maxRecDepth 8000 in
set_option maxHeartbeats 16000000 in
theorem cuts_any {w : World} {v : Value} {n : Nd.N} (h : NdAt w w.heap.size v n) (q : Nat) (hq : q < 65536) : Calls Try.prog 12 #[v, .int .u16 (q : Int)] w fun e w' => e = .returned (.bool true) ∧ Below w.heap.size w w' := by
  obtain ⟨A1, c1, A2, c2, A3, c3, A4, c4, rfl, hf⟩ := h
  obtain ⟨W, hW⟩ : ∃ W, w.alloc (.cells #[.int .i64 n.h, .slice A1 n.ks.length c1, .slice A2 n.ps.length c2, .slice A3 n.gs.length c3, .slice A4 n.cs.length c4] 60) = W := ⟨_, rfl⟩
  obtain ⟨b, hb⟩ : ∃ b, w.heap.size = b := ⟨_, rfl⟩
  have b0 : Below b w W := by rw [← hW, ← hb]; exact (Below.refl _ _).alloc (Nat.le_refl _) _
  have nb : NB 60 W b n A1 c1 A2 c2 A3 c3 A4 c4 := ⟨by rw [← hW, ← hb]; exact Blk.new _ _ _, (hf.below (by rw [hb]; exact b0)).more (by rw [hb]; exact Nat.le_trans (Nat.le_of_eq hb.symm) b0.size)⟩
  have HB := Lib.hid (show Below b w W ∧ b ≤ W.heap.size from ⟨b0, Nat.le_trans (Nat.le_of_eq hb.symm) b0.size⟩)
  have Cs := Lib.hid (fun (V : World) (h : Below W.heap.size W V) => show V.cell? ⟨b, 0, none⟩ = some (.int .i64 n.h) ∧ V.cell? ⟨b, 1, none⟩ = some (.slice A1 n.ks.length c1) ∧ V.cell? ⟨b, 2, none⟩ = some (.slice A2 n.ps.length c2) ∧ V.cell? ⟨b, 3, none⟩ = some (.slice A3 n.gs.length c3) ∧ V.cell? ⟨b, 4, none⟩ = some (.slice A4 n.cs.length c4) from (nb.below h).cells)
  have NA := Lib.hid (fun (V : World) (h : Below W.heap.size W V) => show NdAt V V.heap.size (.agg #[.int .i64 n.h, .slice A1 n.ks.length c1, .slice A2 n.ps.length c2, .slice A3 n.gs.length c3, .slice A4 n.cs.length c4]) n from (nb.below h).at_)
  have Fi := Lib.hid (fun (V : World) (h : Below W.heap.size W V) => show Below b w V from b0.trans (h.mono (Nat.le_trans (Nat.le_of_eq hb.symm) b0.size)))
  have NK := Lib.hid (nawake_any W)
  rw [hb]
  obtain ⟨x0, x1, x2, x3, x4⟩ := Cs.out W (Below.refl _ _)
  clear nb b0 hf
  by_cases hfew : FewOk n
  case neg =>
    have hfw : decide (FewOk n) = false := decide_eq_false hfew
    clear hfew
    go_enter Try.func12, Try.ntmps12
    go_wp2_with (first
      | (go_at_call 40; ((with_reducible refine NK.out.mono ?_); rintro e w1 ⟨rfl, b1⟩; have B1 := Lib.hid b1; obtain ⟨x0, x1, x2, x3, x4⟩ := Cs.out w1 B1.out; have NF := Lib.hid (few_is (NA.out w1 B1.out) _ hfw); clear b1))
      | (go_at_call 41; ((with_reducible refine NF.out.mono ?_); rintro e w2 ⟨rfl, b2⟩; have B2 := Lib.hid (B1.out.trans (b2.mono B1.out.size)); obtain ⟨x0, x1, x2, x3, x4⟩ := Cs.out w2 B2.out; clear b2)))
    go_ret
    exact ⟨rfl, Fi.out _ B2.out⟩
  have hfw : decide (FewOk n) = true := decide_eq_true hfew
  by_cases hok : Nd.Ok n
  case neg =>
    have NM0 := Lib.hid (fun (V : World) (h : Below W.heap.size W V) => rmay_any (NA.out V h) false ⟨(fun h => by cases h), fun h => absurd h hok⟩)
    clear hfew hok
    go_enter Try.func12, Try.ntmps12
    go_wp2_with (first
      | (go_at_call 40; ((with_reducible refine NK.out.mono ?_); rintro e w1 ⟨rfl, b1⟩; have B1 := Lib.hid b1; obtain ⟨x0, x1, x2, x3, x4⟩ := Cs.out w1 B1.out; have NF := Lib.hid (few_is (NA.out w1 B1.out) _ hfw); clear b1))
      | (go_at_call 41; ((with_reducible refine NF.out.mono ?_); rintro e w2 ⟨rfl, b2⟩; have B2 := Lib.hid (B1.out.trans (b2.mono B1.out.size)); obtain ⟨x0, x1, x2, x3, x4⟩ := Cs.out w2 B2.out; have NM := Lib.hid (NM0.out w2 B2.out); clear b2))
      | (go_at_call 46; ((with_reducible refine NM.out.mono ?_); rintro e w3 ⟨rfl, b3⟩; have B3 := Lib.hid (B2.out.trans (b3.mono B2.out.size)); obtain ⟨x0, x1, x2, x3, x4⟩ := Cs.out w3 B3.out; clear b3)))
    go_ret
    exact ⟨rfl, Fi.out _ B3.out⟩
  have NM0 := Lib.hid (fun (V : World) (h : Below W.heap.size W V) => rmay_any (NA.out V h) true ⟨fun _ => hok, fun _ => rfl⟩)
  have NN0 := Lib.hid (fun (V : World) (h : Below W.heap.size W V) => node_any (NA.out V h) hfew)
  have hd1 := dec_one hok
  have hd2 := fun (j : Nat) (h : j < (Nd.enc n).length) => Nd.dec_cut hok j h
  have hel := enc_len hok
  have hel2 := enc_two n
  have heb := enc_byte n
  obtain ⟨l, hle⟩ : ∃ l, l = Nd.enc n := ⟨_, rfl⟩
  rw [← hle] at hd1 hd2 hel hel2 heb
  obtain ⟨kl, hkl⟩ : ∃ k, k = l.length := ⟨_, rfl⟩
  have NE0 := Lib.hid (fun (V : World) (v : Value) (h : NdAt V V.heap.size v n) => show Calls Try.prog 42 #[v] V fun e w' => ∃ A' c', e = .returned (.tuple #[.slice A' kl c', .int .i64 0]) ∧ OY w' V.heap.size (.slice A' l.length c') l ∧ Below V.heap.size V w' from by rw [hkl, hle]; exact enc_ok h hok)
  rw [← hkl] at hel hel2 hd2
  obtain ⟨t, ht⟩ : ∃ t, t = q % kl := ⟨_, rfl⟩
  have htl : t < kl := by rw [ht]; exact Nat.mod_lt _ (by omega)
  have hrem : (q : Int).tmod (kl : Int) = (t : Int) := by rw [ht]; exact (Int.ofNat_tmod q kl).symm
  have ND1 := Lib.hid (fun (V V' : World) (B : Nat) (A' : Option Addr) (c' : Nat) (h : OY V B (.slice A' l.length c') l) (hb : Below V.heap.size V V') => show Calls Try.prog 47 #[.slice A' t c'] V' fun e w' => ∃ v, e = .returned (.tuple #[v, .int .i64 2]) ∧ NdAt w' w'.heap.size v Nd.zero ∧ Below V'.heap.size V' w' from by
    obtain ⟨s1, s2, s3⟩ := oy_sl h
    have hlt : (l.take t).length = t := by rw [List.length_take]; omega
    have hs : Sl V' V'.heap.size A' (byts (l.take t)) := by rw [← byts_take]; exact ((s1.below hb).more hb.size).to t
    have := pdec_any (c := c') hs (by omega) s3 (fun x hx => heb x (List.mem_of_mem_take hx)) (by omega)
    rw [hlt, hd2 t htl] at this
    exact this)
  have ND2 := Lib.hid (fun (V : World) (B : Nat) (A' : Option Addr) (c' : Nat) (h : V.ownsRow B 5 1 (.slice A' (kl + 1) c') (kl + 1) (byts (l ++ [0]))) => show Calls Try.prog 47 #[.slice A' (kl + 1) c'] V fun e w' => ∃ v, e = .returned (.tuple #[v, .int .i64 3]) ∧ NdAt w' w'.heap.size v Nd.zero ∧ Below V.heap.size V w' from by
    have hl1 : (l ++ [0]).length = kl + 1 := by rw [List.length_append, hkl]; rfl
    rw [← hl1] at h ⊢
    have := pdec_any (c := c') (Sl.of_own h) (own_len h) (own_none h) (fun x hx => by
      rcases List.mem_append.1 hx with hx | hx
      · exact heb x hx
      · have : x = 0 := by simpa using hx
        omega) (by omega)
    rw [hd1] at this
    exact this)
  have Osl := Lib.hid (fun (V V' : World) (B : Nat) (A' : Option Addr) (c' : Nat) (h : OY V B (.slice A' l.length c') l) (hb : Below V.heap.size V V') => show Sl V' V.heap.size A' (byts l) ∧ kl ≤ c' ∧ (A' = none → c' = 0) from by
    obtain ⟨s1, s2, s3⟩ := oy_sl h
    exact ⟨s1.below hb, by rw [hkl]; exact s2, s3⟩)
  have bl : (byts l).length = kl := by rw [byts_length, hkl]
  have z1 : ((kl : Int) == 0) = false := by rw [beq_eq_false_iff_ne]; omega
  have z2 : decide ((kl : Int) < 2) = false := by rw [decide_eq_false_iff_not]; omega
  have z2' : decide (kl < 2) = false := by rw [decide_eq_false_iff_not]; omega
  have Bl := Lib.hid bl
  clear hfew hok hd1 hd2 heb hle hkl ht bl
  go_enter Try.func12, Try.ntmps12
  go_upto_region 8 with (first
    | (go_at_call 40; ((with_reducible refine NK.out.mono ?_); rintro e w1 ⟨rfl, b1⟩; have B1 := Lib.hid b1; obtain ⟨x0, x1, x2, x3, x4⟩ := Cs.out w1 B1.out; have NF := Lib.hid (few_is (NA.out w1 B1.out) _ hfw); clear b1))
    | (go_at_call 41; ((with_reducible refine NF.out.mono ?_); rintro e w2 ⟨rfl, b2⟩; have B2 := Lib.hid (B1.out.trans (b2.mono B1.out.size)); obtain ⟨x0, x1, x2, x3, x4⟩ := Cs.out w2 B2.out; have NM := Lib.hid (NM0.out w2 B2.out); clear b2))
    | (go_at_call 46; ((with_reducible refine NM.out.mono ?_); rintro e w3 ⟨rfl, b3⟩; have B3 := Lib.hid (B2.out.trans (b3.mono B2.out.size)); obtain ⟨x0, x1, x2, x3, x4⟩ := Cs.out w3 B3.out; have NN := Lib.hid (NN0.out w3 B3.out); clear b3))
    | (go_at_call 43; ((with_reducible refine NN.out.mono ?_); rintro e w4 ⟨v4, rfl, g4, b4⟩; have B4 := Lib.hid (B3.out.trans (b4.mono B3.out.size)); obtain ⟨x0, x1, x2, x3, x4⟩ := Cs.out w4 B4.out; have NE := Lib.hid (NE0.out w4 v4 g4); clear g4; clear b4))
    | (go_at_call 42; ((with_reducible refine NE.out.mono ?_); rintro e w5 ⟨A6, c6, rfl, o6, b5⟩; have B5 := Lib.hid (B4.out.trans (b5.mono B4.out.size)); obtain ⟨x0, x1, x2, x3, x4⟩ := Cs.out w5 B5.out; have O6 := Lib.hid o6; clear o6; clear b5)))
  obtain ⟨i0, hi0, hz0, hs0, hb0⟩ := byte_parts (P := Try.prog) (e := 5) (by kernel_rfl)
  obtain ⟨s1, s2, s3⟩ := Osl.out w5 w5 _ A6 c6 O6.out (Below.refl _ _)
  have cut := run_slice_to Try.underlying24 hi0 A6 kl c6 t (by omega)
  have NC := Lib.hid (ND1.out w5 w5 _ A6 c6 O6.out (Below.refl _ _))
  clear s1 s3 x0 x1 x2 x3 x4
  go_upto_region 9 with (go_at_call 47; ((with_reducible refine NC.out.mono ?_); rintro e w6 ⟨v6, rfl, g6, b6⟩; have H6 := Lib.hid b6; obtain ⟨X1, y1, X2, y2, X3, y3, X4, y4, rfl, nx⟩ := nb_box g6 66; clear b6 g6 nx))
  obtain ⟨W7, h7⟩ : ∃ W, w6.alloc (.cells #[.int .i64 Nd.zero.h, .slice X1 Nd.zero.ks.length y1, .slice X2 Nd.zero.ps.length y2, .slice X3 Nd.zero.gs.length y3, .slice X4 Nd.zero.cs.length y4] 66) = W := ⟨_, rfl⟩
  rw [h7]
  have hw7 : Below w5.heap.size w5 W7 := by rw [← h7]; exact H6.out.alloc H6.out.size _
  have B7 := Lib.hid (B5.out.trans (hw7.mono B5.out.size))
  obtain ⟨H, hH⟩ : ∃ H, W7.heap.size = H := ⟨_, rfl⟩
  have hWH : W.heap.size ≤ H := by rw [← hH]; exact B7.out.size
  have HWH := Lib.hid hWH
  obtain ⟨s1, s2, s3⟩ := Osl.out w5 (W7.alloc (.cells #[] 5)) _ A6 c6 O6.out (hw7.alloc hw7.size _)
  have S1 := Lib.hid s1
  have oe := own_empty (e := 5) (size := 1) W7
  rw [hH] at oe
  have OE := Lib.hid oe
  have B7a := Lib.hid (B7.out.alloc B7.out.size (.cells #[] 5))
  clear s1 oe h7 hw7 cut hWH
  go_wp2_with (first
    | (at_builtin; refine wpList_append_sl (base := H) _ rfl (.tmp 46) (.tmp 47) _ rfl Try.underlying24 hi0 hz0 hs0 hb0 rfl (v := .slice (some ⟨H, 0, none⟩) 0 0) rfl OE.out rfl (m := kl) (news := byts l) Bl.out.symm s3 S1.out (byts_one _) (by rw [Bl.out]; exact s2) (by rw [Bl.out]; unfold maxLen; omega) (by rw [Bl.out]; omega) (by rw [← hH]; simp) ?_; intro v8 w8 g1 g2 g3; rw [Bl.out, Nat.zero_add, List.nil_append] at g1; obtain ⟨A8, c8, rfl⟩ := own_slice g1; have O8 := Lib.hid (own_al g1 (.cells #[.int .u8 0] 5)); have B8 := Lib.hid ((B7a.out.grown g2 B7a.out.size (fun g hg => by have := (OE.out.lt g hg).1; have := HWH.out; omega)).alloc (Nat.le_trans B7a.out.size g2.size) (.cells #[.int .u8 0] 5)); have h8 : H ≤ w8.heap.size := (by have := g2.size; have : (W7.alloc (.cells #[] 5)).heap.size = H + 1 := (by rw [← hH]; simp); omega); clear g1 g2 g3)
    | (at_builtin; refine wpList_append_sl (base := H) _ rfl (.tmp 48) (.tmp 49) _ rfl Try.underlying24 hi0 hz0 hs0 hb0 rfl (v := .slice A8 kl c8) rfl O8.out rfl (m := 1) (news := byts [0]) rfl (fun h => by cases h) sl_one8 (byts_one _) (Nat.le_refl _) (by rw [byts_length]; unfold maxLen; simp; omega) (by rw [byts_length]; simp; omega) (by simp; omega) ?_; intro v9 w9 g1 g2 g3; rw [byts_join, byts_length] at g1; obtain ⟨A9, c9, rfl⟩ := own_slice g1; have B9 := Lib.hid (B8.out.grown g2 B8.out.size (fun g hg => by have := (O8.out.lt g hg).1; have := HWH.out; omega)); have NC2 := Lib.hid (ND2.out w9 H A9 c9 g1); clear g1 g2 g3)
    | (go_at_call 47; ((with_reducible refine NC2.out.mono ?_); rintro e w10 ⟨v10, rfl, g10, b10⟩; have B10 := Lib.hid (B9.out.trans (b10.mono B9.out.size)); obtain ⟨Y1, z1', Y2, z2'', Y3, z3', Y4, z4', rfl, ny⟩ := nb_box g10 66; clear b10 g10 ny)))
  have Fin := Lib.hid (Fi.out _ (B10.out.alloc B10.out.size (.cells #[.int .i64 Nd.zero.h, .slice Y1 Nd.zero.ks.length z1', .slice Y2 Nd.zero.ps.length z2'', .slice Y3 Nd.zero.gs.length z3', .slice Y4 Nd.zero.cs.length z4'] 66)))
  go_ret
  exact ⟨rfl, Fin.out⟩
end Go.Proofs.Ytdfelkkibolheaa
