/- The program's edited. -/
import Derived.Test.YtlcchefiicalpaaZwcd
namespace Go.Proofs.Ytlcchefiicalpaa
open Go.RowKit
theorem merged_n {w : World} {X : Nat → Prop} {L M : List Tr.E} {A : Option Addr} {c N K : Nat} {eds : List Tr.Ed} {Ae : Option Addr} {ce n : Nat} (hX : ∀ b, X b → b < w.heap.size) (hl : PLX X w 0 L A c) (hN : L.length = N) (few : N ≤ 1000000) (he : SlC w w.heap.size Ae ce n (edcs eds)) (hn : eds.length = n) (few2 : n ≤ 1000000) (hM : Tr.merged eds L = M) (hK : M.length = K) :
    Calls Try.prog 95 #[.slice A N c, .slice Ae n ce] w fun e w' => ∃ A' c', e = .returned (.slice A' K c') ∧ Below w.heap.size w w' ∧ PLX X w' 0 M A' c' := by
  subst hN
  subst hM
  subst hK
  refine (merged_any hX hl few he hn few2).mono ?_
  rintro e w' ⟨h1, A', c', h2, h3⟩
  exact ⟨A', c', h2, h1, h3⟩
open Classical in
theorem ne_dec {L M : List Tr.E} {q : Bool} (hq : decide (L ≠ M) = q) : (!q) = true ↔ (L.map pcE).map (·.e) = (M.map pcE).map (·.e) := by
  rw [mapE, mapE, ← hq]
  simp
section
variable {σ : Type} (D : StoI σ)
open Classical in
set_option maxRecDepth 8000 in
set_option maxHeartbeats 8000000 in
theorem edited_zero : EdtC D 0 := by
  intro w X st b eds A c n hr hh he hn few ha
  obtain ⟨W0, hW0⟩ : ∃ W, w.alloc (.cells #[.int .i64 b.k.1, .int .i64 b.k.2.1, .int .i64 b.k.2.2, .int .i64 b.h, .int .i64 b.f, .int .i64 b.t] 137) = W := ⟨_, rfl⟩
  have bx0 : Blk W0 w.heap.size 137 #[.int .i64 b.k.1, .int .i64 b.k.2.1, .int .i64 b.k.2.2, .int .i64 b.h, .int .i64 b.f, .int .i64 b.t] := by rw [← hW0]; exact Blk.new _ _ _
  have hb0 : Below w.heap.size w W0 := by rw [← hW0]; exact below_alloc1 _ _
  have hXx := D.fresh hr
  have hR := D.below hr hb0
  have HS0 := Lib.hid (Stp.of_below X hb0)
  have HE := Lib.hid he
  have HW0 := Lib.hid hb0.size
  obtain ⟨bb, hbb⟩ : ∃ g, w.heap.size = g := ⟨_, rfl⟩
  rw [hbb] at bx0 hXx
  have HB := Lib.hid bx0
  have HX := Lib.hid hXx
  have x0 : W0.cell? ⟨bb, 0, none⟩ = some (.int .i64 b.k.1) := bx0.cell 0
  have x1 : W0.cell? ⟨bb, 1, none⟩ = some (.int .i64 b.k.2.1) := bx0.cell 1
  have x2 : W0.cell? ⟨bb, 2, none⟩ = some (.int .i64 b.k.2.2) := bx0.cell 2
  have x3 : W0.cell? ⟨bb, 3, none⟩ = some (.int .i64 b.h) := bx0.cell 3
  have x4 : W0.cell? ⟨bb, 4, none⟩ = some (.int .i64 b.f) := bx0.cell 4
  have x5 : W0.cell? ⟨bb, 5, none⟩ = some (.int .i64 b.t) := bx0.cell 5
  have HC := partsof_own D hR b 0 hh
  have Hn := Lib.hid hn
  rcases hld : Tr.load D.S st b with ⟨st1, er | nn⟩
  · have e1 : Tr.partsOf D.S 0 st b = (st1, .error er) := by unfold Tr.partsOf; rw [hld]
    have e2 : Tr.edited D.S 0 st b eds = (st1, .error er) := by unfold Tr.edited; rw [hld]
    have her := load_err D (st := st) (b := b) (e := er) (by rw [hld])
    have zE : ((er : Int) != 0) = true := by simpa using her
    rw [e1] at HC
    rw [e2]
    unfold PsO at HC
    dsimp only at HC ⊢
    have Her := Lib.hid her
    clear hr he hn ha bx0 hb0 hXx hR hld e1 e2 her hh
    unfold Tr.brV at HC ⊢
    go_enter Try.func87, Try.ntmps87
    go_wp2_with (go_at_call 94; (with_reducible refine HC.mono ?_); rintro e w2 ⟨X2, hR2, hS2, A2, n2, c2, q2, rfl, hq2, -, rfl, rfl, rfl⟩; subst q2; (have P2 := Lib.hid (show D.Rep w2 X2 st1 ∧ Stp w X w2 X2 from ⟨hR2, HS0.out.trans hS2⟩)); clear hR2 hS2)
    go_returns
    exact ⟨X2, P2.out.1, P2.out.2, Her.out, false, rfl⟩
  · have hf := load_fits D (st := st) (b := b) (n := nn) (by rw [hld])
    obtain ⟨L, hL⟩ : ∃ L, Tr.leaf nn = L := ⟨_, rfl⟩
    obtain ⟨M, hM⟩ : ∃ M, Tr.merged eds L = M := ⟨_, rfl⟩
    have e1 : Tr.partsOf D.S 0 st b = (st1, .ok L) := by unfold Tr.partsOf; rw [hld, ← hL]; rfl
    have e2 : Tr.edited D.S 0 st b eds = (st1, .ok (M, decide (L ≠ M))) := by unfold Tr.edited; rw [hld, ← hM, ← hL]
    have hbh : b.h = 0 := by have := hf.1.h0; have := hf.2.1; omega
    obtain ⟨N, hN⟩ : ∃ N, L.length = N := ⟨_, rfl⟩
    obtain ⟨K, hK⟩ : ∃ K, M.length = K := ⟨_, rfl⟩
    have hN8 : N ≤ 8 := by rw [← hN, ← hL, leaf_len]; exact hf.1.few
    have hKl : K ≤ 1000000 := by
      have := Tr.merged_len eds L
      rw [hM, hK, hN, hn] at this
      omega
    have zh : ((b.h : Int) == 0) = true := by rw [hbh]; rfl
    rw [e2]
    obtain ⟨q, hq⟩ : ∃ q : Bool, decide (L ≠ M) = q := ⟨_, rfl⟩
    rw [hq]
    rw [e1] at HC
    unfold PsO at HC
    dsimp only at HC ⊢
    have HN := Lib.hid hN
    have HK := Lib.hid hK
    have HM := Lib.hid hM
    have HQ := Lib.hid hq
    clear hr he hn ha bx0 hb0 hXx hR hld e1 e2 hh hf hbh hN hK hM hL hq
    unfold Tr.brV at HC ⊢
    go_enter Try.func87, Try.ntmps87
    go_wp2_with (first
      | (go_at_call 94; (with_reducible refine HC.mono ?_); rintro e w2 ⟨X2, hR2, hS2, A2, n2, c2, q2, rfl, rfl, hn2, hp2⟩; (have hn2 : n2 = N := hn2.trans HN.out); subst n2; (have x3 : w2.cell? ⟨bb, 3, none⟩ = some (.int .i64 b.h) := (HB.out.keep (hS2.chg.block bb HB.out.lt HX.out)).cell 3); (have P2 := Lib.hid (show D.Rep w2 X2 st1 ∧ Stp w X w2 X2 ∧ W0.heap.size ≤ w2.heap.size ∧ PLX (fun b => X2 b ∨ b < W0.heap.size) w2 0 L A2 c2 ∧ SlC w2 w2.heap.size A c n (edcs eds) from ⟨hR2, HS0.out.trans hS2, hS2.chg.size, hp2.plx.2, HE.out w2 (HS0.out.on hS2.chg)⟩)); clear hR2 hS2 hp2)
      | (go_at_call 95; refine (merged_n (fun b hb => hb.elim (fun hb => D.lt P2.out.1 hb) (fun hb => Nat.lt_of_lt_of_le hb P2.out.2.2.1)) P2.out.2.2.2.1 HN.out (by omega) P2.out.2.2.2.2 Hn.out (by omega) HM.out HK.out).mono ?_; rintro e w3 ⟨A3, c3, rfl, hb3, hp3⟩; (have P3 := Lib.hid (show Below w2.heap.size w2 w3 ∧ PLX (fun b => X2 b ∨ b < W0.heap.size) w3 0 M A3 c3 ∧ PLX (fun b => X2 b ∨ b < W0.heap.size) w3 0 L A2 c2 from ⟨hb3, hp3, P2.out.2.2.2.1.below hb3⟩)); (have S1 := Lib.hid (show SlC w3 w3.heap.size A2 c2 N (pcs (L.map pcE)) from HN.out ▸ (plx_E P3.out.2.2).now)); (have S2 := Lib.hid (show SlC w3 w3.heap.size A3 c3 K (pcs (M.map pcE)) from HK.out ▸ (plx_E P3.out.2.1).now)); clear hb3 hp3)
      | (go_at_call 96; refine (equalfunc_any S1.out S2.out ((List.length_map ..).trans HN.out) ((List.length_map ..).trans HK.out) (by omega) (!q) (ne_dec HQ.out)).mono ?_; rintro e w4 ⟨rfl, hb4⟩; (have B4 := Lib.hid hb4); clear hb4))
    go_returns
    exact ⟨X2, D.below P2.out.1 (P3.out.1.trans (B4.out.mono P3.out.1.size)), P2.out.2.1.below (P3.out.1.trans (B4.out.mono P3.out.1.size)), A3, c3, by rw [show @List.length (Tr.Pt 0) M = K from HK.out]; simp, (P3.out.2.1.below B4.out).anti fun b hb => hb.imp id fun hb => Nat.lt_of_lt_of_le hb HW0.out⟩
theorem ed_err {h : Nat} {st s1 s2 : σ} {b : Tr.Br} {nn : Nd.N} {eds : List Tr.Ed} {er : Int} (hl : Tr.load D.S st b = (s1, .ok nn)) (hk : Tr.edKids (Tr.edited D.S h) (Tr.kidsB b nn) s1 eds = (s2, .error er)) : Tr.edited D.S (h + 1) st b eds = (s2, .error er) := by
  unfold Tr.edited; rw [hl]; dsimp only; rw [hk]
theorem ed_no {h : Nat} {st s1 s2 : σ} {b : Tr.Br} {nn : Nd.N} {eds : List Tr.Ed} {l : List (Tr.Pt (h + 1))} (hl : Tr.load D.S st b = (s1, .ok nn)) (hk : Tr.edKids (Tr.edited D.S h) (Tr.kidsB b nn) s1 eds = (s2, .ok (l, false))) : Tr.edited D.S (h + 1) st b eds = (s2, .ok ([], false)) := by
  unfold Tr.edited; rw [hl]; dsimp only; rw [hk]; rfl
theorem ed_fit {h : Nat} {st s1 s2 : σ} {b : Tr.Br} {nn : Nd.N} {eds : List Tr.Ed} {l : List (Tr.Pt (h + 1))} (hl : Tr.load D.S st b = (s1, .ok nn)) (hk : Tr.edKids (Tr.edited D.S h) (Tr.kidsB b nn) s1 eds = (s2, .ok (l, true))) : Tr.edited D.S (h + 1) st b eds = (match Tr.fit D.S h s2 l with
    | (s3, .error e) => (s3, .error e)
    | (s3, .ok l) => (s3, .ok (l, true))) := by
  unfold Tr.edited; rw [hl]; dsimp only; rw [hk]; rfl
theorem edCat_nil {h : Nat} (r : Tr.Res σ (List (Tr.Pt (h + 1)) × Bool)) : Tr.edCat [] false r = r := by
  rcases r with ⟨s, er | ⟨l, d⟩⟩ <;> simp [Tr.edCat]
theorem edit_info : ∃ i, Try.prog.info? 146 = some i ∧ i.size = 6 := by
  obtain ⟨i, h1, h2⟩ := Option.map_eq_some_iff.1 edit_size
  exact ⟨i, h1, h2⟩
theorem pc_cells {u : World} {xb : Nat} {b : Tr.Br} (h : Blk u xb 160 #[.int .i64 b.f, .int .i64 0, .int .i64 0, .int .i64 0, .int .i64 0, .int .i64 0, .int .i64 b.k.1, .int .i64 b.k.2.1, .int .i64 b.k.2.2, .int .i64 b.h, .int .i64 b.f, .int .i64 b.t, .bool false, .slice none 0 0]) :
    u.cell? ⟨xb, 6, none⟩ = some (.int .i64 b.k.1) ∧ u.cell? ⟨xb, 7, none⟩ = some (.int .i64 b.k.2.1) ∧ u.cell? ⟨xb, 8, none⟩ = some (.int .i64 b.k.2.2) ∧ u.cell? ⟨xb, 9, none⟩ = some (.int .i64 b.h) ∧ u.cell? ⟨xb, 10, none⟩ = some (.int .i64 b.f) ∧ u.cell? ⟨xb, 11, none⟩ = some (.int .i64 b.t) := ⟨h.cell 6, h.cell 7, h.cell 8, h.cell 9, h.cell 10, h.cell 11⟩
set_option maxRecDepth 8000 in
set_option maxHeartbeats 16000000 in
theorem edited_succ (h : Nat) (IH : EdtC D h) : EdtC D (h + 1) := by
  intro w X st b eds A c n hr hh he hn few ha
  obtain ⟨W0, hW0⟩ : ∃ W, w.alloc (.cells #[.int .i64 b.k.1, .int .i64 b.k.2.1, .int .i64 b.k.2.2, .int .i64 b.h, .int .i64 b.f, .int .i64 b.t] 137) = W := ⟨_, rfl⟩
  have bx0 : Blk W0 w.heap.size 137 #[.int .i64 b.k.1, .int .i64 b.k.2.1, .int .i64 b.k.2.2, .int .i64 b.h, .int .i64 b.f, .int .i64 b.t] := by rw [← hW0]; exact Blk.new _ _ _
  have hb0 : Below w.heap.size w W0 := by rw [← hW0]; exact below_alloc1 _ _
  have hXx := D.fresh hr
  have hR := D.below hr hb0
  have HS0 := Lib.hid (Stp.of_below X hb0)
  have HE := Lib.hid (show EdX X W0 A c n eds from Fast.below he hb0)
  have HW0 := Lib.hid hb0.size
  obtain ⟨bb, hbb⟩ : ∃ g, w.heap.size = g := ⟨_, rfl⟩
  rw [hbb] at bx0 hXx
  have HB := Lib.hid bx0
  have HX := Lib.hid hXx
  have x0 : W0.cell? ⟨bb, 0, none⟩ = some (.int .i64 b.k.1) := bx0.cell 0
  have x1 : W0.cell? ⟨bb, 1, none⟩ = some (.int .i64 b.k.2.1) := bx0.cell 1
  have x2 : W0.cell? ⟨bb, 2, none⟩ = some (.int .i64 b.k.2.2) := bx0.cell 2
  have x3 : W0.cell? ⟨bb, 3, none⟩ = some (.int .i64 b.h) := bx0.cell 3
  have x4 : W0.cell? ⟨bb, 4, none⟩ = some (.int .i64 b.f) := bx0.cell 4
  have x5 : W0.cell? ⟨bb, 5, none⟩ = some (.int .i64 b.t) := bx0.cell 5
  have HC := partsof_own D hR b (h + 1) hh
  have Hn := Lib.hid hn
  have Ha := Lib.hid ha
  have HI : Hid (EdtC D h) := Lib.hid (p := EdtC D h) @IH
  clear IH
  rcases hld : Tr.load D.S st b with ⟨st1, er | nn⟩
  · have e1 : Tr.partsOf D.S (h + 1) st b = (st1, .error er) := by unfold Tr.partsOf; rw [hld]
    have e2 : Tr.edited D.S (h + 1) st b eds = (st1, .error er) := by unfold Tr.edited; rw [hld]
    have her := load_err D (st := st) (b := b) (e := er) (by rw [hld])
    have zE : ((er : Int) != 0) = true := by simpa using her
    rw [e1] at HC
    rw [e2]
    unfold PsO at HC
    dsimp only at HC ⊢
    have Her := Lib.hid her
    clear hr he hn ha bx0 hb0 hXx hR hld e1 e2 her hh
    unfold Tr.brV at HC ⊢
    go_enter Try.func87, Try.ntmps87
    go_wp2_with (go_at_call 94; (with_reducible refine HC.mono ?_); rintro e w2 ⟨X2, hR2, hS2, A2, n2, c2, q2, rfl, hq2, -, rfl, rfl, rfl⟩; subst q2; (have P2 := Lib.hid (show D.Rep w2 X2 st1 ∧ Stp w X w2 X2 from ⟨hR2, HS0.out.trans hS2⟩)); clear hR2 hS2)
    go_returns
    exact ⟨X2, P2.out.1, P2.out.2, Her.out, false, rfl⟩
  · have hf := load_fits D (st := st) (b := b) (n := nn) (by rw [hld])
    have e1 : Tr.partsOf D.S (h + 1) st b = (st1, .ok ((Tr.kidsB b nn).map Tr.old)) := by unfold Tr.partsOf; rw [hld]; rfl
    obtain ⟨bs, hbs⟩ : ∃ bs, Tr.kidsB b nn = bs := ⟨_, rfl⟩
    have hbh : b.h = ((h + 1 : Nat) : Int) := by have := hf.1.h0; have := hf.2.1; omega
    have hh5 : h ≤ 4 := by have := hf.1.h6; have := hf.2.1; omega
    have hN1 : 0 < bs.length ∧ bs.length ≤ 8 := by
      rw [← hbs, Tr.kids_len]
      exact ⟨(hf.1.inner (by rw [hf.2.1, hbh]; omega)).2.1, hf.1.few⟩
    have hht : ∀ x ∈ bs, x.h.toNat = h ∧ Tr.KR x.k := fun x hx => by
      rw [← hbs] at hx
      obtain ⟨i, hi, rfl⟩ := List.mem_map.1 hx
      refine ⟨?_, Tr.kr_kid hh.1 hf (List.mem_range.1 hi)⟩
      show (b.h - 1).toNat = h
      omega
    obtain ⟨N, hN⟩ : ∃ N, bs.length = N := ⟨_, rfl⟩
    have hlN : (bs.map (Tr.old (h := h))).length = N := by rw [List.length_map, hN]
    rw [hN] at hN1
    have zh : ((b.h : Int) == 0) = false := by rw [beq_eq_false_iff_ne]; omega
    have zs : (b.h : Int) - 1 = (h : Int) := by omega
    have zs' : wrap64 ((b.h : Int) - 1) = (h : Int) := by simp only [wrap64]; omega
    have Zw := Lib.hid (show wrap64 (h : Int) = (h : Int) by simp only [wrap64]; omega)
    obtain ⟨i6, hi6, hs6⟩ := edit_info
    obtain ⟨d0, hd0, hd1⟩ := part_row
    rw [hbs] at e1
    rw [e1] at HC
    unfold PsO at HC
    dsimp only at HC
    obtain ⟨RR, hRR⟩ : ∃ R, Tr.edited D.S (h + 1) st b eds = R := ⟨_, rfl⟩
    have HRe := Lib.hid (show ∀ s2 er, Tr.edKids (Tr.edited D.S h) bs st1 eds = (s2, .error er) → RR = (s2, .error er) from fun s2 er hk => by rw [← hbs] at hk; rw [← hRR]; exact ed_err D hld hk)
    have HRn := Lib.hid (show ∀ s2 l, Tr.edKids (Tr.edited D.S h) bs st1 eds = (s2, .ok (l, false)) → RR = (s2, .ok ([], false)) from fun s2 l hk => by rw [← hbs] at hk; rw [← hRR]; exact ed_no D hld hk)
    have HRf := Lib.hid (show ∀ s2 l, Tr.edKids (Tr.edited D.S h) bs st1 eds = (s2, .ok (l, true)) → (Tr.WfA l ∧ Tr.wts l ≤ 1000000) ∧ RR = (match Tr.fit D.S h s2 l with
      | (s3, .error e) => (s3, .error e)
      | (s3, .ok l) => (s3, .ok (l, true))) from fun s2 l hk => by
        have hw := Tr.edKids_wf (Tr.edited_wf D.S h) (bs := bs) (st := st1) (eds := eds) (l := l) (c := true) hht (by rw [hk])
        refine ⟨⟨hw.1, ?_⟩, by rw [← hbs] at hk; rw [← hRR]; exact ed_fit D hld hk⟩
        have h8 : 8 ^ (h + 1) ≤ 8 ^ 5 := Nat.pow_le_pow_right (by decide) (by omega)
        have h9 : bs.length * 8 ^ (h + 1) ≤ 8 * 8 ^ 5 := Nat.mul_le_mul (by omega) h8
        have := hw.2
        omega)
    rw [hRR]
    have Hht := Lib.hid hht
    have Hh5 := Lib.hid hh5
    have HlN := Lib.hid hlN
    have HNl := Lib.hid hN
    clear hr he hn ha bx0 hb0 hXx hR hld e1 hh hf hbh hRR hht hlN hN hbs hh5
    unfold Tr.brV at HC ⊢
    go_enter Try.func87, Try.ntmps87
    go_wp2_with (go_at_call 94; (with_reducible refine HC.mono ?_); rintro e w2 ⟨X2, hR2, hS2, A2, n2, c2, q2, rfl, rfl, hn2, hp2⟩; (obtain ⟨cs, hq2⟩ := po_pq hp2); (obtain ⟨g, ca, hA⟩ := own_some hq2.own (by rw [HlN.out]; exact hN1.1)); (replace hn2 : n2 = N := hn2.trans HlN.out); injection hA with hA1 hA2 hA3; clear hA2; subst A2; subst c2; subst n2; (have x3 : w2.cell? ⟨bb, 3, none⟩ = some (.int .i64 b.h) := (HB.out.keep (hS2.chg.block bb HB.out.lt HX.out)).cell 3); (have P2 := Lib.hid (show EdI D W0 X h bb #[.int .i64 b.k.1, .int .i64 b.k.2.1, .int .i64 b.k.2.2, .int .i64 b.h, .int .i64 b.f, .int .i64 b.t] bs st1 eds N g ca 0 [] bs eds false cs A c n w2 X2 st1 from ⟨hR2, hS2, hq2, (edCat_nil _).symm, HE.out, Ha.out, Hn.out, few, Hht.out, rfl, by rw [Nat.zero_add]; exact HNl.out, hS2.far HB.out.lt HX.out, HB.out.keep (hS2.chg.block bb HB.out.lt HX.out)⟩)); clear hR2 hS2 hp2 hq2)
    clear HC x0 x1 x2 x4 x5
    go_loopw [2, 12, 41] (fun v2 v12 v41 wr => ∃ (i : Nat) (done : List (Tr.Pt (h + 1))) (rest : List Tr.Br) (er : List Tr.Ed) (c : Bool) (cs : List Tr.PC) (A : Option Addr) (ce m : Nat) (Xr : Nat → Prop) (sr : σ), v2 = .slice A m ce ∧ v12 = .bool c ∧ v41 = .int .i64 (i : Int) ∧ EdI D W0 X h bb #[.int .i64 b.k.1, .int .i64 b.k.2.1, .int .i64 b.k.2.2, .int .i64 b.h, .int .i64 b.f, .int .i64 b.t] bs st1 eds N g ca i done rest er c cs A ce m wr Xr sr) (fun _ _ v41 _ => N - (intOf v41).toNat)
    case atStart => exact ⟨0, [], bs, eds, false, cs, A, c, n, X2, st1, rfl, rfl, rfl, P2.out⟩
    case round =>
      obtain ⟨i, done, rest, er, cc, cs1, A1, ce, m, Xr, sr, rfl, rfl, rfl, hI⟩ := hrel
      clear P2
      have HIr := Lib.hid hI
      have x3 : wr.cell? ⟨bb, 3, none⟩ = some (.int .i64 b.h) := hI.blk.cell 3
      cases rest with
      | nil =>
        have hiN : i = N := by have := hI.all; simpa using this
        have y0 : decide ((i : Int) < (N : Int)) = false := by rw [decide_eq_false_iff_not]; omega
        have y0' : decide (i < N) = false := by rw [decide_eq_false_iff_not]; omega
        obtain ⟨o1, o2, o3⟩ := hI.over
        cases cc with
        | false =>
          have F := Lib.hid (HRn.out _ _ o1)
          clear hI o1 o2 o3 hiN
          go_wp2_with fail
          go_returns
          rw [F.out]
          exact ⟨Xr, HIr.out.rep, HS0.out.trans HIr.out.stp, none, 0, rfl, fun u _ => ⟨[], SlC.none_ _ _, PRs.nil _ _⟩⟩
        | true =>
          obtain ⟨⟨f1, f2⟩, f3⟩ := HRf.out _ _ o1
          have HF := fit_is D h (Nat.le_trans Hh5.out (by decide)) HIr.out.rep (G := fun b => b < W0.heap.size) (fun b hb => Nat.lt_of_lt_of_le hb HIr.out.stp.chg.size) o2 f1 f2 (by omega)
          rw [o3] at HF
          have F := Lib.hid f3
          have zw := Zw.out
          clear hI o1 o2 o3 hiN f1 f2 f3
          rcases hft : Tr.fit D.S h sr done with ⟨s3, er3 | l3⟩
          · have F3 := Lib.hid (show RR = (s3, .error er3) from by rw [F.out, hft])
            rw [hft] at HF
            unfold PsR at HF
            dsimp only at HF
            clear hft F
            go_wp2_with (go_at_call 99; (with_reducible refine HF.mono ?_); rintro e w6 ⟨X6, hR6, hS6, A6, n6, c6, q6, rfl, hq6, hne, rfl, rfl, rfl⟩; subst q6; (have P6 := Lib.hid (show D.Rep w6 X6 s3 ∧ Stp w X w6 X6 from ⟨hR6, (HS0.out.trans HIr.out.stp).trans hS6⟩)); (have Hne := Lib.hid hne); clear hR6 hS6 hne)
            go_returns
            rw [F3.out]
            exact ⟨X6, P6.out.1, P6.out.2, Hne.out, true, rfl⟩
          · have F3 := Lib.hid (show RR = (s3, .ok (l3, true)) from by rw [F.out, hft])
            rw [hft] at HF
            unfold PsR at HF
            dsimp only at HF
            clear hft F
            go_wp2_with (go_at_call 99; (with_reducible refine HF.mono ?_); rintro e w6 ⟨X6, hR6, hS6, A6, n6, c6, q6, rfl, rfl, rfl, hp6⟩; (have P6 := Lib.hid (show D.Rep w6 X6 s3 ∧ Stp w X w6 X6 ∧ PLX (fun b => X6 b ∨ b < w.heap.size) w6 (h + 1) l3 A6 c6 from ⟨hR6, (HS0.out.trans HIr.out.stp).trans hS6, hp6.anti fun b hb => hb.imp id fun hb => Nat.lt_of_lt_of_le hb HW0.out⟩)); clear hR6 hS6 hp6)
            go_returns
            rw [F3.out]
            exact ⟨X6, P6.out.1, P6.out.2.1, A6, c6, rfl, P6.out.2.2⟩
      | cons b' rest' =>
        have hiN : i < N := by have := hI.all; rw [List.length_cons] at this; omega
        have y0 : decide ((i : Int) < (N : Int)) = true := by rw [decide_eq_true_eq]; omega
        have y0' : decide (i < N) = true := by rw [decide_eq_true_eq]; exact hiN
        have y1 : (i : Int) < (N : Int) := by omega
        have Wi : wrap64 ((i : Int) + 1) = (i : Int) + 1 := by simp only [wrap64]; omega
        have Hi1 := Lib.hid hiN
        obtain ⟨px, hpx, hpe⟩ := hI.at
        subst hpe
        have hlen : (done ++ (b' :: rest').map (Tr.old (h := h))).length = N := by rw [List.length_append, hI.at_, List.length_map, hI.all]
        have hown : wr.ownsRow W0.heap.size 160 14 (.slice (some ⟨g, 0, none⟩) N ca) N (pcs cs1) := pq_own hlen hI.row
        have rg := own_range hown hpx
        dsimp only [pc1, pcs, Tr.z, Tr.bz] at rg
        obtain ⟨xb, hxb⟩ : ∃ x, wr.heap.size = x := ⟨_, rfl⟩
        have HXb := Lib.hid (show ¬ Xr xb ∧ xb < (wr.alloc (.cells #[.int .i64 b'.f, .int .i64 0, .int .i64 0, .int .i64 0, .int .i64 0, .int .i64 0, .int .i64 b'.k.1, .int .i64 b'.k.2.1, .int .i64 b'.k.2.2, .int .i64 b'.h, .int .i64 b'.f, .int .i64 b'.t, .bool false, .slice none 0 0] 160)).heap.size from ⟨hxb ▸ D.fresh hI.rep, by rw [← hxb]; simp⟩)
        have bx1 : Blk (wr.alloc (.cells #[.int .i64 b'.f, .int .i64 0, .int .i64 0, .int .i64 0, .int .i64 0, .int .i64 0, .int .i64 b'.k.1, .int .i64 b'.k.2.1, .int .i64 b'.k.2.2, .int .i64 b'.h, .int .i64 b'.f, .int .i64 b'.t, .bool false, .slice none 0 0] 160)) xb 160 #[.int .i64 b'.f, .int .i64 0, .int .i64 0, .int .i64 0, .int .i64 0, .int .i64 0, .int .i64 b'.k.1, .int .i64 b'.k.2.1, .int .i64 b'.k.2.2, .int .i64 b'.h, .int .i64 b'.f, .int .i64 b'.t, .bool false, .slice none 0 0] := by rw [← hxb]; exact Blk.new _ _ _
        have HB1 := Lib.hid (below_alloc1 wr (.cells #[.int .i64 b'.f, .int .i64 0, .int .i64 0, .int .i64 0, .int .i64 0, .int .i64 0, .int .i64 b'.k.1, .int .i64 b'.k.2.1, .int .i64 b'.k.2.2, .int .i64 b'.h, .int .i64 b'.f, .int .i64 b'.t, .bool false, .slice none 0 0] 160))
        have KX := Lib.hid (show ∀ u, Below (wr.alloc (.cells #[.int .i64 b'.f, .int .i64 0, .int .i64 0, .int .i64 0, .int .i64 0, .int .i64 0, .int .i64 b'.k.1, .int .i64 b'.k.2.1, .int .i64 b'.k.2.2, .int .i64 b'.h, .int .i64 b'.f, .int .i64 b'.t, .bool false, .slice none 0 0] 160)).heap.size (wr.alloc (.cells #[.int .i64 b'.f, .int .i64 0, .int .i64 0, .int .i64 0, .int .i64 0, .int .i64 0, .int .i64 b'.k.1, .int .i64 b'.k.2.1, .int .i64 b'.k.2.2, .int .i64 b'.h, .int .i64 b'.f, .int .i64 b'.t, .bool false, .slice none 0 0] 160)) u → Blk u xb 160 #[.int .i64 b'.f, .int .i64 0, .int .i64 0, .int .i64 0, .int .i64 0, .int .i64 0, .int .i64 b'.k.1, .int .i64 b'.k.2.1, .int .i64 b'.k.2.2, .int .i64 b'.h, .int .i64 b'.f, .int .i64 b'.t, .bool false, .slice none 0 0] from fun u hu => bx1.keep (hu.block xb bx1.lt))
        have hed : SlC (wr.alloc (.cells #[.int .i64 b'.f, .int .i64 0, .int .i64 0, .int .i64 0, .int .i64 0, .int .i64 0, .int .i64 b'.k.1, .int .i64 b'.k.2.1, .int .i64 b'.k.2.2, .int .i64 b'.h, .int .i64 b'.f, .int .i64 b'.t, .bool false, .slice none 0 0] 160)) (wr.alloc (.cells #[.int .i64 b'.f, .int .i64 0, .int .i64 0, .int .i64 0, .int .i64 0, .int .i64 0, .int .i64 b'.k.1, .int .i64 b'.k.2.1, .int .i64 b'.k.2.2, .int .i64 b'.h, .int .i64 b'.f, .int .i64 b'.t, .bool false, .slice none 0 0] 160)).heap.size A1 ce m (edcs er) := hI.edx _ ((hI.stp.below HB1.out).chg)
        obtain ⟨k, hk⟩ : ∃ k, Tr.cnt er b'.t = k := ⟨_, rfl⟩
        have hkm : k ≤ m := by rw [← hk, ← hI.len]; exact Tr.cnt_le _ _
        have HCn0 := countbefore_any hed hI.len (by have := hI.few; omega) hI.asc b'.t
        rw [hk] at HCn0
        have HCn := Lib.hid HCn0
        have Hk := Lib.hid hk
        have hce := hed.le
        clear hed HCn0 hpx hlen hown bx1 hk
        by_cases hk0 : k = 0
        · have zk : ((k : Int) == 0) = true := by rw [hk0]; rfl
          have Nx := Lib.hid (fun (u : World) (hu : Below wr.heap.size wr u) => EdI.skip D HIr.out (Hk.out.trans hk0) hu)
          clear hk0 hI
          go_wp2_with (first
            | ((with_reducible show wpList _ _ _ (⟨some 45, Op.load 160 _, _, _, _, _⟩ :: _) _ _); refine wpList_load_mid rfl 160 _ rfl g (i * 14) rfl [.int .i64 b'.f, .int .i64 0, .int .i64 0, .int .i64 0, .int .i64 0, .int .i64 0, .int .i64 b'.k.1, .int .i64 b'.k.2.1, .int .i64 b'.k.2.2, .int .i64 b'.h, .int .i64 b'.f, .int .i64 b'.t, .bool false, .slice none 0 0] d0 rg hd0 hd1 part_size ?_)
            | (go_at_call 98; (with_reducible refine HCn.out.mono ?_); rintro e w3 ⟨rfl, hb3⟩; (have B3 := Lib.hid (show Below wr.heap.size wr w3 from HB1.out.trans (hb3.mono HB1.out.size))); (obtain ⟨x6, x7, x8, x9, x10, x11⟩ := pc_cells (KX.out w3 hb3)); (have KY := Lib.hid (show ∀ u, Chg Xr w3 u → u.cell? ⟨xb, 6, none⟩ = some (.int .i64 b'.k.1) ∧ u.cell? ⟨xb, 7, none⟩ = some (.int .i64 b'.k.2.1) ∧ u.cell? ⟨xb, 8, none⟩ = some (.int .i64 b'.k.2.2) ∧ u.cell? ⟨xb, 9, none⟩ = some (.int .i64 b'.h) ∧ u.cell? ⟨xb, 10, none⟩ = some (.int .i64 b'.f) ∧ u.cell? ⟨xb, 11, none⟩ = some (.int .i64 b'.t) from fun u hu => pc_cells ((KX.out w3 hb3).keep (hu.block xb (Nat.lt_of_lt_of_le HXb.out.2 hb3.size) HXb.out.1)))); clear hb3))
          go_roundw
          case rel => exact ⟨i + 1, _, rest', er, cc, _, A1, ce, m, Xr, sr, rfl, rfl, by go_num, Nx.out _ B3.out⟩
          case measure => exact meas_up Hi1.out
        · have zk : ((k : Int) == 0) = false := by rw [beq_eq_false_iff_ne]; omega
          have hk1 : 0 < k := Nat.pos_of_ne_zero hk0
          have Hk1 := Lib.hid hk1
          have sl1 := run_slice_to (P := Try.prog) Try.underlying143 hi6 A1 m ce k (Nat.le_trans hkm hce)
          have sl2 := run_fromW (P := Try.prog) Try.underlying143 hi6 hs6 A1 m ce k hkm
          have HIH := Lib.hid (fun (u : World) (hu : Below wr.heap.size wr u) => HI.out (w := u.drew) (X := Xr) (st := sr) (b := b') (eds := er.take k) (A := A1) (c := ce) (n := k) (D.below HIr.out.rep hu.drew) (HIr.out.hts b' (List.mem_cons_self ..)) (EdX.take (Fast.step HIr.out.edx (HIr.out.stp.below hu.drew)) HIr.out.len hkm) (by rw [List.length_take, HIr.out.len, Nat.min_eq_left hkm]) (by have := HIr.out.few; omega) (Tr.ascE_take HIr.out.asc k))
          rcases hed : Tr.edited D.S h sr b' (er.take k) with ⟨s5, er5 | ⟨below, is⟩⟩
          · have FE := Lib.hid (HRe.out s5 er5 (HIr.out.eq.trans (Tr.edCat_err Hk.out hk1 hed)))
            rw [hed] at HIH
            unfold EdR Tr.brV at HIH
            dsimp only at HIH
            clear hed hk0 hk1 hkm hI hce
            go_wp2_with (first
              | ((with_reducible show wpList _ _ _ (⟨some 45, Op.load 160 _, _, _, _, _⟩ :: _) _ _); refine wpList_load_mid rfl 160 _ rfl g (i * 14) rfl [.int .i64 b'.f, .int .i64 0, .int .i64 0, .int .i64 0, .int .i64 0, .int .i64 0, .int .i64 b'.k.1, .int .i64 b'.k.2.1, .int .i64 b'.k.2.2, .int .i64 b'.h, .int .i64 b'.f, .int .i64 b'.t, .bool false, .slice none 0 0] d0 rg hd0 hd1 part_size ?_)
              | (go_at_call 98; (with_reducible refine HCn.out.mono ?_); rintro e w3 ⟨rfl, hb3⟩; (have B3 := Lib.hid (show Below wr.heap.size wr w3 from HB1.out.trans (hb3.mono HB1.out.size))); (obtain ⟨x6, x7, x8, x9, x10, x11⟩ := pc_cells (KX.out w3 hb3)); (have KY := Lib.hid (show ∀ u, Chg Xr w3 u → u.cell? ⟨xb, 6, none⟩ = some (.int .i64 b'.k.1) ∧ u.cell? ⟨xb, 7, none⟩ = some (.int .i64 b'.k.2.1) ∧ u.cell? ⟨xb, 8, none⟩ = some (.int .i64 b'.k.2.2) ∧ u.cell? ⟨xb, 9, none⟩ = some (.int .i64 b'.h) ∧ u.cell? ⟨xb, 10, none⟩ = some (.int .i64 b'.f) ∧ u.cell? ⟨xb, 11, none⟩ = some (.int .i64 b'.t) from fun u hu => pc_cells ((KX.out w3 hb3).keep (hu.block xb (Nat.lt_of_lt_of_le HXb.out.2 hb3.size) HXb.out.1)))); clear hb3))
            go_region_held_law (fun u => u.cell? ⟨xb, 6, none⟩ = some (.int .i64 b'.k.1) ∧ u.cell? ⟨xb, 7, none⟩ = some (.int .i64 b'.k.2.1) ∧ u.cell? ⟨xb, 8, none⟩ = some (.int .i64 b'.k.2.2) ∧ u.cell? ⟨xb, 9, none⟩ = some (.int .i64 b'.h) ∧ u.cell? ⟨xb, 10, none⟩ = some (.int .i64 b'.f) ∧ u.cell? ⟨xb, 11, none⟩ = some (.int .i64 b'.t)) (first | exact KY.out _ (Chg.refl _ _) | exact KY.out _ (Chg.refl _ _).drew | exact KY.out _ N5.out.2.2.1) (first
              | (go_at_call 87; (with_reducible refine (HIH.out w3 B3.out).mono ?_); rintro e w5 ⟨X5, hR5, hS5, hne, bl, rfl⟩; (have N5 := Lib.hid (show D.Rep w5 X5 s5 ∧ Stp w X w5 X5 ∧ Chg Xr w3 w5 ∧ er5 ≠ 0 from ⟨hR5, ((HS0.out.trans HIr.out.stp).below B3.out.drew).trans hS5, ⟨hS5.chg.os, hS5.chg.tape, hS5.chg.output, hS5.chg.size, hS5.chg.block⟩, hne⟩)); (have zE : ((er5 : Int) != 0) = true := by simpa using hne); clear hR5 hS5 hne))
            all_goals
              (try simp only [List.getElem_toArray, List.getElem_cons_succ, List.getElem_cons_zero])
              go_wp2_with fail
              go_returns
              rw [FE.out]
              exact ⟨X5, N5.out.1, N5.out.2.1, N5.out.2.2.2, false, rfl⟩
          · rw [hed] at HIH
            unfold EdR Tr.brV at HIH
            dsimp only at HIH
            have Hed := Lib.hid hed
            cases is with
            | false =>
              clear hed hk0 hk1 hkm hI hce
              go_wp2_with (first
                | ((with_reducible show wpList _ _ _ (⟨some 45, Op.load 160 _, _, _, _, _⟩ :: _) _ _); refine wpList_load_mid rfl 160 _ rfl g (i * 14) rfl [.int .i64 b'.f, .int .i64 0, .int .i64 0, .int .i64 0, .int .i64 0, .int .i64 0, .int .i64 b'.k.1, .int .i64 b'.k.2.1, .int .i64 b'.k.2.2, .int .i64 b'.h, .int .i64 b'.f, .int .i64 b'.t, .bool false, .slice none 0 0] d0 rg hd0 hd1 part_size ?_)
                | (go_at_call 98; (with_reducible refine HCn.out.mono ?_); rintro e w3 ⟨rfl, hb3⟩; (have B3 := Lib.hid (show Below wr.heap.size wr w3 from HB1.out.trans (hb3.mono HB1.out.size))); (obtain ⟨x6, x7, x8, x9, x10, x11⟩ := pc_cells (KX.out w3 hb3)); (have KY := Lib.hid (show ∀ u, Chg Xr w3 u → u.cell? ⟨xb, 6, none⟩ = some (.int .i64 b'.k.1) ∧ u.cell? ⟨xb, 7, none⟩ = some (.int .i64 b'.k.2.1) ∧ u.cell? ⟨xb, 8, none⟩ = some (.int .i64 b'.k.2.2) ∧ u.cell? ⟨xb, 9, none⟩ = some (.int .i64 b'.h) ∧ u.cell? ⟨xb, 10, none⟩ = some (.int .i64 b'.f) ∧ u.cell? ⟨xb, 11, none⟩ = some (.int .i64 b'.t) from fun u hu => pc_cells ((KX.out w3 hb3).keep (hu.block xb (Nat.lt_of_lt_of_le HXb.out.2 hb3.size) HXb.out.1)))); clear hb3))
              go_region_held_law (fun u => u.cell? ⟨xb, 6, none⟩ = some (.int .i64 b'.k.1) ∧ u.cell? ⟨xb, 7, none⟩ = some (.int .i64 b'.k.2.1) ∧ u.cell? ⟨xb, 8, none⟩ = some (.int .i64 b'.k.2.2) ∧ u.cell? ⟨xb, 9, none⟩ = some (.int .i64 b'.h) ∧ u.cell? ⟨xb, 10, none⟩ = some (.int .i64 b'.f) ∧ u.cell? ⟨xb, 11, none⟩ = some (.int .i64 b'.t)) (first | exact KY.out _ (Chg.refl _ _) | exact KY.out _ (Chg.refl _ _).drew | exact KY.out _ N5.out.2) (first
                | (go_at_call 87; (with_reducible refine (HIH.out w3 B3.out).mono ?_); rintro e w5 ⟨X5, hR5, hS5, A5, k5, rfl, hp5⟩; (have N5 := Lib.hid (show EdI D W0 X h bb #[.int .i64 b.k.1, .int .i64 b.k.2.1, .int .i64 b.k.2.2, .int .i64 b.h, .int .i64 b.f, .int .i64 b.t] bs st1 eds N g ca (i + 1) (done ++ [Tr.old b']) rest' (er.drop k) cc cs1 (cutW A1 ce k 6) (ce - k) (m - k) w5 X5 s5 ∧ Chg Xr w3 w5 from ⟨EdI.back D HIr.out Hk.out Hk1.out Hed.out B3.out.drew hS5 hR5, ⟨hS5.chg.os, hS5.chg.tape, hS5.chg.output, hS5.chg.size, hS5.chg.block⟩⟩)); clear hR5 hS5 hp5))
              all_goals
                (try simp only [List.getElem_toArray, List.getElem_cons_succ, List.getElem_cons_zero])
                go_wp2_with fail
                go_roundw
                case rel => exact ⟨i + 1, _, rest', _, cc, _, _, _, _, X5, s5, rfl, rfl, by go_num, N5.out.1⟩
                case measure => exact meas_up Hi1.out
            | true =>
              obtain ⟨n5, hn5⟩ : ∃ n, below.length = n := ⟨_, rfl⟩
              have Hn5 := Lib.hid hn5
              obtain ⟨K, hK⟩ : ∃ K, K = Tr.keyP (h + 1) (Tr.frs below) := ⟨_, rfl⟩
              have HK := Lib.hid hK
              have HFr0 := fun (u : World) (B : Option Addr) (c5 : Nat) (hl : PL u h below B c5) => fresh_any hl
              rw [hn5, ← hK] at HFr0
              dsimp only [pcv, Tr.z, Tr.bz] at HFr0
              have HFr := Lib.hid HFr0
              rw [hn5] at HIH
              clear hed hk0 hk1 hkm hI hce hn5 hK HFr0
              go_wp2_with (first
                | ((with_reducible show wpList _ _ _ (⟨some 45, Op.load 160 _, _, _, _, _⟩ :: _) _ _); refine wpList_load_mid rfl 160 _ rfl g (i * 14) rfl [.int .i64 b'.f, .int .i64 0, .int .i64 0, .int .i64 0, .int .i64 0, .int .i64 0, .int .i64 b'.k.1, .int .i64 b'.k.2.1, .int .i64 b'.k.2.2, .int .i64 b'.h, .int .i64 b'.f, .int .i64 b'.t, .bool false, .slice none 0 0] d0 rg hd0 hd1 part_size ?_)
                | (go_at_call 98; (with_reducible refine HCn.out.mono ?_); rintro e w3 ⟨rfl, hb3⟩; (have B3 := Lib.hid (show Below wr.heap.size wr w3 from HB1.out.trans (hb3.mono HB1.out.size))); (obtain ⟨x6, x7, x8, x9, x10, x11⟩ := pc_cells (KX.out w3 hb3)); (have KY := Lib.hid (show ∀ u, Chg Xr w3 u → u.cell? ⟨xb, 6, none⟩ = some (.int .i64 b'.k.1) ∧ u.cell? ⟨xb, 7, none⟩ = some (.int .i64 b'.k.2.1) ∧ u.cell? ⟨xb, 8, none⟩ = some (.int .i64 b'.k.2.2) ∧ u.cell? ⟨xb, 9, none⟩ = some (.int .i64 b'.h) ∧ u.cell? ⟨xb, 10, none⟩ = some (.int .i64 b'.f) ∧ u.cell? ⟨xb, 11, none⟩ = some (.int .i64 b'.t) from fun u hu => pc_cells ((KX.out w3 hb3).keep (hu.block xb (Nat.lt_of_lt_of_le HXb.out.2 hb3.size) HXb.out.1)))); clear hb3))
              go_region_held_law (fun u => u.cell? ⟨xb, 6, none⟩ = some (.int .i64 b'.k.1) ∧ u.cell? ⟨xb, 7, none⟩ = some (.int .i64 b'.k.2.1) ∧ u.cell? ⟨xb, 8, none⟩ = some (.int .i64 b'.k.2.2) ∧ u.cell? ⟨xb, 9, none⟩ = some (.int .i64 b'.h) ∧ u.cell? ⟨xb, 10, none⟩ = some (.int .i64 b'.f) ∧ u.cell? ⟨xb, 11, none⟩ = some (.int .i64 b'.t)) (first | exact KY.out _ (Chg.refl _ _) | exact KY.out _ (Chg.refl _ _).drew | exact KY.out _ N5.out.2.2.2) (first
                | (go_at_call 87; (with_reducible refine (HIH.out w3 B3.out).mono ?_); rintro e w5 ⟨X5, hR5, hS5, A5, k5, rfl, hp5⟩; (have N5 := Lib.hid (show D.Rep w5 X5 s5 ∧ Stp w3.drew Xr w5 X5 ∧ PLX (fun b => X5 b ∨ b < w3.drew.heap.size) w5 h below A5 k5 ∧ Chg Xr w3 w5 from ⟨hR5, hS5, hp5, ⟨hS5.chg.os, hS5.chg.tape, hS5.chg.output, hS5.chg.size, hS5.chg.block⟩⟩)); clear hR5 hS5 hp5))
              all_goals
                (try simp only [List.getElem_toArray, List.getElem_cons_succ, List.getElem_cons_zero])
                have HFr5 := Lib.hid (HFr.out w5 A5 k5 N5.out.2.2.1.now)
                have Ow5 := Lib.hid (show w5.ownsRow W0.heap.size 160 14 (.slice (some ⟨g, 0, none⟩) N ca) N (pcs cs1) from pq_own (by rw [List.length_append, HIr.out.at_, List.length_map, HIr.out.all]) (HIr.out.row.step (((Stp.of_below Xr B3.out.drew).trans N5.out.2.1).with fun b => b < W0.heap.size)))
                go_wp2_with (first
                  | (go_at_call 89; (with_reducible refine HFr5.out.mono ?_); rintro e w6 ⟨rfl, hb6⟩; (have B6 := Lib.hid hb6); clear hb6)
                  | ((with_reducible show wpList _ _ _ (⟨none, Op.store 160 _ _, _, _, _, _⟩ :: _) _ _); refine wpList_store_mid rfl 160 _ _ rfl g (i * 14) _ rfl rfl (own_there (own_below Ow5.out B6.out) Hi1.out) part_size (all_oneCell_toArray (pcs_one [⟨K, Tr.z, Tr.bz, true, A5, n5, k5⟩])) ?_; skip))
                go_roundw
                case rel => exact ⟨i + 1, _, rest', _, true, _, _, _, _, X5, s5, rfl, rfl, by go_num, EdI.stored D HIr.out Hk.out Hk1.out Hed.out B3.out.drew N5.out.2.1 N5.out.1 B6.out N5.out.2.2.1 Hn5.out HK.out⟩
                case measure => exact meas_up Hi1.out
theorem edited_is : ∀ (h : Nat), EdtC D h
  | 0 => edited_zero D
  | h + 1 => edited_succ D h (edited_is h)
end
end Go.Proofs.Ytlcchefiicalpaa
