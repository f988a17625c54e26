/- The statement NodeKnown. -/
import Derived.Test.YtdfelkkibolheaaNla
namespace Go.Proofs.Ytdfelkkibolheaa
open Go.RowKit Vint

def nK : Nd.N := ⟨1, [0, 300], [], [], [(2, 1, 1), (130, 2, 5)]⟩
theorem nK_ok : Nd.Ok nK := by
  refine ⟨by decide, by decide, by decide, fun i hi => ?_, fun i hi => ?_, fun h => absurd h (by decide), fun _ => ⟨rfl, by decide, rfl, rfl, fun i hi => ?_⟩⟩
  · have : i < 2 := hi
    have : i = 0 ∨ i = 1 := by omega
    rcases this with rfl | rfl <;> decide
  · have : i + 1 < 2 := hi
    have : i = 0 := by omega
    subst this; decide
  · have : i < 2 := hi
    have : i = 0 ∨ i = 1 := by omega
    rcases this with rfl | rfl <;> decide
theorem nZ_ok : Nd.Ok Nd.zero := by
  refine ⟨by decide, by decide, by decide, fun i hi => ?_, fun i hi => ?_, fun _ => ⟨rfl, rfl, rfl, fun i hi => ?_⟩, fun h => absurd rfl h⟩
  · exact absurd hi (Nat.not_lt_zero _)
  · exact absurd hi (Nat.not_lt_zero _)
  · exact absurd hi (Nat.not_lt_zero _)
theorem vlow (x : Nat) (h : x < 128) : Vint.vint x = [x] := vint_low h
theorem nK_enc : Nd.enc nK = [1, 2, 0, 2, 1, 1, 172, 2, 130, 1, 2, 5] := by
  have e1 : Nd.nums nK = [1, 2, 0, 2, 1, 1, 300, 130, 2, 5] := by decide
  unfold Nd.enc
  rw [e1]
  have h300 : vint 300 = [172, 2] := by rw [vint_high (by decide), vint_low (by decide)]
  have h130 : vint 130 = [130, 1] := by rw [vint_high (by decide), vint_low (by decide)]
  simp only [Nd.putL, List.flatMap_cons, List.flatMap_nil, h300, h130, vint_low (show 1 < 128 by decide), vint_low (show 2 < 128 by decide), vint_low (show 0 < 128 by decide), vint_low (show 5 < 128 by decide)]
  rfl
theorem nZ_enc : Nd.enc Nd.zero = [0, 0] := by
  have e1 : Nd.nums Nd.zero = [0, 0] := by decide
  unfold Nd.enc
  rw [e1]
  simp only [Nd.putL, List.flatMap_cons, List.flatMap_nil, vint_low (show 0 < 128 by decide)]
  rfl
theorem dk0_9 : (Nd.dec [0, 9]).2 = 4 := by
  rw [Nd.dec_cls, show Nd.cls [0, 9] = .many [] from by simp [Nd.cls, Nd.nx, num, numF]]
theorem dk6_0 : (Nd.dec [6, 0]).2 = 4 := by
  have hc : Nd.cls [6, 0] = .fine ⟨6, [], [], [], []⟩ [] := by simp [Nd.cls, Nd.nx, num, numF, Nd.ents]
  rw [Nd.dec_wrong hc (by simp) (fun o => absurd o.h6 (by decide))]
theorem dk1_0 : (Nd.dec [1, 0]).2 = 4 := by
  have hc : Nd.cls [1, 0] = .fine ⟨1, [], [], [], []⟩ [] := by simp [Nd.cls, Nd.nx, num, numF, Nd.ents]
  rw [Nd.dec_wrong hc (by simp) (fun o => absurd (o.inner (by decide)).2.1 (by decide))]
theorem dk0_1_5 : (Nd.dec [0, 1, 5]).2 = 2 := by
  rw [Nd.dec_cls, show Nd.cls [0, 1, 5] = .bad 2 from by simp [Nd.cls, Nd.nx, num, numF, Nd.ents, Nd.rds, Nd.width]]
theorem dk0_1_5_2_0_0_0 : (Nd.dec [0, 1, 5, 2, 0, 0, 0]).2 = 4 := by
  have hc : Nd.cls [0, 1, 5, 2, 0, 0, 0] = .fine ⟨0, [5], [(2, 0, 0)], [0], []⟩ [] := by simp [Nd.cls, Nd.nx, num, numF, Nd.ents, Nd.rds, Nd.width, Nd.more]
  rw [Nd.dec_wrong hc (by simp) (fun o => absurd ((o.leaf rfl).2.2.2 0 (by decide)) (by decide))]
theorem dk0_1_5_2_1_8_0 : (Nd.dec [0, 1, 5, 2, 1, 8, 0]).2 = 4 := by
  have hc : Nd.cls [0, 1, 5, 2, 1, 8, 0] = .fine ⟨0, [5], [(2, 1, 8)], [0], []⟩ [] := by simp [Nd.cls, Nd.nx, num, numF, Nd.ents, Nd.rds, Nd.width, Nd.more]
  rw [Nd.dec_wrong hc (by simp) (fun o => absurd ((o.leaf rfl).2.2.2 0 (by decide)) (by decide))]
/-- Bytes by hand, in a block of their own. -/
theorem sl_hand {w : World} {l : List Nat} {cs : Array Value} (h : cs.toList = byts l) : Sl (w.alloc (.cells cs 5)) (w.alloc (.cells cs 5)).heap.size (some ⟨w.heap.size, 0, none⟩) (byts l) := .inr ⟨w.heap.size, 0, rfl, by simp, fun i hi => by
  rw [Nat.zero_add, (Blk.new w 5 cs).cell, ← Array.getElem?_toList, h, List.getElem?_eq_getElem hi]⟩
theorem pdec_hand (w : World) (s : Nat) (hs : w.heap.size = s) (l : List Nat) (cs : Array Value) (h : cs.toList = byts l) (k e : Nat) (hk : l.length = k) (hb : ∀ x ∈ l, x < 256) (hk9 : k ≤ 1000) (he : (Nd.dec l).2 = e) :
    Calls Try.prog 47 #[.slice (some ⟨s, 0, none⟩) k k] (w.alloc (.cells cs 5)) fun r w' => ∃ v, r = .returned (.tuple #[v, .int .i64 (e : Int)]) ∧ NdAt w' w'.heap.size v (Nd.dec l).1 ∧ Below (w.alloc (.cells cs 5)).heap.size (w.alloc (.cells cs 5)) w' := by
  subst hk; subst he; subst hs
  exact pdec_any (sl_hand h) (Nat.le_refl _) (fun h => by cases h) hb (by omega)
theorem nK_at {w W1 W2 : World} (h1 : w.alloc (.cells #[.int .i64 0, .int .i64 300] 3) = W1) (h2 : W1.alloc (.cells #[.int .i64 2, .int .i64 1, .int .i64 1, .int .i64 130, .int .i64 2, .int .i64 5] 88) = W2) : NdAt W2 W2.heap.size (.agg #[.int .i64 1, .slice (some ⟨w.heap.size, 0, none⟩) 2 2, .slice none 0 0, .slice none 0 0, .slice (some ⟨w.heap.size + 1, 0, none⟩) 2 2]) nK := by
  have s1 : W1.heap.size = w.heap.size + 1 := by rw [← h1]; simp
  have s2 : W2.heap.size = w.heap.size + 2 := by rw [← h2]; simp; omega
  have b1 : Blk W2 w.heap.size 3 #[.int .i64 0, .int .i64 300] := by rw [← h2, ← h1]; exact (Blk.new _ _ _).alloc _
  have b2 : Blk W2 (w.heap.size + 1) 88 #[.int .i64 2, .int .i64 1, .int .i64 1, .int .i64 130, .int .i64 2, .int .i64 5] := by rw [← h2, ← s1]; exact Blk.new _ _ _
  refine ⟨_, 2, none, 0, none, 0, _, 2, rfl, ⟨Nat.le_refl _, (fun h => by cases h), ?_⟩, SlC.none_ _ _, SlC.none_ _ _, ⟨Nat.le_refl _, (fun h => by cases h), ?_⟩⟩
  · exact .inr ⟨w.heap.size, 0, rfl, by omega, fun i hi => by
      have : i < 2 := hi
      have : i = 0 ∨ i = 1 := by omega
      rcases this with rfl | rfl <;> exact b1.cell _⟩
  · exact .inr ⟨w.heap.size + 1, 0, rfl, by omega, fun i hi => by
      have : i < 6 := hi
      have : i = 0 ∨ i = 1 ∨ i = 2 ∨ i = 3 ∨ i = 4 ∨ i = 5 := by omega
      rcases this with rfl | rfl | rfl | rfl | rfl | rfl <;> exact b2.cell _⟩
theorem bstr_K : bstr [1, 2, 0, 2, 1, 1, 172, 2, 130, 1, 2, 5] = ⟨#[1, 2, 0, 2, 1, 1, 172, 2, 130, 1, 2, 5]⟩ := by kernel_rfl
theorem bstr_Z : bstr [0, 0] = ⟨#[0, 0]⟩ := by kernel_rfl
set_option maxRecDepth 16000 in
set_option maxHeartbeats 16000000 in
theorem nknown_any (w : World) : Calls Try.prog 14 #[] w fun e w' => e = .returned (.bool true) ∧ Below w.heap.size w w' := by
  have NK := Lib.hid (nawake_any w)
  go_enter Try.func14, Try.ntmps14
  go_upto_region 3 with (go_at_call 40; ((with_reducible refine NK.out.mono ?_); rintro e w1 ⟨rfl, b1⟩; have B1 := Lib.hid b1; clear b1))
  obtain ⟨W1, h1⟩ : ∃ W, w1.alloc (.cells #[.int .i64 0, .int .i64 300] 3) = W := ⟨_, rfl⟩
  obtain ⟨W2, h2⟩ : ∃ W, W1.alloc (.cells #[.int .i64 2, .int .i64 1, .int .i64 1, .int .i64 130, .int .i64 2, .int .i64 5] 88) = W := ⟨_, rfl⟩
  have hn := nK_at h1 h2
  obtain ⟨b, hb⟩ : ∃ b, w1.heap.size = b := ⟨_, rfl⟩
  have s1 : W1.heap.size = b + 1 := by rw [← h1, ← hb]; simp
  have s2 : W2.heap.size = b + 2 := by rw [← h2]; simp; omega
  rw [hb] at hn
  go_upto_region 4 with fail
  obtain ⟨W3, h3⟩ : ∃ W, W2.alloc (.cells #[.int .i64 1, .slice (some ⟨b, 0, none⟩) 2 2, .slice none 0 0, .slice none 0 0, .slice (some ⟨b + 1, 0, none⟩) 2 2] 66) = W := ⟨_, rfl⟩
  rw [h3]
  have b3 : Below W2.heap.size W2 W3 := by rw [← h3]; exact (Below.refl _ _).alloc (Nat.le_refl _) _
  have nb : NB 66 W3 (b + 2) nK (some ⟨b, 0, none⟩) 2 none 0 none 0 (some ⟨b + 1, 0, none⟩) 2 := by
    refine ⟨by rw [← h3, ← s2]; exact Blk.new _ _ _, ?_⟩
    obtain ⟨A1, c1, A2, c2, A3, c3, A4, c4, e, hf⟩ := hn
    simp only [Value.agg.injEq, Array.mk.injEq, List.cons.injEq, Value.slice.injEq] at e
    obtain ⟨-, ⟨rfl, -, rfl⟩, ⟨rfl, -, rfl⟩, ⟨rfl, -, rfl⟩, ⟨rfl, -, rfl⟩, -⟩ := e
    exact (hf.below b3).more b3.size
  have B3 := Lib.hid (show Below w.heap.size w W3 from by rw [← h3, ← h2, ← h1]; exact ((B1.out.alloc B1.out.size _).alloc (by have := B1.out.size; simp; omega) _).alloc (by have := B1.out.size; simp; omega) _)
  have Cs := Lib.hid (fun (V : World) (h : Below W3.heap.size W3 V) => show V.cell? ⟨b + 2, 0, none⟩ = some (.int .i64 1) ∧ V.cell? ⟨b + 2, 1, none⟩ = some (.slice (some ⟨b, 0, none⟩) 2 2) ∧ V.cell? ⟨b + 2, 2, none⟩ = some (.slice none 0 0) ∧ V.cell? ⟨b + 2, 3, none⟩ = some (.slice none 0 0) ∧ V.cell? ⟨b + 2, 4, none⟩ = some (.slice (some ⟨b + 1, 0, none⟩) 2 2) from (nb.below h).cells)
  have NA := Lib.hid (fun (V : World) (h : Below W3.heap.size W3 V) => show NdAt V V.heap.size (.agg #[.int .i64 1, .slice (some ⟨b, 0, none⟩) 2 2, .slice none 0 0, .slice none 0 0, .slice (some ⟨b + 1, 0, none⟩) 2 2]) nK from (nb.below h).at_)
  have NE := enc_ok (NA.out W3 (Below.refl _ _)) nK_ok
  rw [nK_enc] at NE
  have NE := Lib.hid NE
  have NZ := Lib.hid (fun (V : World) => show Calls Try.prog 42 #[.agg #[.int .i64 0, .slice none 0 0, .slice none 0 0, .slice none 0 0, .slice none 0 0]] V fun e w' => ∃ A c, e = .returned (.tuple #[.slice A 2 c, .int .i64 0]) ∧ OY w' V.heap.size (.slice A 2 c) [0, 0] ∧ Below V.heap.size V w' from by
    have := enc_ok (w := V) (NdAt.zero V V.heap.size) nZ_ok
    rw [nZ_enc] at this
    exact this)
  obtain ⟨x0, x1, x2, x3, x4⟩ := Cs.out W3 (Below.refl _ _)
  clear hn b3 nb h1 h2 h3 s1 s2 hb
  go_upto_region 6 with (first
    | (go_at_call 42; ((with_reducible refine NE.out.mono ?_); rintro e w4 ⟨A4, c4, rfl, o4, b4⟩; have B4 := Lib.hid b4; have O4 := Lib.hid o4; have NZ := Lib.hid (NZ.out w4); clear b4 o4))
    | (go_at_call 42; ((with_reducible refine NZ.out.mono ?_); rintro e w5 ⟨A5, c5, rfl, o5, b5⟩; have H5 := Lib.hid b5; have B5 := Lib.hid (B4.out.trans (b5.mono B4.out.size)); have O5 := Lib.hid o5; clear b5 o5)))
  clear x0 x1 x2 x3 x4
  obtain ⟨s0, hs0⟩ : ∃ s, w5.heap.size = s := ⟨_, rfl⟩
  have Q5 := Lib.hid (Below.refl w5.heap.size w5)
  have ND := Lib.hid (pdec_hand w5 s0 hs0 [0, 9] #[.int .u8 0, .int .u8 9] rfl 2 4 rfl (by decide) (by decide) dk0_9)
  go_upto_region 7 with (go_at_call 47; ((with_reducible refine ND.out.mono ?_); rintro e q0 ⟨v0, rfl, g0, b0⟩; obtain ⟨P1, p1, P2, p2, P3, p3, P4, p4, rfl, nx⟩ := nb_box g0 66; have BD0 := Lib.hid ((Q5.out.alloc Q5.out.size (.cells #[.int .u8 0, .int .u8 9] 5)).trans (b0.mono (Q5.out.alloc Q5.out.size (.cells #[.int .u8 0, .int .u8 9] 5)).size)); clear g0 b0 nx))
  obtain ⟨V0, hV0⟩ : ∃ V, q0.alloc (.cells #[.int .i64 (Nd.dec [0, 9]).1.h, .slice P1 (Nd.dec [0, 9]).1.ks.length p1, .slice P2 (Nd.dec [0, 9]).1.ps.length p2, .slice P3 (Nd.dec [0, 9]).1.gs.length p3, .slice P4 (Nd.dec [0, 9]).1.cs.length p4] 66) = V := ⟨_, rfl⟩
  rw [hV0]
  have BV0 := Lib.hid (show Below w5.heap.size w5 V0 from by rw [← hV0]; exact BD0.out.alloc BD0.out.size _)
  obtain ⟨s1, hs1⟩ : ∃ s, V0.heap.size = s := ⟨_, rfl⟩
  clear hV0 ND
  have ND := Lib.hid (pdec_hand V0 s1 hs1 [6, 0] #[.int .u8 6, .int .u8 0] rfl 2 4 rfl (by decide) (by decide) dk6_0)
  go_upto_region 8 with (go_at_call 47; ((with_reducible refine ND.out.mono ?_); rintro e q1 ⟨v1, rfl, g1, b1⟩; obtain ⟨P1, p1, P2, p2, P3, p3, P4, p4, rfl, nx⟩ := nb_box g1 66; have BD1 := Lib.hid ((BV0.out.alloc BV0.out.size (.cells #[.int .u8 6, .int .u8 0] 5)).trans (b1.mono (BV0.out.alloc BV0.out.size (.cells #[.int .u8 6, .int .u8 0] 5)).size)); clear g1 b1 nx))
  obtain ⟨V1, hV1⟩ : ∃ V, q1.alloc (.cells #[.int .i64 (Nd.dec [6, 0]).1.h, .slice P1 (Nd.dec [6, 0]).1.ks.length p1, .slice P2 (Nd.dec [6, 0]).1.ps.length p2, .slice P3 (Nd.dec [6, 0]).1.gs.length p3, .slice P4 (Nd.dec [6, 0]).1.cs.length p4] 66) = V := ⟨_, rfl⟩
  rw [hV1]
  have BV1 := Lib.hid (show Below w5.heap.size w5 V1 from by rw [← hV1]; exact BD1.out.alloc BD1.out.size _)
  obtain ⟨s2, hs2⟩ : ∃ s, V1.heap.size = s := ⟨_, rfl⟩
  clear hV1 ND
  have ND := Lib.hid (pdec_hand V1 s2 hs2 [1, 0] #[.int .u8 1, .int .u8 0] rfl 2 4 rfl (by decide) (by decide) dk1_0)
  go_upto_region 9 with (go_at_call 47; ((with_reducible refine ND.out.mono ?_); rintro e q2 ⟨v2, rfl, g2, b2⟩; obtain ⟨P1, p1, P2, p2, P3, p3, P4, p4, rfl, nx⟩ := nb_box g2 66; have BD2 := Lib.hid ((BV1.out.alloc BV1.out.size (.cells #[.int .u8 1, .int .u8 0] 5)).trans (b2.mono (BV1.out.alloc BV1.out.size (.cells #[.int .u8 1, .int .u8 0] 5)).size)); clear g2 b2 nx))
  obtain ⟨V2, hV2⟩ : ∃ V, q2.alloc (.cells #[.int .i64 (Nd.dec [1, 0]).1.h, .slice P1 (Nd.dec [1, 0]).1.ks.length p1, .slice P2 (Nd.dec [1, 0]).1.ps.length p2, .slice P3 (Nd.dec [1, 0]).1.gs.length p3, .slice P4 (Nd.dec [1, 0]).1.cs.length p4] 66) = V := ⟨_, rfl⟩
  rw [hV2]
  have BV2 := Lib.hid (show Below w5.heap.size w5 V2 from by rw [← hV2]; exact BD2.out.alloc BD2.out.size _)
  obtain ⟨s3, hs3⟩ : ∃ s, V2.heap.size = s := ⟨_, rfl⟩
  clear hV2 ND
  have ND := Lib.hid (pdec_hand V2 s3 hs3 [0, 1, 5] #[.int .u8 0, .int .u8 1, .int .u8 5] rfl 3 2 rfl (by decide) (by decide) dk0_1_5)
  go_upto_region 10 with (go_at_call 47; ((with_reducible refine ND.out.mono ?_); rintro e q3 ⟨v3, rfl, g3, b3⟩; obtain ⟨P1, p1, P2, p2, P3, p3, P4, p4, rfl, nx⟩ := nb_box g3 66; have BD3 := Lib.hid ((BV2.out.alloc BV2.out.size (.cells #[.int .u8 0, .int .u8 1, .int .u8 5] 5)).trans (b3.mono (BV2.out.alloc BV2.out.size (.cells #[.int .u8 0, .int .u8 1, .int .u8 5] 5)).size)); clear g3 b3 nx))
  obtain ⟨V3, hV3⟩ : ∃ V, q3.alloc (.cells #[.int .i64 (Nd.dec [0, 1, 5]).1.h, .slice P1 (Nd.dec [0, 1, 5]).1.ks.length p1, .slice P2 (Nd.dec [0, 1, 5]).1.ps.length p2, .slice P3 (Nd.dec [0, 1, 5]).1.gs.length p3, .slice P4 (Nd.dec [0, 1, 5]).1.cs.length p4] 66) = V := ⟨_, rfl⟩
  rw [hV3]
  have BV3 := Lib.hid (show Below w5.heap.size w5 V3 from by rw [← hV3]; exact BD3.out.alloc BD3.out.size _)
  obtain ⟨s4, hs4⟩ : ∃ s, V3.heap.size = s := ⟨_, rfl⟩
  clear hV3 ND
  have ND := Lib.hid (pdec_hand V3 s4 hs4 [0, 1, 5, 2, 0, 0, 0] #[.int .u8 0, .int .u8 1, .int .u8 5, .int .u8 2, .int .u8 0, .int .u8 0, .int .u8 0] rfl 7 4 rfl (by decide) (by decide) dk0_1_5_2_0_0_0)
  go_upto_region 11 with (go_at_call 47; ((with_reducible refine ND.out.mono ?_); rintro e q4 ⟨v4, rfl, g4, b4⟩; obtain ⟨P1, p1, P2, p2, P3, p3, P4, p4, rfl, nx⟩ := nb_box g4 66; have BD4 := Lib.hid ((BV3.out.alloc BV3.out.size (.cells #[.int .u8 0, .int .u8 1, .int .u8 5, .int .u8 2, .int .u8 0, .int .u8 0, .int .u8 0] 5)).trans (b4.mono (BV3.out.alloc BV3.out.size (.cells #[.int .u8 0, .int .u8 1, .int .u8 5, .int .u8 2, .int .u8 0, .int .u8 0, .int .u8 0] 5)).size)); clear g4 b4 nx))
  obtain ⟨V4, hV4⟩ : ∃ V, q4.alloc (.cells #[.int .i64 (Nd.dec [0, 1, 5, 2, 0, 0, 0]).1.h, .slice P1 (Nd.dec [0, 1, 5, 2, 0, 0, 0]).1.ks.length p1, .slice P2 (Nd.dec [0, 1, 5, 2, 0, 0, 0]).1.ps.length p2, .slice P3 (Nd.dec [0, 1, 5, 2, 0, 0, 0]).1.gs.length p3, .slice P4 (Nd.dec [0, 1, 5, 2, 0, 0, 0]).1.cs.length p4] 66) = V := ⟨_, rfl⟩
  rw [hV4]
  have BV4 := Lib.hid (show Below w5.heap.size w5 V4 from by rw [← hV4]; exact BD4.out.alloc BD4.out.size _)
  obtain ⟨s5, hs5⟩ : ∃ s, V4.heap.size = s := ⟨_, rfl⟩
  clear hV4 ND
  have ND := Lib.hid (pdec_hand V4 s5 hs5 [0, 1, 5, 2, 1, 8, 0] #[.int .u8 0, .int .u8 1, .int .u8 5, .int .u8 2, .int .u8 1, .int .u8 8, .int .u8 0] rfl 7 4 rfl (by decide) (by decide) dk0_1_5_2_1_8_0)
  go_upto_region 12 with (go_at_call 47; ((with_reducible refine ND.out.mono ?_); rintro e q5 ⟨v5, rfl, g5, b5⟩; obtain ⟨P1, p1, P2, p2, P3, p3, P4, p4, rfl, nx⟩ := nb_box g5 66; have BD5 := Lib.hid ((BV4.out.alloc BV4.out.size (.cells #[.int .u8 0, .int .u8 1, .int .u8 5, .int .u8 2, .int .u8 1, .int .u8 8, .int .u8 0] 5)).trans (b5.mono (BV4.out.alloc BV4.out.size (.cells #[.int .u8 0, .int .u8 1, .int .u8 5, .int .u8 2, .int .u8 1, .int .u8 8, .int .u8 0] 5)).size)); clear g5 b5 nx))
  obtain ⟨V5, hV5⟩ : ∃ V, q5.alloc (.cells #[.int .i64 (Nd.dec [0, 1, 5, 2, 1, 8, 0]).1.h, .slice P1 (Nd.dec [0, 1, 5, 2, 1, 8, 0]).1.ks.length p1, .slice P2 (Nd.dec [0, 1, 5, 2, 1, 8, 0]).1.ps.length p2, .slice P3 (Nd.dec [0, 1, 5, 2, 1, 8, 0]).1.gs.length p3, .slice P4 (Nd.dec [0, 1, 5, 2, 1, 8, 0]).1.cs.length p4] 66) = V := ⟨_, rfl⟩
  rw [hV5]
  have BV5 := Lib.hid (show Below w5.heap.size w5 V5 from by rw [← hV5]; exact BD5.out.alloc BD5.out.size _)
  obtain ⟨s6, hs6⟩ : ∃ s, V5.heap.size = s := ⟨_, rfl⟩
  clear hV5 ND
  have BU := Lib.hid (fun (V : World) (h : Below w5.heap.size w5 V) => show Below W3.heap.size W3 V from B5.out.trans (h.mono B5.out.size))
  obtain ⟨x0, x1, x2, x3, x4⟩ := Cs.out V5 (BU.out _ BV5.out)
  have hf1 : Nd.find nK.ks 299 = (0, false) := by decide
  have hf2 : Nd.find nK.ks (-1) = (0, false) := by decide
  have F1 := find_any (NA.out V5 (BU.out _ BV5.out)) 299 (by decide)
  rw [hf1] at F1
  have F1 := Lib.hid F1
  have F2 := Lib.hid (fun (V : World) (h : Below W3.heap.size W3 V) => show Calls Try.prog 51 #[.agg #[.int .i64 1, .slice (some ⟨b, 0, none⟩) 2 2, .slice none 0 0, .slice none 0 0, .slice (some ⟨b + 1, 0, none⟩) 2 2], .int .i64 (-1)] V fun e w' => e = .returned (.tuple #[.int .i64 ((0 : Nat) : Int), .bool false]) ∧ Below V.heap.size V w' from by
    have := find_any (NA.out V h) (-1) (by decide)
    rw [hf2] at this
    exact this)
  have C1 := Lib.hid (fun (V : World) (h : Below W3.heap.size W3 V) (h4 : Below w4.heap.size w4 V) => show (convert 24 9 (.slice A4 12 c4)).run Try.prog V = .ok (.string ⟨#[1, 2, 0, 2, 1, 1, 172, 2, 130, 1, 2, 5]⟩) V from by
    rw [← bstr_K]; exact conv_b (l := [1, 2, 0, 2, 1, 1, 172, 2, 130, 1, 2, 5]) ((Sl.of_own O4.out).below h4))
  have C2 := Lib.hid (fun (V : World) (h5 : Below w5.heap.size w5 V) => show (convert 24 9 (.slice A5 2 c5)).run Try.prog V = .ok (.string ⟨#[0, 0]⟩) V from by
    rw [← bstr_Z]; exact conv_b (l := [0, 0]) ((Sl.of_own O5.out).below h5))
  clear hf1 hf2
  go_wp2_with (first
    | (go_at_call 51; ((with_reducible refine F1.out.mono ?_); rintro e w11 ⟨rfl, b11⟩; have B11 := Lib.hid (BV5.out.trans (b11.mono BV5.out.size)); have F2 := Lib.hid (F2.out w11 (BU.out _ B11.out)); obtain ⟨x0, x1, x2, x3, x4⟩ := Cs.out w11 (BU.out _ B11.out); clear b11))
    | (go_at_call 51; ((with_reducible refine F2.out.mono ?_); rintro e w12 ⟨rfl, b12⟩; have B12 := Lib.hid (B11.out.trans (b12.mono B11.out.size)); have cv1 := C1.out w12 (BU.out _ B12.out) (H5.out.trans (B12.out.mono H5.out.size)); have cv2 := C2.out w12 B12.out; clear b12)))
  have Fin := Lib.hid (B3.out.trans ((BU.out _ B12.out).mono B3.out.size))
  go_ret
  exact ⟨by first | rfl | simp, Fin.out⟩
end Go.Proofs.Ytdfelkkibolheaa
