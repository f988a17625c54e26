/- The program's slab: Save, where all is well. The program's slab: Load, where all is well. A slab of which nothing was given back: its used blocks come first (plain). The statements' awake: a node is saved and loaded. -/
import Derived.Test.YtaainefdjbmekaaSlwJ
import Derived.Test.YtaainefdjbmekaaSlbJ
namespace Go.Proofs.Ytaainefdjbmekaa
open Go.RowKit Go.Maps

section
variable {w wr w' : World} {P : SlP} {V : SlV} {K : Nat → Prop}
theorem write_gen (V : SlV) (l : List Nat) (n : Nat) : (V.write l n).2.gen = V.gen := by
  have ha : (V.alloc n).2.2.gen = V.gen := by unfold SlV.alloc; split <;> rfl
  unfold SlV.write
  split
  · split <;> exact ha
  · exact ha
set_option maxHeartbeats 8000000 in
theorem ssave_any (h : SlS w wr P V K) {v : Value} {nd : Nd.N} (hv : NdAt wr wr.heap.size v nd) (hok : Nd.Ok nd) {gn : Nat} (hg : V.gen = (gn : Int)) (hg2 : gn ≤ 2147483647) (hel : (Nd.enc nd).length ≤ 4096) (heb : ∀ x ∈ Nd.enc nd, x < 256) {n a : Nat} (hl : (frameB 78 gn (Nd.enc nd)).length = 64 * n) (hn : 1 ≤ n) (hn2 : n ≤ 8192)
    (hm : SmallS V.st n) (hs1 : ShSt (Rn.take V.F n).2.2 V.now V.was) (hs2 : (Rn.take V.F n).2.1 = true → ShSt (Rn.take V.F n).2.2 (Sh.add V.now (Rn.take V.F n).1 n).2 V.was) (hlt : (Rn.take V.F n).1 ≤ 100000) (hw : (V.write (frameB 78 gn (Nd.enc nd)) n).1 = (a, n, 0)) :
    Calls Try.prog 18 #[.pointer (some ⟨P.s, 0, none⟩), v] wr fun e w' => e = .returned (.tuple #[.agg #[.int .i64 (a : Int), .int .i64 (n : Int), .int .i64 (gn : Int)], .int .i64 0]) ∧ SlS w w' P (V.write (frameB 78 gn (Nd.enc nd)) n).2 K ∧ Far K wr w' := by
  have hv0 := hv
  obtain ⟨A1, c1, A2, c2, A3, c3, A4, c4, rfl, -⟩ := hv
  generalize hq1 : nd.ks.length = q1 at *
  generalize hq2 : nd.ps.length = q2 at *
  generalize hq3 : nd.gs.length = q3 at *
  generalize hq4 : nd.cs.length = q4 at *
  obtain ⟨W1, hW1⟩ : ∃ W, wr.alloc (.cells #[.int .i64 nd.h, .slice A1 q1 c1, .slice A2 q2 c2, .slice A3 q3 c3, .slice A4 q4 c4] 62) = W := ⟨_, rfl⟩
  obtain ⟨xn, hxn⟩ : ∃ x, wr.heap.size = x := ⟨_, rfl⟩
  obtain ⟨W2, hW2⟩ : ∃ W, W1.alloc (.cells #[.int .i64 0, .int .i64 0, .int .i64 0] 57) = W := ⟨_, rfl⟩
  obtain ⟨r0, hr0⟩ : ∃ x, W1.heap.size = x := ⟨_, rfl⟩
  have b1 : Below wr.heap.size wr W1 := by rw [← hW1]; exact (Below.refl _ _).alloc (Nat.le_refl _) _
  have b2 : Below W1.heap.size W1 W2 := by rw [← hW2]; exact (Below.refl _ _).alloc (Nat.le_refl _) _
  have b12 : Below wr.heap.size wr W2 := b1.trans (b2.mono b1.size)
  have B0 : Blk W2 r0 57 #[.int .i64 0, .int .i64 0, .int .i64 0] := by rw [← hW2, ← hr0]; exact Blk.new _ _ _
  have BN1 : Blk W1 xn 62 #[.int .i64 nd.h, .slice A1 q1 c1, .slice A2 q2 c2, .slice A3 q3 c3, .slice A4 q4 c4] := by rw [← hW1, ← hxn]; exact Blk.new _ _ _
  have BN := BN1.keep (b2.block xn BN1.lt)
  have n0 : W2.cell? ⟨xn, 0, none⟩ = some (.int .i64 nd.h) := BN.cell 0
  have n1 : W2.cell? ⟨xn, 1, none⟩ = some (.slice A1 q1 c1) := BN.cell 1
  have n2 : W2.cell? ⟨xn, 2, none⟩ = some (.slice A2 q2 c2) := BN.cell 2
  have n3 : W2.cell? ⟨xn, 3, none⟩ = some (.slice A3 q3 c3) := BN.cell 3
  have n4 : W2.cell? ⟨xn, 4, none⟩ = some (.slice A4 q4 c4) := BN.cell 4
  have h2 := h.new b12 (Y := fun b => b = r0) (fun b hb => by subst hb; exact ⟨by rw [← hr0]; exact b1.size, B0.lt⟩)
  have F2 := Lib.hid (h.step b12).2
  have EN := Lib.hid (enc_ok ((hv0.below b12).more b12.size) hok)
  have H2 := Lib.hid h2
  have HB0 := Lib.hid B0
  have NK := Lib.hid (show ¬ K r0 from fun hk => by have := h.lt hk; have := b1.size; omega)
  have HWX := Lib.hid (show w.heap.size ≤ r0 by rw [← hr0]; exact Nat.le_trans h.bel.size b1.size)
  have HL := Lib.hid (And.intro hl (And.intro hm (And.intro hs1 (And.intro hs2 (And.intro hlt hw)))))
  have HE := Lib.hid (And.intro hel heb)
  have HG := Lib.hid hg
  obtain ⟨s, hs⟩ : ∃ s, s = P.s := ⟨_, rfl⟩
  have SS := Lib.hid hs
  rw [← hs]
  clear b1 b2 b12 B0 BN1 BN h2 h hv0 hl hm hs1 hs2 hlt hw hel heb hg hs hq1 hq2 hq3 hq4 hok
  go_enter Try.func18, Try.ntmps18
  go_wp2_with fail
  refine EN.out.mono ?_
  rintro e w3 ⟨A, c, rfl, ho3, b3⟩
  obtain ⟨h3, f3⟩ := H2.out.step b3
  have BY3 := By.of_own ho3 HE.out.2 (by have := HE.out.1; omega)
  have MK := Lib.hid (make_by 78 (by decide) 78 rfl gn (gn : Int) rfl hg2 BY3 HE.out.1 (Nd.enc nd).length rfl)
  have s3 : w3.cell? ⟨s, 3, none⟩ = some (.int .i64 (gn : Int)) := by rw [SS.out, ← HG.out]; exact h3.blk.cell 3
  have H3 := Lib.hid h3
  have F3 := Lib.hid f3
  clear ho3 b3 h3 f3 BY3 EN n0 n1 n2 n3 n4
  generalize (Nd.enc nd).length = q at *
  go_wp2_with fail
  refine MK.out.mono ?_
  rintro e w4 ⟨A', c', rfl, by4, b4, ho4⟩
  have h4 := H3.out.new b4 (Y := fun b => (Value.slice A' (frameB 78 gn (Nd.enc nd)).length c').ownBlock = some b) (fun b hb => ho4.lt b hb)
  have f4 := (H3.out.step b4).2
  have WW := swrite_any h4 HL.out.1 hn hn2 by4.lt by4.sl by4.cap (fun b o e => .inr (.inr (by rw [e]; simp [Value.ownBlock]))) HL.out.2.1 HL.out.2.2.1 HL.out.2.2.2.1 HL.out.2.2.2.2.1
  rw [HL.out.2.2.2.2.2, ← SS.out] at WW
  have WW1 := Lib.hid WW
  have F4 := Lib.hid (F3.out.trans f4)
  clear by4 b4 ho4 h4 f4 WW MK s3
  generalize (frameB 78 gn (Nd.enc nd)).length = qf at *
  unfold wriV at WW1
  dsimp only at WW1
  go_wp2_with fail
  refine WW1.out.mono ?_
  rintro e w5 ⟨rfl, h5, f5⟩
  obtain ⟨V5, hV5⟩ : ∃ V5, V5 = (V.write (frameB 78 gn (Nd.enc nd)) n).2 := ⟨_, rfl⟩
  have hgen : V5.gen = (gn : Int) := by rw [hV5, write_gen]; exact HG.out
  rw [← hV5] at h5
  have HV5 := Lib.hid hV5
  have F5 := F4.out.trans (Far.mono f5 fun b hb => .inl hb)
  have B5 := F5.blk (g := r0) (.inr rfl) HB0.out
  have hr5 := B5.lt
  have hs5 : s < w5.heap.size := by rw [SS.out]; exact h5.blk.lt
  have s5 : w5.cell? ⟨s, 3, none⟩ = some (.int .i64 (gn : Int)) := by rw [SS.out, ← hgen]; exact h5.blk.cell 3
  have c0 : w5.cell? ⟨r0, 0, none⟩ = some (.int .i64 0) := B5.cell 0
  have c1' : w5.cell? ⟨r0, 1, none⟩ = some (.int .i64 0) := B5.cell 1
  have c2' : w5.cell? ⟨r0, 2, none⟩ = some (.int .i64 0) := B5.cell 2
  have f0 := B5.frozen 0
  have f1 := B5.frozen 1
  have f2 := B5.frozen 2
  have HH := Lib.hid (And.intro h5 (And.intro F5 B5))
  clear h5 f5 F5 B5 hV5 hgen WW1
  go_upto_region 12 with fail
  obtain ⟨W6, hW6⟩ : ∃ W, w5.alloc (.cells #[.int .i64 (a : Int), .int .i64 (n : Int)] 33) = W := ⟨_, rfl⟩
  obtain ⟨y, hy⟩ : ∃ y, w5.heap.size = y := ⟨_, rfl⟩
  have b6 : Below w5.heap.size w5 W6 := by rw [← hW6]; exact (Below.refl _ _).alloc (Nat.le_refl _) _
  have BY : Blk W6 y 33 #[.int .i64 (a : Int), .int .i64 (n : Int)] := by rw [← hW6, ← hy]; exact Blk.new _ _ _
  have y0 : W6.cell? ⟨y, 0, none⟩ = some (.int .i64 (a : Int)) := BY.cell 0
  have y1 : W6.cell? ⟨y, 1, none⟩ = some (.int .i64 (n : Int)) := BY.cell 1
  have B6 := HH.out.2.2.keep (b6.block r0 HH.out.2.2.lt)
  have h6 := HH.out.1.step b6
  have s6 : W6.cell? ⟨s, 3, none⟩ = some (.int .i64 (gn : Int)) := by rw [World.cell?_of_block (b6.block s hs5)]; exact s5
  have d0 : W6.cell? ⟨r0, 0, none⟩ = some (.int .i64 0) := B6.cell 0
  have d1 : W6.cell? ⟨r0, 1, none⟩ = some (.int .i64 0) := B6.cell 1
  have d2 : W6.cell? ⟨r0, 2, none⟩ = some (.int .i64 0) := B6.cell 2
  have g0 := B6.frozen 0
  have g1 := B6.frozen 1
  have g2 := B6.frozen 2
  have H6 := Lib.hid (And.intro (h6.1.mono (K' := fun b => K b ∨ b = r0) fun b hb => .inl hb) (And.intro ((F2.out.trans (Far.mono HH.out.2.1 fun b hb => .inl hb)).trans (Far.mono h6.2 fun b hb => .inl (.inl hb))) B6))
  rw [hW6, hy]
  clear b6 BY B6 h6 hW6 hy c0 c1' c2' f0 f1 f2 s5 hs5 hr5
  go_region
  go_wp2_with fail
  have hBe := ((H6.out.2.2.set_ 0 (.int .i64 (a : Int))).set_ 1 (.int .i64 (n : Int))).set_ 2 (.int .i64 (gn : Int))
  have e0 := hBe.cell 0
  have e1 := hBe.cell 1
  have e2 := hBe.cell 2
  simp only [List.getElem?_toArray, List.setIfInBounds_toArray, List.set_cons_zero, List.set_cons_succ, List.getElem?_cons_zero, List.getElem?_cons_succ] at e0 e1 e2
  have XX := Lib.hid (And.intro ((((H6.out.1.own (.inr rfl) HWX.out 0 (.int .i64 (a : Int))).own (.inr rfl) HWX.out 1 (.int .i64 (n : Int))).own (.inr rfl) HWX.out 2 (.int .i64 (gn : Int))).drew.mono (K' := K) fun b hb => .inl hb) ((((H6.out.2.1.set NK.out 0 (.int .i64 (a : Int))).set NK.out 1 (.int .i64 (n : Int))).set NK.out 2 (.int .i64 (gn : Int))).drew))
  clear hBe
  refine bodyPost_ret (v := .tuple #[.agg #[.int .i64 (a : Int), .int .i64 (n : Int), .int .i64 (gn : Int)], .int .i64 0]) ?_ rfl ⟨rfl, ?_, XX.out.2⟩
  · rw [results_cell_tmp rfl]
    go_simp
  · rw [← HV5.out]
    exact XX.out.1
end
end Go.Proofs.Ytaainefdjbmekaa

namespace Go.Proofs.Ytaainefdjbmekaa
open Go.RowKit Go.Maps

section
variable {w wr w' : World} {P : SlP} {V : SlV} {K : Nat → Prop}
/-- A slice of numbers whose first one is not 0 does not lie in a block that begins with 0 and slices. -/
theorem sl_off {w u : World} {B : Nat} {A : Option Addr} {xs : List Value} (h : Sl w B A xs) {r0 : Nat} {t : TypeId} (hb : Blk w r0 t #[.int .i64 0, .slice none 0 0, .slice none 0 0, .slice none 0 0, .slice none 0 0]) (hx : xs[0]? ≠ some (.int .i64 0)) (hi : ∀ v ∈ xs, ∃ k, v = .int .i64 k) (hB : B ≤ w.heap.size)
    (hk : ∀ b, b ≠ r0 → b < w.heap.size → u.heap[b]? = w.heap[b]?) : Sl u B A xs := by
  rcases h with h0 | ⟨b, o, e, hl, hc⟩
  · exact .inl h0
  · cases xs with
    | nil => exact .inl rfl
    | cons v r =>
      have h1 := hc 0 (by simp)
      obtain ⟨k, rfl⟩ := hi v (by simp)
      have hne : b ≠ r0 := by
        rintro rfl
        rw [Nat.add_zero, hb.cell o] at h1
        rcases o with _ | _ | _ | _ | _ | o
        · exact hx (by simp at h1; simp [← h1])
        · simp at h1
        · simp at h1
        · simp at h1
        · simp at h1
        · simp at h1
      exact .inr ⟨b, o, e, hl, fun i hi' => (World.cell?_of_block (hk b hne (Nat.lt_of_lt_of_le hl hB))).trans (hc i hi')⟩
theorem ivs_ints (l : List Int) : ∀ v ∈ ivs l, ∃ k, v = .int .i64 k := fun v hv => by
  obtain ⟨k, _, rfl⟩ := List.mem_map.1 hv
  exact ⟨k, rfl⟩
theorem tcs_ints : ∀ (l : List Nd.T3), ∀ v ∈ tcs l, ∃ k, v = .int .i64 k
  | [], v, h => by cases h
  | x :: l, v, h => by
    simp only [tcs, List.mem_cons] at h
    rcases h with h | h | h | h
    · exact ⟨_, h⟩
    · exact ⟨_, h⟩
    · exact ⟨_, h⟩
    · exact tcs_ints l v h
/-- The first numbers of a node's rows are not 0. -/
def NoZero (n : Nd.N) : Prop := (ivs n.ks)[0]? ≠ some (.int .i64 0) ∧ (tcs n.ps)[0]? ≠ some (.int .i64 0) ∧ (ivs n.gs)[0]? ≠ some (.int .i64 0) ∧ (tcs n.cs)[0]? ≠ some (.int .i64 0)
theorem nd_off {w u : World} {v : Value} {n : Nd.N} (h : NdAt w w.heap.size v n) {r0 : Nat} {t : TypeId} (hb : Blk w r0 t #[.int .i64 0, .slice none 0 0, .slice none 0 0, .slice none 0 0, .slice none 0 0]) (hz : NoZero n) (hs : w.heap.size ≤ u.heap.size)
    (hk : ∀ b, b ≠ r0 → b < w.heap.size → u.heap[b]? = w.heap[b]?) : NdAt u u.heap.size v n := by
  obtain ⟨A1, c1, A2, c2, A3, c3, A4, c4, e, hf⟩ := h
  exact NdAt.more ⟨A1, c1, A2, c2, A3, c3, A4, c4, e, ⟨⟨hf.ks.le, hf.ks.nil, sl_off hf.ks.sl hb hz.1 (ivs_ints _) (Nat.le_refl _) hk⟩, ⟨hf.ps.le, hf.ps.nil, sl_off hf.ps.sl hb hz.2.1 (tcs_ints _) (Nat.le_refl _) hk⟩, ⟨hf.gs.le, hf.gs.nil, sl_off hf.gs.sl hb hz.2.2.1 (ivs_ints _) (Nat.le_refl _) hk⟩, ⟨hf.cs.le, hf.cs.nil, sl_off hf.cs.sl hb hz.2.2.2 (tcs_ints _) (Nat.le_refl _) hk⟩⟩⟩ hs
set_option maxHeartbeats 8000000 in
theorem sload_any (h : SlS w wr P V K) {a n gn : Nat} {d : List Nat} (hn : 1 ≤ n) (hn2 : n ≤ 8192) (han : a + n ≤ V.st.blocks.length) (hm : SmallS V.st n) (h0 : (V.st.rds a n).1 = 0) (hg : gn ≤ 2147483647) (hd : d.length ≤ 4096) (hdb : ∀ x ∈ d, x < 256) (hl : (V.st.rds a n).2.1 = frameB 78 gn d) (hz : NoZero (Nd.dec d).1) :
    Calls Try.prog 20 #[.pointer (some ⟨P.s, 0, none⟩), .agg #[.int .i64 (a : Int), .int .i64 (n : Int), .int .i64 (gn : Int)]] wr fun e w' => (∃ v, e = .returned (.tuple #[v, .int .i64 ((Nd.dec d).2 : Int)]) ∧ NdAt w' w'.heap.size v (Nd.dec d).1) ∧ SlS w w' P { V with st := (V.st.rds a n).2.2 } K ∧ Far K wr w' := by
  obtain ⟨W1, hW1⟩ : ∃ W, wr.alloc (.cells #[.int .i64 (a : Int), .int .i64 (n : Int), .int .i64 (gn : Int)] 57) = W := ⟨_, rfl⟩
  obtain ⟨xk, hxk⟩ : ∃ x, wr.heap.size = x := ⟨_, rfl⟩
  obtain ⟨W2, hW2⟩ : ∃ W, W1.alloc (.cells #[.int .i64 0, .slice none 0 0, .slice none 0 0, .slice none 0 0, .slice none 0 0] 62) = W := ⟨_, rfl⟩
  obtain ⟨r0, hr0⟩ : ∃ x, W1.heap.size = x := ⟨_, rfl⟩
  have b1 : Below wr.heap.size wr W1 := by rw [← hW1]; exact (Below.refl _ _).alloc (Nat.le_refl _) _
  have b2 : Below W1.heap.size W1 W2 := by rw [← hW2]; exact (Below.refl _ _).alloc (Nat.le_refl _) _
  have b12 : Below wr.heap.size wr W2 := b1.trans (b2.mono b1.size)
  have B0 : Blk W2 r0 62 #[.int .i64 0, .slice none 0 0, .slice none 0 0, .slice none 0 0, .slice none 0 0] := by rw [← hW2, ← hr0]; exact Blk.new _ _ _
  have BK1 : Blk W1 xk 57 #[.int .i64 (a : Int), .int .i64 (n : Int), .int .i64 (gn : Int)] := by rw [← hW1, ← hxk]; exact Blk.new _ _ _
  have BK := BK1.keep (b2.block xk BK1.lt)
  have n0 : W2.cell? ⟨xk, 0, none⟩ = some (.int .i64 (a : Int)) := BK.cell 0
  have n1 : W2.cell? ⟨xk, 1, none⟩ = some (.int .i64 (n : Int)) := BK.cell 1
  have h2 := h.new b12 (Y := fun b => b = r0 ∨ b = xk) (fun b hb => by
    rcases hb with rfl | rfl
    · exact ⟨by rw [← hr0]; exact b1.size, B0.lt⟩
    · exact ⟨Nat.le_of_eq hxk, BK.lt⟩)
  have F2 := Lib.hid (h.step b12).2
  have RD := sread_any h2 a n hn hn2 han hm
  have HB0 := Lib.hid B0
  have HBK := Lib.hid BK
  have NK := Lib.hid (show ¬ K r0 from fun hk => by have := h.lt hk; have := b1.size; omega)
  have HWX := Lib.hid (show w.heap.size ≤ r0 by rw [← hr0]; exact Nat.le_trans h.bel.size b1.size)
  obtain ⟨s, hs⟩ : ∃ s, s = P.s := ⟨_, rfl⟩
  rw [← hs] at RD ⊢
  obtain ⟨R, hR⟩ : ∃ R, R = V.st.rds a n := ⟨_, rfl⟩
  rw [← hR] at RD h0 hl ⊢
  have HL := Lib.hid (And.intro h0 (And.intro hl (And.intro hd hdb)))
  have RD1 := Lib.hid RD
  have HZ := Lib.hid hz
  clear hz b1 b2 b12 B0 BK1 BK h2 h han hm h0 hd hdb hl hs hR RD
  go_enter Try.func20, Try.ntmps20
  go_wp2_with fail
  refine RD1.out.mono ?_
  rintro e w3 ⟨r3, h3, f3⟩
  unfold RdR at r3
  rw [if_pos HL.out.1] at r3
  dsimp only at r3
  rw [HL.out.2.1] at r3
  obtain ⟨A, c, rfl, ho3⟩ := r3
  have BY3 := By.of_own ho3 (frameB_lt (by decide) gn HL.out.2.2.2) (by have := frame_small (k := 78) (g := gn) HL.out.2.2.1; omega)
  have OP := Lib.hid (open_frame hg HL.out.2.2.1 BY3 78 rfl (frameB 78 gn d).length rfl)
  have H3 := Lib.hid (And.intro h3 f3)
  clear ho3 h3 f3 BY3 RD1 n0 n1
  generalize (frameB 78 gn d).length = qf at *
  go_wp2_with fail
  refine OP.out.mono ?_
  rintro e w4 ⟨A4, c4, rfl, by4, b4⟩
  obtain ⟨h4, f4⟩ := H3.out.1.step b4
  have BK4 := (H3.out.2.trans f4).blk (g := xk) (.inr (.inr rfl)) HBK.out
  have k2 : w4.cell? ⟨xk, 2, none⟩ = some (.int .i64 (gn : Int)) := BK4.cell 2
  have z0 : ((gn : Int) != (gn : Int)) = false := by simp
  have DE := Lib.hid (pdec_any by4.sl by4.cap by4.nil by4.lt by4.len)
  have H4 := Lib.hid (And.intro h4 (H3.out.2.trans f4))
  clear by4 b4 h4 f4 BK4 OP
  generalize hdl : d.length = qd at *
  go_wp2_with fail
  refine DE.out.mono ?_
  rintro e w5 ⟨v, rfl, hv5, b5⟩
  obtain ⟨h5, f5⟩ := H4.out.1.step b5
  have F5 := H4.out.2.trans f5
  have B5 := F5.blk (g := r0) (.inr (.inl rfl)) HB0.out
  have c0 : w5.cell? ⟨r0, 0, none⟩ = some (.int .i64 0) := B5.cell 0
  have c1 : w5.cell? ⟨r0, 1, none⟩ = some (.slice none 0 0) := B5.cell 1
  have c2 : w5.cell? ⟨r0, 2, none⟩ = some (.slice none 0 0) := B5.cell 2
  have c3 : w5.cell? ⟨r0, 3, none⟩ = some (.slice none 0 0) := B5.cell 3
  have c4' : w5.cell? ⟨r0, 4, none⟩ = some (.slice none 0 0) := B5.cell 4
  have f0 := B5.frozen 0
  have f1 := B5.frozen 1
  have f2 := B5.frozen 2
  have f3 := B5.frozen 3
  have f4' := B5.frozen 4
  have hv6 := hv5
  obtain ⟨A1, c1', A2, c2', A3, c3', A4', c4'', rfl, -⟩ := hv6
  have HH := Lib.hid (And.intro h5 (And.intro F5 (And.intro B5 hv5)))
  clear h5 f5 F5 B5 hv5 b5 DE
  generalize hnd : (Nd.dec d).1 = nd at *
  generalize hq1 : nd.ks.length = q1 at *
  generalize hq2 : nd.ps.length = q2 at *
  generalize hq3 : nd.gs.length = q3 at *
  generalize hq4 : nd.cs.length = q4 at *
  generalize hx0 : nd.h = x0 at *
  have XX := Lib.hid (And.intro (((((((HH.out.1.own (.inr (.inl rfl)) HWX.out 0 (.int .i64 x0)).own (.inr (.inl rfl)) HWX.out 1 (.slice A1 q1 c1')).own (.inr (.inl rfl)) HWX.out 2 (.slice A2 q2 c2')).own (.inr (.inl rfl)) HWX.out 3 (.slice A3 q3 c3')).own (.inr (.inl rfl)) HWX.out 4 (.slice A4' q4 c4''))).mono (K' := K) fun b hb => .inl hb) ((((((F2.out.trans (Far.mono HH.out.2.1 fun b hb => .inl hb)).set NK.out 0 (.int .i64 x0)).set NK.out 1 (.slice A1 q1 c1')).set NK.out 2 (.slice A2 q2 c2')).set NK.out 3 (.slice A3 q3 c3')).set NK.out 4 (.slice A4' q4 c4'')))
  have hBe := ((((HH.out.2.2.1.set_ 0 (.int .i64 x0)).set_ 1 (.slice A1 q1 c1')).set_ 2 (.slice A2 q2 c2')).set_ 3 (.slice A3 q3 c3')).set_ 4 (.slice A4' q4 c4'')
  have hNd := nd_off HH.out.2.2.2 HH.out.2.2.1 HZ.out (u := ((((w5.setCell ⟨r0, 0, none⟩ (.int .i64 x0)).setCell ⟨r0, 1, none⟩ (.slice A1 q1 c1')).setCell ⟨r0, 2, none⟩ (.slice A2 q2 c2')).setCell ⟨r0, 3, none⟩ (.slice A3 q3 c3')).setCell ⟨r0, 4, none⟩ (.slice A4' q4 c4'')) (by simp) (fun b hb _ => by
    rw [Below.heap_setCell _ _ _ _ hb, Below.heap_setCell _ _ _ _ hb, Below.heap_setCell _ _ _ _ hb, Below.heap_setCell _ _ _ _ hb, Below.heap_setCell _ _ _ _ hb])
  have e0 := hBe.cell 0
  have e1 := hBe.cell 1
  have e2 := hBe.cell 2
  have e3 := hBe.cell 3
  have e4 := hBe.cell 4
  simp only [List.getElem?_toArray, List.setIfInBounds_toArray, List.set_cons_zero, List.set_cons_succ, List.getElem?_cons_zero, List.getElem?_cons_succ] at e0 e1 e2 e3 e4
  have HNd := Lib.hid hNd
  clear hBe hNd
  go_wp2_with fail
  refine bodyPost_ret (v := .tuple #[.agg #[.int .i64 x0, .slice A1 q1 c1', .slice A2 q2 c2', .slice A3 q3 c3', .slice A4' q4 c4''], .int .i64 ((Nd.dec d).2 : Int)]) ?_ rfl ⟨⟨_, rfl, by first | exact HNd.out | (rw [← hnd]; exact HNd.out) | (rw [hnd]; exact HNd.out)⟩, XX.out.1, XX.out.2⟩
  rw [results_cell_tmp rfl]
  go_simp
end
end Go.Proofs.Ytaainefdjbmekaa

namespace Go.Proofs.Ytaainefdjbmekaa
open Go.RowKit

/-- The first s of N blocks are used; nothing is planned to fail when p; m operations may still come. -/
structure Pre (V : SlV) (N s : Nat) : Prop where
  F : V.F = Rn.pre s (N - s)
  le : s ≤ N ∧ N ≤ 8192
  was : V.was = []
  len : V.st.blocks.length = N
  ok : ShSt V.F V.now V.was
  few : V.now.length ≤ s
theorem below_all (l : List Sh.U) (a n : Nat) (h : ∀ u ∈ l, u.1 < a) : Sh.ins l a n = l ++ [(a, n, 1)] := by
  have hb : Sh.below l a = l.length := by
    unfold Sh.below
    have : ∀ (l : List Sh.U), (∀ u ∈ l, u.1 < a) → l.takeWhile (fun u => decide (u.1 < a)) = l := fun l => by
      induction l with
      | nil => intro _; rfl
      | cons u r ih => intro h; rw [List.takeWhile_cons, if_pos (decide_eq_true (h u (by simp))), ih fun v hv => h v (by simp [hv])]
    rw [this l h]
  unfold Sh.ins
  rw [hb, List.take_length, List.drop_length, List.append_nil]
theorem Pre.flen {V : SlV} {N s : Nat} (h : Pre V N s) : V.F.length = N := by rw [h.F, Rn.pre_len]; have := h.le; omega
theorem Pre.lt {V : SlV} {N s : Nat} (h : Pre V N s) : ∀ u ∈ V.now, u.1 < s := fun u hu => by
  obtain ⟨h1, h2, h3⟩ := h.ok.ok.held u hu
  have h4 := h3 u.1 (Nat.le_refl _) (by omega)
  rw [h.flen] at h2
  rw [h.F, Rn.pre_at (by have := h.le; omega)] at h4
  have := of_decide_eq_false h4
  omega
theorem Pre.free {V : SlV} {N s n : Nat} (h : Pre V N s) (hn : s + n ≤ N) : ∀ j, s ≤ j → j < s + n → V.F.getD j false = true := fun j h1 h2 => by
  rw [h.F, Rn.pre_at (by omega)]
  simp [h1]
/-- There is room. -/
theorem Pre.fits {V : SlV} {N s n : Nat} (h : Pre V N s) (hn1 : 1 ≤ n) (hn : s + n ≤ N) :
    Rn.take V.F (n : Int) = (s, true, Rn.pre (s + n) (N - (s + n))) ∧ ShSt (Rn.pre (s + n) (N - (s + n))) V.now V.was ∧ Sh.add V.now (s : Int) (n : Int) = (true, V.now ++ [(s, n, 1)]) ∧ ShSt (Rn.pre (s + n) (N - (s + n))) (V.now ++ [(s, n, 1)]) V.was := by
  have h1 := h.le
  obtain ⟨g1, g2, g3⟩ := shst_taken h.ok (a := s) hn1 (by rw [h.flen]; exact hn) (by rw [h.flen]; omega) (by have := h.few; omega) (h.free hn)
  rw [below_all _ _ _ h.lt] at g2 g3
  have e : Rn.setN V.F s false n = Rn.pre (s + n) (N - (s + n)) := by rw [h.F, Rn.setN_pre (by omega), show N - s - n = N - (s + n) by omega]
  rw [e] at g1 g3
  refine ⟨?_, g1, g2, g3⟩
  rw [h.F, Rn.take_pre hn1, if_pos (by omega), show N - s - n = N - (s + n) by omega]
theorem Pre.full {V : SlV} {N s n : Nat} (h : Pre V N s) (hn1 : 1 ≤ n) (hn : N < s + n) : Rn.take V.F (n : Int) = (0, false, V.F) := by
  have h1 := h.le
  rw [h.F, Rn.take_pre hn1, if_neg (by omega)]
/-- A slab with the used blocks s, its state st. -/
def SlV.up (V : SlV) (N s n : Nat) (st : PSt) : SlV := { V with F := Rn.pre (s + n) (N - (s + n)), now := V.now ++ [(s, n, 1)], st := st }
theorem Pre.up {V : SlV} {N s n : Nat} (h : Pre V N s) (hn1 : 1 ≤ n) (hn : s + n ≤ N) {st : PSt} (hb : st.blocks = V.st.blocks) : Pre (V.up N s n st) N (s + n) := by
  obtain ⟨_, _, _, g⟩ := h.fits hn1 hn
  refine ⟨rfl, ⟨hn, h.le.2⟩, h.was, ?_, g, ?_⟩
  · show st.blocks.length = N
    rw [hb]; exact h.len
  · show (V.now ++ [(s, n, 1)]).length ≤ s + n
    rw [List.length_append]
    have := h.few
    simp only [List.length_cons, List.length_nil]
    omega
theorem Pre.alloc {V : SlV} {N s n : Nat} (h : Pre V N s) (hn1 : 1 ≤ n) (hn : s + n ≤ N) : V.alloc n = (s, true, V.up N s n V.st) := by
  obtain ⟨e1, _, e2, _⟩ := h.fits hn1 hn
  unfold SlV.alloc
  rw [e1, if_pos rfl]
  dsimp only
  rw [e2]
  rfl
theorem Pre.write {V : SlV} {N s n : Nat} (h : Pre V N s) (hn1 : 1 ≤ n) (hn : s + n ≤ N) (l : List Nat) : V.write l n = if (V.st.wrs s l n).1 = 0 then ((s, n, 0), V.up N s n (V.st.wrs s l n).2) else ((0, 0, (V.st.wrs s l n).1), V.up N s n (V.st.wrs s l n).2) := by
  unfold SlV.write
  rw [h.alloc hn1 hn, if_pos rfl]
  rfl
theorem Pre.write_no {V : SlV} {N s n : Nat} (h : Pre V N s) (hn1 : 1 ≤ n) (hn : N < s + n) (l : List Nat) : V.write l n = ((0, 0, 7), V) := by
  have e : V.alloc n = (0, false, V) := by
    unfold SlV.alloc
    rw [h.full hn1 hn]
    rfl
  unfold SlV.write
  rw [e]
  rfl
theorem pre_new {n : Nat} (h : 64 ≤ n) (h2 : n ≤ 8192) (gen : Int) : Pre (newV n gen) n 2 :=
  ⟨rfl, ⟨by omega, h2⟩, rfl, by simp [newV, newSt], shst_start _, Nat.zero_le _⟩

section
variable {w wr w' : World} {P : SlP} {V : SlV} {K : Nat → Prop}
/-- Write, where nothing was given back. -/
theorem pwrite_any (h : SlS w wr P V K) {N s : Nat} (hp : Pre V N s) {A : Option Addr} {cap n : Nat} {l : List Nat} (hl : l.length = 64 * n) (hn : 1 ≤ n) (hn2 : n ≤ 8192) (hb : ∀ x ∈ l, x < 256) (hsl : Sl wr wr.heap.size A (byts l)) (hcap : l.length ≤ cap) (hA : ∀ b o, A = some ⟨b, o, none⟩ → b < w.heap.size ∨ K b) (hm : SmallS V.st n) :
    Calls Try.prog 8 #[.pointer (some ⟨P.s, 0, none⟩), .slice A l.length cap] wr fun e w' => e = .returned (wriV (V.write l n).1) ∧ SlS w w' P (V.write l n).2 K ∧ Far K wr w' := by
  have hle := hp.le
  by_cases hf : s + n ≤ N
  · obtain ⟨e1, g1, e2, g2⟩ := hp.fits hn hf
    exact swrite_any h hl hn hn2 hb hsl hcap hA hm (by rw [e1]; exact g1) (fun _ => by rw [e1]; dsimp only; rw [e2]; exact g2) (by rw [e1]; show s ≤ 100000; omega)
  · have e1 := hp.full hn (n := n) (by omega)
    exact swrite_any h hl hn hn2 hb hsl hcap hA hm (by rw [e1]; exact hp.ok) (fun h => by rw [e1] at h; cases h) (by rw [e1]; exact Nat.zero_le _)
end
end Go.Proofs.Ytaainefdjbmekaa

namespace Go.Proofs.Ytaainefdjbmekaa
open Go.RowKit Go.Maps

theorem sl_freeB {w wr : World} {P : SlP} {V : SlV} {K : Nat → Prop} (h : SlS w wr P V K) : Calls Try.prog 9 #[.pointer (some ⟨P.g, 0, none⟩)] wr fun e w' => e = .returned (.int .i64 (Rn.freeN V.F : Int)) ∧ Below wr.heap.size wr w' := by
  obtain ⟨Fp, Xs, hi, hK⟩ := h
  obtain ⟨Xr, l, v, hr, e1, e2⟩ := hi.rep
  exact free_any hr.map
theorem sl_usesB {w wr : World} {P : SlP} {V : SlV} {K : Nat → Prop} (h : SlS w wr P V K) (a : Int) : Calls Try.prog 10 #[.pointer (some ⟨P.gs, 0, none⟩), .int .i64 a] wr fun e w' => e = .returned (.int .i64 (Sh.uses V.now a : Int)) ∧ Below wr.heap.size wr w' := by
  obtain ⟨gen, st, F, now, was⟩ := V
  obtain ⟨Fp, Xs, hi, hK⟩ := h
  obtain ⟨Xr, l, v, hr, e1, e2⟩ := hi.rep
  have e1 : now = Sk.ofN l := e1
  have e2 : was = Sk.ofW l := e2
  subst e1 e2
  exact suses_any' hr (kbOf hi.ok) a
/-- The node of awake. -/
def awN : Nd.N := ⟨0, [5], [(2, 1, 0)], [1], []⟩
theorem awN_enc : Nd.enc awN = [0, 1, 5, 2, 1, 0, 1] := by decide +kernel
theorem awN_ok : Nd.Ok awN := by
  have one : ∀ i, i < awN.ks.length → i = 0 := fun i hi => by have : awN.ks.length = 1 := rfl; omega
  refine ⟨by decide, by decide, by decide, fun i hi => ?_, fun i hi => ?_, fun _ => ⟨rfl, rfl, rfl, fun i hi => ?_⟩, fun h => absurd rfl h⟩
  · rw [one i hi]; decide
  · have := one (i + 1) hi; omega
  · rw [one i hi]
    unfold Nd.PlaceOk Nd.RunOk Nd.GenOk
    decide
theorem awN_few : FewOk awN := by unfold FewOk awN; simp
theorem awN_zero : NoZero awN := by unfold NoZero awN ivs; simp [tcs]
theorem aw_frame : (frameB 78 3 (Nd.enc awN)).length = 64 * 1 := by rw [fr_len, awN_enc]; rfl

theorem small_new (n m : Nat) (h : m < 1000000) (hn : n < 1000000) : SmallS (newSt n) m := ⟨fun k _ => by simp [newSt]; exact h, by simp [newSt]; exact h, by simp [newSt]; exact hn⟩
/-- The frame of awake, and the state behind its writing. -/
def awF : List Nat := frameB 78 3 (Nd.enc awN)
def awV : SlV := (newV 64 3).up 64 2 1 ((newSt 64).wrs 2 awF 1).2
theorem awF_len : awF.length = 64 * 1 := aw_frame
theorem aw_wrs : ((newSt 64).wrs 2 awF 1).1 = 0 ∧ ∀ k, ((newSt 64).wrs 2 awF 1).2.look k = if 2 ≤ k ∧ k < 2 + 1 then blkOf awF (k - 2) else (newSt 64).look k :=
  wrs_ok rfl awF_len (by simp [newSt]) 1 (Nat.le_refl _)
theorem aw_write : (newV 64 3).write awF 1 = ((2, 1, 0), awV) := by
  rw [(pre_new (n := 64) (by omega) (by omega) 3).write (by omega) (by omega) awF]
  exact if_pos aw_wrs.1
theorem aw_rds : (awV.st.rds 2 1).1 = 0 ∧ (awV.st.rds 2 1).2.1 = awF := by
  have hp : awV.st.plan = [] := by show ((newSt 64).wrs 2 awF 1).2.plan = []; rw [wrs_plan]; rfl
  have hb : 2 + 1 ≤ awV.st.blocks.length := by show 2 + 1 ≤ ((newSt 64).wrs 2 awF 1).2.blocks.length; rw [wrs_blocks]; simp [newSt]
  obtain ⟨h1, h2, _⟩ := rds_ok hp hb 1 (Nat.le_refl _)
  refine ⟨h1, ?_⟩
  rw [h2]
  show [0].flatMap (fun i => ((newSt 64).wrs 2 awF 1).2.look (2 + i)) = awF
  rw [List.flatMap_cons, List.flatMap_nil, List.append_nil, aw_wrs.2, if_pos (by omega)]
  have := blkOf_all (l := awF) 1 awF_len
  simpa using this
theorem aw_dec : Nd.dec (Nd.enc awN) = (awN, 0) := by
  have := Nd.dec_enc awN_ok []
  rw [List.append_nil] at this
  rw [this]
  simp
theorem aw_small : SmallS awV.st 1 := SmallS.wrs (small_new 64 2 (by omega) (by omega))
theorem aw_blocks : 2 + 1 ≤ awV.st.blocks.length := by show 2 + 1 ≤ ((newSt 64).wrs 2 awF 1).2.blocks.length; rw [wrs_blocks]; simp [newSt]

theorem awN_at {u : World} {k1 : Nat} (A1 : Blk u k1 3 #[.int .i64 5]) (A2 : Blk u (k1 + 1) 51 #[.int .i64 2, .int .i64 1, .int .i64 0]) (A3 : Blk u (k1 + 1 + 1) 3 #[.int .i64 1]) :
    NdAt u u.heap.size (.agg #[.int .i64 0, .slice (some ⟨k1, 0, none⟩) 1 1, .slice (some ⟨k1 + 1, 0, none⟩) 1 1, .slice (some ⟨k1 + 1 + 1, 0, none⟩) 1 1, .slice none 0 0]) awN := by
  have l1 := A1.lt
  have l2 := A2.lt
  have l3 := A3.lt
  refine ⟨some ⟨k1, 0, none⟩, 1, some ⟨k1 + 1, 0, none⟩, 1, some ⟨k1 + 1 + 1, 0, none⟩, 1, none, 0, rfl, ⟨⟨Nat.le_refl _, (fun h => by cases h), ?_⟩, ⟨Nat.le_refl _, (fun h => by cases h), ?_⟩, ⟨Nat.le_refl _, (fun h => by cases h), ?_⟩, SlC.none_ _ _⟩⟩
  · refine .inr ⟨k1, 0, rfl, by omega, fun i hi => ?_⟩
    rw [Nat.zero_add, A1.cell i]
    have : i = 0 := by simp [ivs, awN] at hi; exact hi
    subst this; rfl
  · refine .inr ⟨k1 + 1, 0, rfl, by omega, fun i hi => ?_⟩
    rw [Nat.zero_add, A2.cell i]
    simp [tcs, awN] at hi
    rcases i with _ | _ | _ | i
    · rfl
    · rfl
    · rfl
    · omega
  · refine .inr ⟨k1 + 1 + 1, 0, rfl, by omega, fun i hi => ?_⟩
    rw [Nat.zero_add, A3.cell i]
    have : i = 0 := by simp [ivs, awN] at hi; exact hi
    subst this; rfl
set_option maxHeartbeats 8000000 in
theorem slawake_any (w : World) : Calls Try.prog 6 #[] w fun e w' => e = .returned (.bool true) ∧ Below w.heap.size w w' := by
  have M := smake_any 64 3 (by omega) (by omega) (w := w) (wr := w) (Below.refl _ _)
  rw [show ((64 : Nat) : Int) = 64 from rfl] at M
  have M1 := Lib.hid M
  clear M
  go_enter Try.func6, Try.ntmps6
  go_wp2_with fail
  refine M1.out.mono ?_
  rintro e w1 ⟨P, rfl, h1, -⟩
  obtain ⟨s, hs⟩ : ∃ s, s = P.s := ⟨_, rfl⟩
  obtain ⟨g, hg⟩ : ∃ g, g = P.g := ⟨_, rfl⟩
  obtain ⟨gs, hgs⟩ : ∃ gs, gs = P.gs := ⟨_, rfl⟩
  rw [← hs, ← hg, ← hgs]
  have HS := Lib.hid (And.intro hs (And.intro hg hgs))
  have H1 := Lib.hid h1
  clear h1 M1 hs hg hgs
  go_upto_region 5 with fail
  obtain ⟨k1, hk1⟩ : ∃ k, w1.heap.size = k := ⟨_, rfl⟩
  rw [hk1]
  obtain ⟨Wa, hWa⟩ : ∃ W, w1.alloc (.cells #[.int .i64 5] 3) = W := ⟨_, rfl⟩
  obtain ⟨Wb, hWb⟩ : ∃ W, Wa.alloc (.cells #[.int .i64 2, .int .i64 1, .int .i64 0] 51) = W := ⟨_, rfl⟩
  obtain ⟨Wc, hWc⟩ : ∃ W, Wb.alloc (.cells #[.int .i64 1] 3) = W := ⟨_, rfl⟩
  obtain ⟨W5, hW5⟩ : ∃ W, Wc.alloc (.cells #[.int .i64 0, .slice (some ⟨k1, 0, none⟩) 1 1, .slice (some ⟨k1 + 1, 0, none⟩) 1 1, .slice (some ⟨k1 + 1 + 1, 0, none⟩) 1 1, .slice none 0 0] 55) = W := ⟨_, rfl⟩
  rw [hWa, hWb, hWc, hW5]
  have sa : Wa.heap.size = k1 + 1 := by rw [← hWa, ← hk1]; simp
  have sb : Wb.heap.size = k1 + 1 + 1 := by rw [← hWb, ← sa]; simp
  have sc : Wc.heap.size = k1 + 1 + 1 + 1 := by rw [← hWc, ← sb]; simp
  have s5 : W5.heap.size = k1 + 1 + 1 + 1 + 1 := by rw [← hW5, ← sc]; simp
  have ba : Below w1.heap.size w1 Wa := by rw [← hWa]; exact (Below.refl _ _).alloc (Nat.le_refl _) _
  have bb : Below w1.heap.size w1 Wb := by rw [← hWb]; exact ba.alloc ba.size _
  have bc : Below w1.heap.size w1 Wc := by rw [← hWc]; exact bb.alloc bb.size _
  have b5 : Below w1.heap.size w1 W5 := by rw [← hW5]; exact bc.alloc bc.size _
  have A1 : Blk W5 k1 3 #[.int .i64 5] := by
    have : Blk Wa k1 3 #[.int .i64 5] := by rw [← hWa, ← hk1]; exact Blk.new _ _ _
    rw [← hW5, ← hWc, ← hWb]; exact ((this.alloc _).alloc _).alloc _
  have A2 : Blk W5 (k1 + 1) 51 #[.int .i64 2, .int .i64 1, .int .i64 0] := by
    have : Blk Wb (k1 + 1) 51 #[.int .i64 2, .int .i64 1, .int .i64 0] := by rw [← hWb, ← sa]; exact Blk.new _ _ _
    rw [← hW5, ← hWc]; exact (this.alloc _).alloc _
  have A3 : Blk W5 (k1 + 1 + 1) 3 #[.int .i64 1] := by
    have : Blk Wc (k1 + 1 + 1) 3 #[.int .i64 1] := by rw [← hWc, ← sb]; exact Blk.new _ _ _
    rw [← hW5]; exact this.alloc _
  have A4 : Blk W5 (k1 + 1 + 1 + 1) 55 #[.int .i64 0, .slice (some ⟨k1, 0, none⟩) 1 1, .slice (some ⟨k1 + 1, 0, none⟩) 1 1, .slice (some ⟨k1 + 1 + 1, 0, none⟩) 1 1, .slice none 0 0] := by
    rw [← hW5, ← sc]; exact Blk.new _ _ _
  obtain ⟨vn, hvn⟩ : ∃ v, v = Value.agg #[.int .i64 0, .slice (some ⟨k1, 0, none⟩) 1 1, .slice (some ⟨k1 + 1, 0, none⟩) 1 1, .slice (some ⟨k1 + 1 + 1, 0, none⟩) 1 1, .slice none 0 0] := ⟨_, rfl⟩
  have ND : NdAt W5 W5.heap.size vn awN := by rw [hvn]; exact awN_at A1 A2 A3
  have h5 := (H1.out.new b5 (Y := fun b => k1 ≤ b ∧ b < k1 + 4) (fun b hb => by rw [hk1, s5]; exact ⟨hb.1, by have := hb.2; omega⟩)).mono (K' := fun b => k1 ≤ b ∧ b < k1 + 4) fun b hb => .inr hb
  have N1 := Lib.hid (node_any ND awN_few)
  have x0 := A4.cell 0
  have x1 := A4.cell 1
  have x2 := A4.cell 2
  have x3 := A4.cell 3
  have x4 := A4.cell 4
  simp only [List.getElem?_toArray, List.getElem?_cons_zero, List.getElem?_cons_succ] at x0 x1 x2 x3 x4
  have H5 := Lib.hid h5
  have HND := Lib.hid (And.intro A1 (And.intro A2 (And.intro A3 A4)))
  rw [hvn] at N1
  clear ba bb bc b5 A1 A2 A3 A4 ND h5 sa sb sc s5 hWa hWb hWc hW5 hk1
  go_wp2_with fail
  refine N1.out.mono ?_
  rintro e w6 ⟨v6, rfl, nd6, b6⟩
  obtain ⟨h6, f6⟩ := H5.out.step b6
  have hpre := pre_new (n := 64) (by omega) (by omega) 3
  obtain ⟨t1, t2, t3, t4⟩ := hpre.fits (n := 1) (by omega) (by omega)
  have SV := ssave_any h6 nd6 awN_ok (gn := 3) rfl (by omega) (by rw [awN_enc]; decide) (by rw [awN_enc]; decide) (n := 1) (a := 2) aw_frame (by omega) (by omega) (small_new 64 1 (by omega) (by omega)) (by rw [t1]; exact t2) (fun _ => by rw [t1]; dsimp only; rw [t3]; exact t4) (by rw [t1]; show 2 ≤ 100000; omega) (by show ((newV 64 3).write awF 1).1 = _; rw [aw_write])
  rw [show frameB 78 3 (Nd.enc awN) = awF from rfl, aw_write, ← HS.out.1, show ((2 : Nat) : Int) = 2 from rfl, show ((1 : Nat) : Int) = 1 from rfl, show ((3 : Nat) : Int) = 3 from rfl] at SV
  have SV1 := Lib.hid SV
  have F6 := Lib.hid f6
  clear h6 f6 hpre t1 t2 t3 t4 SV nd6 b6 N1 x0 x1 x2 x3 x4
  go_wp2_with fail
  refine SV1.out.mono ?_
  rintro e w7 ⟨rfl, h7, f7⟩
  have H7 := Lib.hid h7
  have F7 := Lib.hid (F6.out.trans f7)
  obtain ⟨kb, hkb⟩ : ∃ k, w7.heap.size = k := ⟨_, rfl⟩
  obtain ⟨W8, hW8⟩ : ∃ W, w7.alloc (.cells #[.int .i64 2, .int .i64 1, .int .i64 3] 57) = W := ⟨_, rfl⟩
  have b8 : Below w7.heap.size w7 W8 := by rw [← hW8]; exact (Below.refl _ _).alloc (Nat.le_refl _) _
  have KB : Blk W8 kb 57 #[.int .i64 2, .int .i64 1, .int .i64 3] := by rw [← hW8, ← hkb]; exact Blk.new _ _ _
  have h8 := h7.new b8 (Y := fun b => b = kb) (fun b hb => by subst hb; exact ⟨Nat.le_of_eq hkb, KB.lt⟩)
  have f8 := (h7.step b8).2
  have LD := sload_any h8 (a := 2) (n := 1) (gn := 3) (d := Nd.enc awN) (by omega) (by omega) aw_blocks aw_small aw_rds.1 (by omega) (by rw [awN_enc]; decide) (by rw [awN_enc]; decide) aw_rds.2 (by rw [aw_dec]; exact awN_zero)
  rw [aw_dec, ← HS.out.1, show ((2 : Nat) : Int) = 2 from rfl, show ((1 : Nat) : Int) = 1 from rfl, show ((3 : Nat) : Int) = 3 from rfl] at LD
  dsimp only at LD
  have LD1 := Lib.hid LD
  have HKB := Lib.hid KB
  have q0 : W8.cell? ⟨kb, 0, none⟩ = some (.int .i64 2) := KB.cell 0
  have q1 : W8.cell? ⟨kb, 1, none⟩ = some (.int .i64 1) := KB.cell 1
  have q2 : W8.cell? ⟨kb, 2, none⟩ = some (.int .i64 3) := KB.cell 2
  have F8 := Lib.hid (F7.out.trans f8)
  clear h7 f7 b8 KB h8 f8 LD SV1
  go_wp2_with fail
  refine LD1.out.mono ?_
  rintro e w9 ⟨⟨v9, rfl, nd9⟩, h9, f9⟩
  have nd9' := nd9
  obtain ⟨A1, c1, A2, c2, A3, c3, A4, c4, rfl, -⟩ := nd9'
  have H9 := Lib.hid (And.intro nd9 (And.intro h9 (And.intro f9 (F8.out.trans (Far.mono f9 fun b hb => .inl hb)))))
  clear nd9 h9 f9 LD1 q0 q1 q2
  go_upto_region 7 with fail
  obtain ⟨WA, hWA⟩ : ∃ W, w9.alloc (.cells #[.int .i64 awN.h, .slice A1 awN.ks.length c1, .slice A2 awN.ps.length c2, .slice A3 awN.gs.length c3, .slice A4 awN.cs.length c4] 62) = W := ⟨_, rfl⟩
  obtain ⟨ya, hya⟩ : ∃ k, w9.heap.size = k := ⟨_, rfl⟩
  rw [hWA, hya]
  have bA : Below w9.heap.size w9 WA := by rw [← hWA]; exact (Below.refl _ _).alloc (Nat.le_refl _) _
  have YA : Blk WA ya 62 #[.int .i64 awN.h, .slice A1 awN.ks.length c1, .slice A2 awN.ps.length c2, .slice A3 awN.gs.length c3, .slice A4 awN.cs.length c4] := by rw [← hWA, ← hya]; exact Blk.new _ _ _
  obtain ⟨nd9, h9, f9, F9⟩ := H9.out
  have hA := h9.step bA
  have KBA := (f9.trans hA.2).blk (g := kb) (.inr rfl) HKB.out
  have XNA := (F9.trans (Far.mono hA.2 fun b hb => .inl hb)).blk (g := k1 + 1 + 1 + 1) ⟨by omega, by omega⟩ HND.out.2.2.2
  have X1 := (F9.trans (Far.mono hA.2 fun b hb => .inl hb)).blk (g := k1) ⟨by omega, by omega⟩ HND.out.1
  have X2 := (F9.trans (Far.mono hA.2 fun b hb => .inl hb)).blk (g := k1 + 1) ⟨by omega, by omega⟩ HND.out.2.1
  have X3 := (F9.trans (Far.mono hA.2 fun b hb => .inl hb)).blk (g := k1 + 1 + 1) ⟨by omega, by omega⟩ HND.out.2.2.1
  generalize hq1 : awN.ks.length = q1 at *
  generalize hq2 : awN.ps.length = q2 at *
  generalize hq3 : awN.gs.length = q3 at *
  generalize hq4 : awN.cs.length = q4 at *
  generalize hq0 : awN.h = q0 at *
  have KS := Lib.hid (fun (u : World) (hu : Below WA.heap.size WA u) => show (u.cell? ⟨kb, 0, none⟩ = some (.int .i64 2) ∧ u.cell? ⟨kb, 1, none⟩ = some (.int .i64 1) ∧ u.cell? ⟨kb, 2, none⟩ = some (.int .i64 3)) ∧ (u.cell? ⟨ya, 0, none⟩ = some (.int .i64 q0) ∧ u.cell? ⟨ya, 1, none⟩ = some (.slice A1 q1 c1) ∧ u.cell? ⟨ya, 2, none⟩ = some (.slice A2 q2 c2) ∧ u.cell? ⟨ya, 3, none⟩ = some (.slice A3 q3 c3) ∧ u.cell? ⟨ya, 4, none⟩ = some (.slice A4 q4 c4)) ∧ (u.cell? ⟨k1 + 1 + 1 + 1, 0, none⟩ = some (.int .i64 0) ∧ u.cell? ⟨k1 + 1 + 1 + 1, 1, none⟩ = some (.slice (some ⟨k1, 0, none⟩) 1 1) ∧ u.cell? ⟨k1 + 1 + 1 + 1, 2, none⟩ = some (.slice (some ⟨k1 + 1, 0, none⟩) 1 1) ∧ u.cell? ⟨k1 + 1 + 1 + 1, 3, none⟩ = some (.slice (some ⟨k1 + 1 + 1, 0, none⟩) 1 1) ∧ u.cell? ⟨k1 + 1 + 1 + 1, 4, none⟩ = some (.slice none 0 0)) from by
    have z1 := KBA.keep (hu.block kb KBA.lt)
    have z2 := YA.keep (hu.block ya YA.lt)
    have z3 := XNA.keep (hu.block _ XNA.lt)
    exact ⟨⟨z1.cell 0, z1.cell 1, z1.cell 2⟩, ⟨z2.cell 0, z2.cell 1, z2.cell 2, z2.cell 3, z2.cell 4⟩, ⟨z3.cell 0, z3.cell 1, z3.cell 2, z3.cell 3, z3.cell 4⟩⟩)
  have HA := Lib.hid hA.1
  have ND9 := Lib.hid (show ∀ (u : World), Below WA.heap.size WA u → NdAt u u.heap.size (.agg #[.int .i64 q0, .slice A1 q1 c1, .slice A2 q2 c2, .slice A3 q3 c3, .slice A4 q4 c4]) awN from fun u hu => (nd9.below (bA.trans (hu.mono bA.size))).more (Nat.le_trans bA.size hu.size))
  have NDX := Lib.hid (show ∀ (u : World), Below WA.heap.size WA u → NdAt u u.heap.size (.agg #[.int .i64 0, .slice (some ⟨k1, 0, none⟩) 1 1, .slice (some ⟨k1 + 1, 0, none⟩) 1 1, .slice (some ⟨k1 + 1 + 1, 0, none⟩) 1 1, .slice none 0 0]) awN from fun u hu => awN_at (X1.keep (hu.block _ X1.lt)) (X2.keep (hu.block _ X2.lt)) (X3.keep (hu.block _ X3.lt)))
  have BK := Lib.hid (fun (u : World) (hu : Below WA.heap.size WA u) => back_any (ND9.out u hu) awN_few)
  have FR := Lib.hid (fun (u : World) (hu : Below WA.heap.size WA u) => sl_freeB (HA.out.step hu).1)
  have US := Lib.hid (fun (u : World) (hu : Below WA.heap.size WA u) => sl_usesB (HA.out.step hu).1 2)
  have hfree : Rn.freeN ({ awV with st := (awV.st.rds 2 1).2.2 } : SlV).F = 61 := by decide +kernel
  have huses : Sh.uses ({ awV with st := (awV.st.rds 2 1).2.2 } : SlV).now 2 = 1 := by decide +kernel
  rw [hfree, ← HS.out.2.1] at FR
  rw [huses, ← HS.out.2.2] at US
  have BW := Lib.hid HA.out.bel
  clear bA YA nd9 h9 f9 F9 hA KBA XNA X1 X2 X3 hWA hya hq1 hq2 hq3 hq4 hq0 hfree huses
  have hbc : Below WA.heap.size WA WA.drew := (Below.refl _ _).drew
  go_region_held3 (fun u => (u.cell? ⟨kb, 0, none⟩ = some (.int .i64 2) ∧ u.cell? ⟨kb, 1, none⟩ = some (.int .i64 1) ∧ u.cell? ⟨kb, 2, none⟩ = some (.int .i64 3)) ∧ (u.cell? ⟨ya, 0, none⟩ = some (.int .i64 q0) ∧ u.cell? ⟨ya, 1, none⟩ = some (.slice A1 q1 c1) ∧ u.cell? ⟨ya, 2, none⟩ = some (.slice A2 q2 c2) ∧ u.cell? ⟨ya, 3, none⟩ = some (.slice A3 q3 c3) ∧ u.cell? ⟨ya, 4, none⟩ = some (.slice A4 q4 c4)) ∧ (u.cell? ⟨k1 + 1 + 1 + 1, 0, none⟩ = some (.int .i64 0) ∧ u.cell? ⟨k1 + 1 + 1 + 1, 1, none⟩ = some (.slice (some ⟨k1, 0, none⟩) 1 1) ∧ u.cell? ⟨k1 + 1 + 1 + 1, 2, none⟩ = some (.slice (some ⟨k1 + 1, 0, none⟩) 1 1) ∧ u.cell? ⟨k1 + 1 + 1 + 1, 3, none⟩ = some (.slice (some ⟨k1 + 1 + 1, 0, none⟩) 1 1) ∧ u.cell? ⟨k1 + 1 + 1 + 1, 4, none⟩ = some (.slice none 0 0))) (first | exact KS.out _ hbc)
    (first
      | (go_at_call 22; (refine (BK.out _ hbc).mono ?_); rintro e u1 ⟨vb, rfl, ndb, bb⟩; have hbc := hbc.trans (bb.mono hbc.size); have SM := Lib.hid (same_any ndb (NDX.out _ hbc) (by decide) awN_few); clear ndb bb)
      | (go_at_call 21; (refine SM.out.mono ?_); rintro e u2 ⟨rfl, bb⟩; have hbc := hbc.trans (bb.mono hbc.size); clear bb)
      | (go_at_call 9; (refine (FR.out _ hbc).mono ?_); rintro e u3 ⟨rfl, bb⟩; have hbc := hbc.trans (bb.mono hbc.size); clear bb)
      | (go_at_call 10; (refine (US.out _ hbc).mono ?_); rintro e u4 ⟨rfl, bb⟩; have hbc := hbc.trans (bb.mono hbc.size); clear bb))
  go_wp2_with fail
  go_ret
  exact ⟨rfl, BW.out.trans (hbc.mono BW.out.size)⟩
end Go.Proofs.Ytaainefdjbmekaa
