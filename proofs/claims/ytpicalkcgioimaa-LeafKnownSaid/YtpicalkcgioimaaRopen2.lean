/- The document's Open, walked. -/
import Derived.Test.YtpicalkcgioimaaRopen
namespace Go.Proofs.Ytpicalkcgioimaa
open Go.RowKit Crc

set_option maxRecDepth 4000 in
set_option maxHeartbeats 4000000 in
theorem ropen_good (A : Option Addr) (cap : Nat) (l : List Nat) (kind : Nat) (hl : ∀ x ∈ l, x < 256) (hlen : l.length ≤ 1000000000) (hcap : l.length ≤ cap) (hA : A = none → cap = 0) {w : World} {B : Nat} (hsl : Sl w B A (byts l)) (hB : B ≤ w.heap.size) (h : sizeE l = 0) :
    Calls Try.prog 16 #[.slice A l.length cap, .int .u8 (kind : Int)] w (OpenR l kind w) := by
  have h16 : 16 ≤ l.length ∧ ¬ badHead l := by
    rcases sizeE_cases l with h' | ⟨_, h1, h2⟩
    · exact absurd h h'
    · exact ⟨h1, h2⟩
  obtain ⟨h16, hbh⟩ := h16
  have hm : g4 l 8 ≤ 4096 := by
    unfold badHead at hbh
    omega
  have N := rsize_any A cap l hl hlen hsl
  unfold SizeR at N
  rw [sizeV_good h, blk_nat hm] at N
  have hE : openE l kind = if (g4 l 8 + 79) / 64 * 64 < l.length then 3 else if l.length < (g4 l 8 + 79) / 64 * 64 then 2 else if (g4 l 12 != sumB l || tailBad l l.length) = true then 5 else if l.getD 2 0 ≠ kind then 4 else 0 := by
    unfold openE
    rw [if_neg (by omega), blk_nat hm]
  have N' := Lib.hid N
  have hsw : ∀ w', Below w.heap.size w w' → Sl w' w'.heap.size A (byts l) := fun w' hb => (hsl.below (hb.mono hB)).more (by have := hb.size; omega)
  have Sw := Lib.hid hsw
  clear N h hbh hsl hsw
  obtain ⟨T, hT⟩ : ∃ T, T = (g4 l 8 + 79) / 64 := ⟨_, rfl⟩
  rw [← hT] at hE N'
  have HT := Lib.hid hT
  have HE := Lib.hid hE
  have hTb : T ≤ 65 := by omega
  clear hT hE
  by_cases h1 : T * 64 < l.length
  · have q1 : decide (T * 64 < l.length) = true := by simpa using h1
    have q1' : decide ((T : Int) * 64 < (l.length : Int)) = true := by simp; omega
    have e : openE l kind = 3 := by rw [HE.out, if_pos h1]
    unfold OpenR
    rw [e]
    clear e HE HT h1 hl hA Sw
    generalize l.length = n at *
    go_enter Try.func16, Try.ntmps16
    go_wp2_with fail
    refine N'.out.mono ?_
    rintro e w1 ⟨rfl, n1, rfl⟩
    go_wp2_with fail
    go_returns
    exact ⟨drewN_below n1, .inl ⟨by decide, rfl⟩⟩
  have q1 : decide (T * 64 < l.length) = false := by simpa using h1
  have q1' : decide ((T : Int) * 64 < (l.length : Int)) = false := by simp; omega
  by_cases h2 : l.length < T * 64
  · have q2 : decide (l.length < T * 64) = true := by simpa using h2
    have q2' : decide ((l.length : Int) < (T : Int) * 64) = true := by simp; omega
    have e : openE l kind = 2 := by rw [HE.out, if_neg h1, if_pos h2]
    unfold OpenR
    rw [e]
    clear e HE HT h1 h2 hl hA Sw
    generalize l.length = n at *
    go_enter Try.func16, Try.ntmps16
    go_wp2_with fail
    refine N'.out.mono ?_
    rintro e w1 ⟨rfl, n1, rfl⟩
    go_wp2_with fail
    go_returns
    exact ⟨drewN_below n1, .inl ⟨by decide, rfl⟩⟩
  have q2 : decide (l.length < T * 64) = false := by simpa using h2
  have q2' : decide ((l.length : Int) < (T : Int) * 64) = false := by simp; omega
  have hE2 : openE l kind = if (g4 l 12 != sumB l || tailBad l l.length) = true then 5 else if l.getD 2 0 ≠ kind then 4 else 0 := by rw [HE.out, if_neg h1, if_neg h2]
  have hmn : 16 + g4 l 8 ≤ l.length := by have := HT.out; omega
  have HE2 := Lib.hid hE2
  clear hE2 HE HT h1 h2
  obtain ⟨i0, hi0, hz0, hs0, hb0⟩ := byte_parts (P := Try.prog) (e := 5) (by kernel_rfl)
  have hcut : ∀ w, (Instr.slice 22 (.slice A l.length cap) (some (.int .i64 16)) (some (.int .i64 (16 + ((g4 l 8 : Nat) : Int)))) none).run Try.prog w = .ok (.slice (cutA A cap 16) (g4 l 8) (cap - 16)) w := fun w => by
    have := run_slice_mid (P := Try.prog) Try.underlying22 hi0 hs0 A l.length cap 16 (16 + g4 l 8) (by omega) (by omega) w
    rw [show 16 + g4 l 8 - 16 = g4 l 8 by omega, Int.natCast_add] at this
    exact this
  have hcut2 : ∀ w, (Instr.slice 22 (.slice A l.length cap) none (some (.int .i64 12)) none).run Try.prog w = .ok (.slice A 12 cap) w := fun w =>
    run_slice_to (P := Try.prog) Try.underlying22 hi0 A l.length cap 12 (by omega) w
  have G := Lib.hid (fun W hW k z hz hk n => q_get (W := W) (A := A) (cap := cap) hl hlen (Sw.out W hW) k z hz hk n)
  have S1 := Lib.hid (fun W hW n => q_sum (W := W) (A := A) (cap := cap) hl (Sw.out W hW) (by omega) n)
  have S2 := Lib.hid (fun W hW n => q_more (W := W) (A := A) (cap := cap) hl (Sw.out W hW) hcap hmn n)
  have hg8 := g4_lt hl 8
  have hg12 := g4_lt hl 12
  have hsb := sumB_lt l
  have hs12 : sum (l.take 12) < 4294967296 := more_lt (by decide) _
  obtain ⟨β, pβ⟩ : ∃ β, (((g4 l 12 : Nat) : Int) != ((sumB l : Nat) : Int)) = β := ⟨_, rfl⟩
  have Hβ : Hid ((g4 l 12 != sumB l) = β) := Lib.hid (by rw [← pβ, Bool.eq_iff_iff, bne_iff_ne, bne_iff_ne]; omega)
  go_enter Try.func16, Try.ntmps16
  go_wp2_with fail
  refine N'.out.mono ?_
  rintro e w1 ⟨rfl, n1, rfl⟩
  go_wp2_with fail
  refine (G.out w (Below.refl _ _) 8 8 rfl (by omega) n1).mono ?_
  rintro e w2 ⟨rfl, n2, rfl⟩
  have G2 := Lib.hid (G.out _ (drewN_below n2) 12 12 rfl (by omega))
  have S12 := Lib.hid (S1.out _ (drewN_below n2))
  have S22 := Lib.hid (S2.out _ (drewN_below n2))
  have B2 := Lib.hid (drewN_below (w := w) n2)
  generalize w.drewN n2 = W2 at *
  go_wp2_with fail
  go_quiet ((first
    | (go_at_call 28; exact G2.out _)
    | (go_at_call 23; exact S12.out _)
    | (go_at_call 22; exact S22.out _)))
  go_wp2_with fail
  have B3 := Lib.hid (B2.out.trans ((drewN_below (w := W2) nq).mono B2.out.size))
  clear G2 S12 S22 B2 S1 S2 hcut2 pβ hg8 hg12 hsb hs12
  generalize W2.drewN nq = W3 at *
  have HT0 := Lib.hid (tail_none (l := l))
  have HN := Lib.hid (fun i h hm => tail_next (l := l) (i := i) h hm)
  have Hcell := Lib.hid (fun k (hk : k < l.length) => sl_cell (Sw.out W3 B3.out) hk)
  generalize htl : tailBad l = tb at *
  go_loop [10, 11] (fun v i => ∃ k : Nat, 16 + g4 l 8 ≤ k ∧ k ≤ l.length ∧ i = .int .i64 k ∧ v = .bool (β || tb k)) (fun _ i => l.length - (intOf i).toNat)
  case atStart => exact ⟨16 + g4 l 8, Nat.le_refl _, hmn, by go_num, by rw [HT0.out, Bool.or_false]⟩
  case round =>
    obtain ⟨k, hk1, hk2, rfl, rfl⟩ := hrel
    by_cases hlt : k < l.length
    · have q3 : decide (k < l.length) = true := by simpa using hlt
      have hn := HN.out k hlt hk1
      obtain ⟨b, o, rfl, cx⟩ := Hcell.out k hlt
      have hx := getB_lt hl k
      generalize l.getD k 0 = x at *
      have Hn : Hid ((β || tb (k + 1)) = ((β || tb k) || (x != 0))) := Lib.hid (by rw [hn, Bool.or_assoc])
      obtain ⟨c, pc⟩ : ∃ c, ((x : Int) != 0) = c := ⟨_, rfl⟩
      have Hc : Hid ((x != 0) = c) := Lib.hid (by rw [← pc, Bool.eq_iff_iff, bne_iff_ne, bne_iff_ne]; omega)
      clear hn HN Hcell HT0 Sw G hl
      generalize (β || tb k) = γ at *
      cases γ
      · go_wp2_with fail
        exact ⟨⟨k + 1, by omega, by omega, by go_num, by rw [Hn.out, Hc.out, Bool.false_or]⟩, by simp [intOf]; omega⟩
      · go_wp2_with fail
        exact ⟨⟨k + 1, by omega, by omega, by go_num, by rw [Hn.out, Bool.true_or]⟩, by simp [intOf]; omega⟩
    · have hkl : k = l.length := by omega
      subst hkl
      have q3 : decide (l.length < l.length) = false := by simp
      have he : openE l kind = if (β || tb l.length) = true then 5 else if l.getD 2 0 ≠ kind then 4 else 0 := by rw [HE2.out, Hβ.out]
      have HE3 := Lib.hid he
      obtain ⟨b, o, rfl, cx⟩ := Hcell.out 2 (by omega)
      clear HE2 HN Hcell HT0 he
      generalize (β || tb l.length) = γ at *
      cases γ
      · have hx := getB_lt hl 2
        generalize l.getD 2 0 = x at *
        by_cases hkk : x = kind
        · have p1 : ((x : Int) != (kind : Int)) = false := by simp; omega
          have p2 : (x != kind) = false := by simp; omega
          have e0 : openE l kind = 0 := by rw [HE3.out, if_neg (by decide), if_neg (by omega)]
          have HE4 := Lib.hid e0
          clear HE3 e0 hkk
          go_wp2_with fail
          have hdl := dataB_len hmn
          have gg : ∀ W, Below W3.heap.size W3 W → Calls Try.prog 28 #[.slice (some ⟨b, o, none⟩) l.length cap, .int .i64 4] W fun e w' => e = .returned (.int .i64 ((g4 l 4 : Nat) : Int)) ∧ Below W3.heap.size W3 w' := fun W hb => by
            have := G.out W (B3.out.trans (hb.mono B3.out.size)) 4 4 rfl (by omega) 0
            rw [drewN_zero] at this
            refine this.mono ?_
            rintro e w' ⟨rfl, n', rfl⟩
            exact ⟨rfl, hb.trans ((drewN_below n').mono hb.size)⟩
          have ss : ∀ W, Below W3.heap.size W3 W → Sl W W.heap.size (cutA (some ⟨b, o, none⟩) cap 16) (byts (dataB l)) := fun W hb => by
            unfold dataB
            rw [← byts_take, ← byts_drop]
            exact ((Sw.out W (B3.out.trans (hb.mono B3.out.size))).from (by rw [byts_length]; exact hcap)).to _
          have hcA : cutA (some ⟨b, o, none⟩) cap 16 = none → cap - 16 = 0 := by
            unfold cutA
            by_cases hck : cap = 16
            · omega
            · rw [if_neg hck]; intro hh; cases hh
          have hbl : (byts (dataB l)).length = g4 l 8 := by rw [byts_length, hdl]
          have GG := Lib.hid gg
          have SS := Lib.hid ss
          have Hbl := Lib.hid hbl
          have hbd : Below W3.heap.size W3 W3.drew := (Below.refl _ _).drew
          have hg4 := g4_lt hl 4
          clear gg ss hbl hdl G Sw cx hl N' hA
          generalize hD : dataB l = D at *
          have HD := Lib.hid hD
          clear hD
          generalize l.length = n at *
          generalize (some ⟨b, o, none⟩ : Option Addr) = A0 at *
          obtain ⟨T2, hT2⟩ : ∃ T2 : Nat, T2 = 16 + g4 l 8 := ⟨_, rfl⟩
          have hsum : (16 : Int) + ((g4 l 8 : Nat) : Int) = (T2 : Int) := by omega
          rw [hsum] at hcut
          have hT2b : T2 ≤ 5000 := by omega
          have hwr : IntKind.i64.wrap (T2 : Int) = (T2 : Int) := IntWalk.i64_in _ (by omega)
          have hwr2 : IntKind.i64.wrap ((16 : Int) + ((g4 l 8 : Nat) : Int)) = (T2 : Int) := by rw [hsum]; exact hwr
          clear hT2 hmn htl Hβ
          generalize hmm : g4 l 8 = m at *
          have Hmm := Lib.hid hmm
          clear hmm
          go_wp2_with fail
          go_region_held_law (fun w' => Below W3.heap.size W3 w') (exact hbd) (first
            | (go_at_call 28; go_must (((with_reducible refine (GG.out _ hbd).mono ?_); rintro e w4 ⟨rfl, hbd⟩)))
            | (refine step_append_sl (base := W3.heap.size) _ rfl (.const (.slice none 0 0)) (.tmp 71) _ rfl Try.underlying22 hi0 hz0 hs0 hb0 rfl (v := .slice none 0 0) rfl (World.ownsRow_nil _ _ _ _) rfl Hbl.out.symm hcA (SS.out _ hbd) (byts_one _) (by rw [Hbl.out]; omega) (by rw [Hbl.out]; unfold maxLen; omega) (by rw [Hbl.out]; omega) hbd.size ?_; intro v5 w5 hown5 hgr5 _; rw [Hbl.out, Nat.zero_add, List.nil_append] at hown5; obtain ⟨A5, c5, rfl⟩ := own_slice hown5; have Ho5 := Lib.hid hown5; have hbd : Below W3.heap.size W3 w5 := hbd.grown hgr5 hbd.size (fun k hk => by cases hk); clear hown5 hgr5))
          all_goals
            simp only [List.getElem_toArray, List.getElem_cons_succ, List.getElem_cons_zero]
            go_wp2_with fail
            go_returns
            exact ⟨B3.out.trans (hbd.mono B3.out.size), .inr ⟨HE4.out, A5, c5, by rw [Hmm.out]; rfl, by rw [Hmm.out, HD.out]; exact World.ownsRow_base Ho5.out B3.out.size⟩⟩
        · have p1 : ((x : Int) != (kind : Int)) = true := by simp; omega
          have p2 : (x != kind) = true := by simp; omega
          have e0 : openE l kind = 4 := by rw [HE3.out, if_neg (by decide), if_pos hkk]
          have HE4 := Lib.hid e0
          clear HE3 e0 hkk
          go_wp2_with fail
          go_returns
          exact ⟨B3.out, .inl ⟨fun h => absurd (HE4.out.symm.trans h) (by decide), by rw [HE4.out]; rfl⟩⟩
      · have e0 : openE l kind = 5 := by rw [HE3.out, if_pos rfl]
        have HE4 := Lib.hid e0
        clear HE3 e0
        go_wp2_with fail
        go_returns
        exact ⟨B3.out, .inl ⟨fun h => absurd (HE4.out.symm.trans h) (by decide), by rw [HE4.out]; rfl⟩⟩
end Go.Proofs.Ytpicalkcgioimaa
