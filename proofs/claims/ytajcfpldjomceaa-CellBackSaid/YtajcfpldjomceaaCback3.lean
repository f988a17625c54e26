/- CellBack, walked. -/
import Derived.Test.YtajcfpldjomceaaCback2
import Derived.Test.YtajcfpldjomceaaCutS
namespace Go.Proofs.Ytajcfpldjomceaa
open Go.RowKit Vint

theorem own_chg {w w' : World} {base O : Nat} {A : Option Addr} {n c : Nat} {xs : List Value} {t : TypeId} {cs : Array Value} (h : w.ownsRow base 5 1 (.slice A n c) n xs) (hc : Chg (fun b => b = O) w w') (hO : Blk w O t cs) (ht : t ≠ 5) : w'.ownsRow base 5 1 (.slice A n c) n xs := by
  have hrow : Row w (fun _ => True) 5 1 (.slice A n c) n xs := ⟨own_zero h, fun k hk => trivial⟩
  exact own_keep h fun b hb hlt => hc.block b hlt fun e => hrow.ne_ hO (Ne.symm ht) (by rw [← e]; exact hb)
theorem byts_zero : byts [0] = [Value.int .u8 0] := rfl

set_option maxRecDepth 10000 in
set_option maxHeartbeats 4000000 in
theorem back_any (A : Option Addr) (cap : Nat) (l : List Part) (w : World) (hl : PartsAt w w.heap.size A l) (hok : ∀ x ∈ l, x.ok w w.heap.size) (cut : Nat) (hcut : cut < 65536) :
    Calls Try.prog 5 #[.slice A l.length cap, .int .u16 (cut : Int)] w fun e w' => e = .returned (.bool true) ∧ Below w.heap.size w w' := by
  have hmf : ∀ (fn : Fn) (first cap : Array Value) (w : World), (Instr.makeFunc fn first cap).run Try.prog w = .ok (.func fn first cap) w := fun _ _ _ _ => rfl
  have b0 : Below w.heap.size w (w.alloc (.cells #[.slice A l.length cap] 22)) := (Below.refl _ _).alloc (Nat.le_refl _) _
  have Ha := Lib.hid (cawake (w.alloc (.cells #[.slice A l.length cap] 22)))
  have early : ∀ (a b : Bool), decide (100 < (l.length : Int)) = a → (l.length == 0) = b → ((l.length : Int) == 0) = b → (a = true ∨ b = true) →
      Calls Try.prog 5 #[.slice A l.length cap, .int .u16 (cut : Int)] w fun e w' => e = .returned (.bool true) ∧ Below w.heap.size w w' := by
    intro a b h1 h2 h3 h
    clear hok hl
    cases a <;> cases b <;> first
      | (simp at h; done)
      | (go_enter Try.func5, Try.ntmps5
         go_wp2_with fail
         refine Ha.out.mono ?_
         rintro e w1 ⟨rfl, b1⟩
         have hp1 : Blk w1 w.heap.size 22 #[.slice A l.length cap] := (Blk.new w _ _).keep (b1.block _ (by simp))
         have cp := cell_at hp1
         have B1 := Lib.hid (b0.trans (b1.mono b0.size))
         clear b1 b0 Ha hp1
         go_wp2_with fail
         go_ret
         exact ⟨rfl, B1.out⟩)
  by_cases hbig : 100 < l.length ∨ l.length = 0
  · refine early _ _ rfl rfl ?_ ?_
    · rw [Bool.eq_iff_iff]; simp
    · rcases hbig with h | h
      · exact .inl (by simp; omega)
      · exact .inr (by simpa using h)
  clear early
  have qa : decide (100 < (l.length : Int)) = false := by simp; omega
  have qb : ((l.length : Int) == 0) = false := by rw [beq_eq_false_iff_ne]; omega
  have h100 : l.length ≤ 100 := by omega
  have hl1 : 1 ≤ l.length := by omega
  clear hbig
  go_enter Try.func5, Try.ntmps5
  go_wp2_with fail
  refine Ha.out.mono ?_
  rintro e w1 ⟨rfl, b1⟩
  have hp1 : Blk w1 w.heap.size 22 #[.slice A l.length cap] := (Blk.new w _ _).keep (b1.block _ (by simp))
  have cp := cell_at hp1
  have hb1 := b0.trans (b1.mono b0.size)
  have hz1 := hb1.size
  have B2 := Lib.hid (hb1.alloc hz1 (.cells #[.slice none 0 0] 26))
  have H2 := Lib.hid (wn_new w1 hz1)
  have Hp2 := Lib.hid (hp1.alloc (.cells #[.slice none 0 0] 26))
  clear b1 b0 Ha hp1 hb1
  go_wp2_with fail
  generalize hW : w1.alloc (.cells #[.slice none 0 0] 26) = W at *
  clear hW cp
  generalize w1.heap.size = g at *
  go_loopw [6] (fun v wr => ∃ j : Nat, j ≤ l.length ∧ v = .int .i64 j ∧ (∀ i (hi : i < l.length), i < j → l[i].b.length ≤ 500) ∧ Wn wr w.heap.size g (penc (l.take j)) ∧ Below w.heap.size w wr ∧ Blk wr w.heap.size 22 #[.slice A l.length cap]) (fun v _ => l.length - (intOf v).toNat)
  case atStart => exact ⟨0, by omega, rfl, fun _ _ h => by omega, H2.out, B2.out, Hp2.out⟩
  case round =>
    obtain ⟨j, hj, rfl, h5, hw, hb, hp⟩ := hrel
    clear H2 B2 Hp2
    have cp := cell_at hp
    by_cases hlt : j < l.length
    · obtain ⟨b, o, rfl, hbB, x0, x1, x2⟩ := part_cells (hl.below hb) hlt
      have hx := (hok l[j] (List.getElem_mem _)).below hb
      have q1 : decide (j < l.length) = true := by simpa using hlt
      by_cases hbig : 500 < l[j].b.length
      · have q3 : decide (500 < (l[j].b.length : Int)) = true := by simp; omega
        have HB := Lib.hid hb
        clear hw hb hp h5 hx
        go_wp2_with fail
        go_ret
        exact ⟨rfl, HB.out⟩
      have q3 : decide (500 < (l[j].b.length : Int)) = false := by simp; omega
      have hE : (penc (l.take j)).length ≤ 504 * j := by
        have := (penc_len (l := l.take j) fun q hq => by
          obtain ⟨i, hi, rfl⟩ := List.mem_iff_getElem.1 hq
          rw [List.length_take] at hi
          rw [List.getElem_take]
          exact h5 i (by omega) (by omega)).2
        rw [List.length_take] at this
        omega
      have h5' : ∀ i (hi : i < l.length), i < j + 1 → l[i].b.length ≤ 500 := fun i hi hij => by
        by_cases e : i = j
        · subst e; omega
        · exact h5 i hi (by omega)
      have Ht := Lib.hid (penc_take hlt)
      have H5 := Lib.hid h5'
      have HB := Lib.hid hb
      have HP := Lib.hid hp
      by_cases hd : l[j].d = 2
      · have q2 : (l[j].d == 2) = true := by simpa using hd
        have N := Lib.hid (wn_bytes hw (by omega) hx.sl hb.size (fun hne i o e => .inl (by
          rcases hx.sl with h | ⟨b', o', e', hlt', _⟩
          · exact absurd h hne
          · rw [e'] at e; injection e with e; injection e with e _; omega)) hx.len hx.nil (by omega))
        have Hpe : Hid (pe l[j] = vint l[j].b.length ++ l[j].b) := Lib.hid (by unfold pe; rw [if_pos hd])
        generalize l[j] = x at *
        clear hw hb hp h5 h5' hd hx hok hl
        generalize x.d = d at *
        go_wp2_with fail
        refine N.out.mono ?_
        rintro e w2 ⟨rfl, h2, o2⟩
        have H2 := Lib.hid h2
        have B2 := Lib.hid (HB.out.trans (o2.below HB.out.size))
        have Hp2 := Lib.hid (o2.kind _ _ _ HP.out (by decide) (by decide))
        clear h2 o2 N x0 x1 x2 cp
        go_wp2_with fail
        go_roundw
        case rel => exact ⟨j + 1, by omega, by go_num, H5.out, by rw [Ht.out, Hpe.out, ← List.append_assoc]; exact H2.out, B2.out, Hp2.out⟩
        case measure => simp [intOf]; omega
      · have q2 : (l[j].d == 2) = false := by simpa using hd
        have ha := and_i64 _ hx.wn
        have N := Lib.hid (wn_num hw (m28 l[j].n) (m28_lt _) (by omega))
        have Hpe : Hid (pe l[j] = vint (m28 l[j].n)) := Lib.hid (by unfold pe; rw [if_neg hd])
        generalize m28 l[j].n = m at *
        generalize l[j] = x at *
        clear hw hb hp h5 h5' hd hx hok hl
        generalize x.n = n at *
        generalize x.d = d at *
        go_wp2_with fail
        refine N.out.mono ?_
        rintro e w2 ⟨rfl, h2, o2⟩
        have H2 := Lib.hid h2
        have B2 := Lib.hid (HB.out.trans (o2.below HB.out.size))
        have Hp2 := Lib.hid (o2.kind _ _ _ HP.out (by decide) (by decide))
        clear h2 o2 N x0 x1 x2 cp
        go_wp2_with fail
        go_roundw
        case rel => exact ⟨j + 1, by omega, by go_num, H5.out, by rw [Ht.out, Hpe.out]; exact H2.out, B2.out, Hp2.out⟩
        case measure => simp [intOf]; omega
    · have hjl : j = l.length := by omega
      subst hjl
      have q1 : decide (l.length < l.length) = false := by simp
      rw [List.take_length] at hw
      have h5' : ∀ x ∈ l, x.b.length ≤ 500 := fun x hx => by
        obtain ⟨i, hi, rfl⟩ := List.mem_iff_getElem.1 hx
        exact h5 i hi hi
      obtain ⟨hE1, hE2⟩ := penc_len h5'
      have HB := Lib.hid hb
      have HP := Lib.hid hp
      have N := Lib.hid (wn_out hw (by omega))
      clear hw hb hp h5 hj hlt
      go_wp2_with fail
      refine N.out.mono ?_
      rintro e w2 ⟨A2, c2, rfl, hown, b2⟩
      have hE0 : 0 < (penc l).length := by omega
      have hOb : Blk (w2.alloc (.cells #[.bool true] 4)) w2.heap.size 4 #[.bool true] := Blk.new _ _ _
      have hP2 := (HP.out.keep (b2.block _ HP.out.lt)).alloc (.cells #[.bool true] 4)
      have hown2 := own_keep (w' := w2.alloc (.cells #[.bool true] 4)) hown fun b hb hlt => Below.heap_alloc _ _ _ hlt
      have hb2 := HB.out.trans (b2.mono HB.out.size)
      have hz2 := hb2.size
      have hPO : w.heap.size < w2.heap.size := by have := HP.out.lt; have := b2.size; omega
      have hb3 := hb2.alloc hz2 (.cells #[.bool true] 4)
      have hl3 := hl.below hb3
      have hok3 := fun x hx => (hok x hx).below hb3
      have R1 := Lib.hid (back_full0 h5' h100 hP2 hOb hl3 hok3 hPO (Sl.of_own hown2) (Nat.le_refl _) (own_len hown) (own_none hown))
      have HO2 := Lib.hid hown2
      have HOb := Lib.hid hOb
      have HP2 := Lib.hid hP2
      have HB3 := Lib.hid hb3
      have H5 := Lib.hid h5'
      have Hok := Lib.hid hok
      have Hl := Lib.hid hl
      clear hown hown2 hOb hP2 hb2 hb3 b2 hl3 hok3 h5' N HB HP hok hl
      go_wp2_with fail
      generalize hW2 : w2.alloc (.cells #[.bool true] 4) = W2 at *
      clear hW2
      generalize w2.heap.size = O at *
      refine R1.out.mono ?_
      rintro e w3 ⟨rfl, hO3, hc3⟩
      have hP3 := HP2.out.keep (hc3.block _ HP2.out.lt (by omega))
      have hown3 := own_chg HO2.out hc3 HOb.out (by decide)
      have hb3 := HB3.out.trans (hc3.below HB3.out.size fun b hb => by omega)
      have hk : cut % (penc l).length < (penc l).length := Nat.mod_lt _ hE0
      have hrem : (cut : Int) % ((penc l).length : Int) = ((cut % (penc l).length : Nat) : Int) := by omega
      obtain ⟨i0, hi0, hz0, hs0, hb0⟩ := byte_parts (P := Try.prog) (e := 5) (by kernel_rfl)
      have hn2 := own_len hown3
      have hcutrun := run_slice_to (P := Try.prog) Try.underlying24 hi0 A2 (penc l).length c2 (cut % (penc l).length) (by omega)
      have R2 := Lib.hid (back_cut _ hk H5.out h100 hP3 hO3 (Hl.out.below hb3) (fun x hx => (Hok.out x hx).below hb3) hPO (by rw [← byts_take]; exact (Sl.of_own hown3).to _) (Nat.le_refl _) (by omega) (own_none hown3))
      have cO := cell_at hO3
      have HO3 := Lib.hid hown3
      have HOb3 := Lib.hid hO3
      have HP3 := Lib.hid hP3
      have HB3' := Lib.hid hb3
      generalize hkk : cut % (penc l).length = k at *
      clear hkk hown3 hO3 hP3 hb3 hc3 R1 HO2 HOb HP2 HB3
      generalize hnn : (penc l).length = n at *
      have Hnn := Lib.hid hnn
      clear hnn
      go_wp2_with fail
      refine R2.out.mono ?_
      rintro e w4 ⟨rfl, hO4, hc4⟩
      have hown4 := own_chg HO3.out hc4 HOb3.out (by decide)
      have hP4 := HP3.out.keep (hc4.block _ HP3.out.lt (by omega))
      have hb4 := HB3'.out.trans (hc4.below HB3'.out.size fun b hb => by omega)
      have hae : Below w4.heap.size w4 (w4.alloc (.cells #[] 5)) := (Below.refl _ _).alloc (Nat.le_refl _) _
      have hsl4 : Sl (w4.alloc (.cells #[] 5)) w4.heap.size A2 (byts (penc l)) := (Sl.of_own hown4).below hae
      have HE := Lib.hid (own_empty (e := 5) (size := 1) w4)
      have HSl4 := Lib.hid hsl4
      have Hae := Lib.hid hae
      have HOb4 := Lib.hid hO4
      have HP4 := Lib.hid hP4
      have HB4 := Lib.hid hb4
      have hA2n := own_none hown4
      have hbl : (byts (penc l)).length = n := by rw [byts_length, Hnn.out]
      have Hbl := Lib.hid hbl
      clear hbl hown4 hP4 hb4 hae hsl4 hO4 hc4 R2 HO3 HOb3 HP3 HB3' hcutrun
      go_wp2_with (at_builtin; first
        | (refine wpList_append_sl (base := w4.heap.size) _ rfl (.tmp 71) (.tmp 72) _ rfl Try.underlying24 hi0 hz0 hs0 hb0 rfl rfl HE.out rfl Hbl.out.symm hA2n HSl4.out (byts_one _) (by rw [Hbl.out]; exact hn2) (by rw [Hbl.out]; unfold maxLen; omega) (by rw [Hbl.out]; omega) Hae.out.size ?_; intro v5 w5 hown5 hgr5 hbl5; rw [Hbl.out, Nat.zero_add, List.nil_append] at hown5; obtain ⟨A5, c5, rfl⟩ := own_slice hown5; have b5 := Lib.hid (Hae.out.grown hgr5 Hae.out.size (fun g hg => by injection hg with hg; subst hg; exact Nat.le_refl _)); have Ho5 := Lib.hid (own_keep (w' := w5.alloc (.cells #[.int .u8 0] 5)) hown5 fun b hb hlt => Below.heap_alloc _ _ _ hlt); have b5a := Lib.hid (b5.out.alloc b5.out.size (.cells #[.int .u8 0] 5)); have Hs5 := Lib.hid (sl_cells (w := w5) (cs := #[.int .u8 0]) (l := [0]) rfl); clear hown5 hgr5 hbl5)
        | (refine wpList_append_sl (base := w4.heap.size) _ rfl (.tmp 73) (.tmp 74) _ rfl Try.underlying24 hi0 hz0 hs0 hb0 rfl (v := .slice A5 n c5) rfl Ho5.out rfl (byts_length [0]).symm (by simp) Hs5.out (byts_one _) (by rw [byts_length]; exact Nat.le_refl _) (by rw [byts_length]; unfold maxLen; simp; omega) (by rw [byts_length]; simp; omega) b5a.out.size ?_; intro v6 w6 hown6 hgr6 hbl6; have b6 := Lib.hid (b5a.out.grown hgr6 b5a.out.size (fun g hg => (Ho5.out.lt g hg).1)); rw [byts_join, byts_length] at hown6; obtain ⟨A6, c6, rfl⟩ := own_slice hown6; have Ho6 := Lib.hid hown6; have hc6 := own_len hown6; have hA6 := own_none hown6; clear hown6 hgr6 hbl6))
      have hbl4 : (penc l ++ [0]).length = n + [0].length := by rw [List.length_append, Hnn.out]
      have hp6 := HP4.out.keep (b6.out.block _ HP4.out.lt)
      have ho6 := HOb4.out.keep (b6.out.block _ HOb4.out.lt)
      have hb6 := HB4.out.trans (b6.out.mono HB4.out.size)
      have r3 := back_full (A1 := A6) (c1 := c6) [0] (by simp) (by simp) H5.out h100 hp6 ho6 (Hl.out.below hb6) (fun x hx => (Hok.out x hx).below hb6) hPO (Sl.of_own Ho6.out) (Nat.le_refl _) (by rw [hbl4]; exact hc6) hA6 true 3 rfl rfl
      rw [hbl4] at r3
      have R3 := Lib.hid r3
      have HO6 := Lib.hid ho6
      have HB6 := Lib.hid hb6
      clear hbl4 hp6 ho6 hb6 r3
      refine R3.out.mono ?_
      rintro e w7 ⟨rfl, hO7, hc7⟩
      have HB7 := Lib.hid (HB6.out.trans (hc7.below HB6.out.size fun b hb => by omega))
      clear hO7 hc7
      go_wp2_with fail
      go_ret
      exact ⟨rfl, HB7.out⟩
end Go.Proofs.Ytajcfpldjomceaa
