/- The program's Pack. The program's words: all that the statements ask of it (wunpack_is, wpack_is, words_ok). -/
import Derived.Test.YtnkgcibdibgmjaaWcwd
import Derived.Test.YtnkgcibdibgmjaaWrun
import Derived.Test.YtnkgcibdibgmjaaWc
import Derived.Test.YtnkgcibdibgmjaaDall
import Derived.Deep.RegionHeldLaw
import Derived.Test.YtnkgcibdibgmjaaWok
import Derived.Test.YtnkgcibdibgmjaaWun
namespace Go.Proofs.Ytnkgcibdibgmjaa
open Go.RowKit

namespace Wd
theorem take_next {l : List Nat} {i : Nat} (h : i < l.length) : l.take (i + 1) = l.take i ++ [l.getD i 0] := by
  rw [List.take_add_one, List.getElem?_eq_getElem h, List.getD_eq_getElem?_getD, List.getElem?_eq_getElem h]; rfl
theorem cntB_none : cntB [] = List.replicate 256 0 := by
  apply list_ext (cntB_len _) List.length_replicate
  intro j hj
  rw [cntB_at _ hj, List.getD_eq_getElem?_getD, List.getElem?_replicate, if_pos hj]; rfl
theorem cntB_next {l : List Nat} {i x : Nat} (h : i < l.length) (hx : l.getD i 0 = x) : (cntB (l.take i)).set x (((l.take i).count x + 1 : Nat) : Int) = cntB (l.take (i + 1)) := by
  rw [take_next h, hx]
  unfold cntB
  refine rng_set _ _ _ (fun y _ hy => ?_) ?_
  · rw [List.count_append, List.count_singleton, if_neg (by simpa using Ne.symm hy)]; rfl
  · rw [List.count_append, List.count_singleton_self]
/-- The bits of the first i bytes. -/
def bitsF (L : List Int) (l : List Nat) (i : Nat) : List Nat := (l.take i).flatMap (wordOf L)
theorem bitsF_next {L : List Int} {l : List Nat} {i x : Nat} (h : i < l.length) (hx : l.getD i 0 = x) : bitsF L l (i + 1) = bitsF L l i ++ wordOf L x := by
  unfold bitsF
  rw [take_next h, hx, List.flatMap_append]; simp
end Wd

/-- Between two bytes of the second loop. -/
structure Pkl (W9 wr : World) (K : Nat) (T : List Nat) (L : List Int) (l : List Nat) (i : Nat) : Prop where
  snk : ∃ A n c, Snk wr W9.heap.size K T (Wd.bitsF L l i) ((Wd.bitsF L l i).foldl Wd.push ([], [])) A n c
  bel : Below W9.heap.size W9 wr
theorem Snk.drew {w : World} {B K : Nat} {T bs : List Nat} {s : List Nat × List Nat} {A : Option Addr} {n c : Nat} (h : Snk w B K T bs s A n c) : Snk w.drew B K T bs s A n c :=
  ⟨h.gB, h.blk.keep rfl, own_keep h.own fun _ _ _ => rfl, h.pk⟩

set_option maxRecDepth 8000 in
set_option maxHeartbeats 8000000 in
theorem wpack_is : WPackC (Wd.thePack theF) := by
  intro w A c l N0 hby hlen hN0
  have Hby := Lib.hid hby
  by_cases h4 : 4096 < l.length
  · have hP : Wd.thePack theF l = [] := by unfold Wd.thePack; rw [if_pos h4]
    rw [hP]
    have q0 : decide ((4096 : Int) < (N0 : Int)) = true := by rw [decide_eq_true_eq]; omega
    have q0' : decide (4096 < N0) = true := by rw [decide_eq_true_eq]; omega
    clear hP hby hlen hN0 h4
    go_enter Try.func11, Try.ntmps11
    go_wp2_with fail
    go_ret
    exact ⟨none, 0, rfl, By.none _, Below.refl _ _⟩
  have q0 : decide ((4096 : Int) < (N0 : Int)) = false := by rw [decide_eq_false_iff_not]; omega
  have q0' : decide (4096 < N0) = false := by rw [decide_eq_false_iff_not]; omega
  obtain ⟨t, N, ht, hN, hagg, hix, hund, hsz, hz0⟩ := t256
  obtain ⟨Z, hZ⟩ : ∃ Z, Z = ints (List.replicate 256 0) := ⟨_, rfl⟩
  rw [← hZ] at hz0
  have HZs := Lib.hid (show Z.size = N by rw [hZ, ints_size, List.length_replicate, hN])
  have HN := Lib.hid hN
  have Hix := Lib.hid hix
  have Hl4 := Lib.hid (show l.length ≤ 4096 by omega)
  have Hlt := Lib.hid hby.lt
  have HN0 := Lib.hid hN0
  obtain ⟨L, hL⟩ : ∃ L, L = (theF (Wd.cntB l)).1 := ⟨_, rfl⟩
  obtain ⟨k1, k2, k3, k4⟩ := Wd.lens_code lens_ok (Wd.cntB_len l) (Wd.cntB_good (b := l) (by omega))
  rw [← hL] at k1 k2 k3 k4
  have HLl := Lib.hid k1
  have HLr := Lib.hid k2
  have HP := Lib.hid (show Wd.thePack theF l = Wd.runsB (Wd.runsOf L) ++ Wd.packB (l.flatMap (Wd.wordOf L)) by unfold Wd.thePack; rw [if_neg h4, hL])
  have HL := Lib.hid hL
  have LC := Lib.hid (fun X => lens_is X (Wd.cntB l) (Wd.cntB_len l))
  have E1 : Op.alloc 50 = Op.alloc t := by rw [ht]
  have E2 : ∀ a b, Op.store 50 a b = Op.store t a b := by rw [ht]; exact fun _ _ => rfl
  have E3 : ∀ a b, Op.indexAddr 50 a b = Op.indexAddr t a b := by rw [ht]; exact fun _ _ => rfl
  have E4 : ∀ a, Op.load 50 a = Op.load t a := by rw [ht]; exact fun _ => rfl
  obtain ⟨W1, hW1⟩ : ∃ x, x = w.alloc (.cells Z t) := ⟨_, rfl⟩
  obtain ⟨g0, hg0⟩ : ∃ g, w.heap.size = g := ⟨_, rfl⟩
  have HB1 := Lib.hid (show Below w.heap.size w W1 by rw [hW1]; exact (Below.refl _ _).alloc (Nat.le_refl _) _)
  have b1 := Lib.hid (show Blk W1 g0 t (ints (Wd.cntB (l.take 0))) by
    rw [List.take_zero, Wd.cntB_none, ← hZ, hW1, ← hg0]; exact Blk.new _ _ _)
  have e1 : w.alloc (.cells Z t) = W1 := hW1.symm
  have hgw : w.heap.size ≤ g0 := by omega
  have hN4 : N0 ≤ 4096 := by omega
  clear ht hN hix hZ hW1 hby hlen hN0 hL k1 k2 k3 k4 h4
  go_enter Try.func11, Try.ntmps11
  simp only [E1, E2, E3, E4]
  clear E1 E2 E3 E4
  go_wp2_with fail
  go_loopw [17] (fun v wr => ∃ i : Nat, v = .int .i64 (i : Int) ∧ i ≤ N0 ∧ Blk wr g0 t (ints (Wd.cntB (l.take i))) ∧ Below w.heap.size w wr) (fun v _ => N0 - (intOf v).toNat)
  case atStart => exact ⟨0, rfl, Nat.zero_le _, b1.out, HB1.out⟩
  case round =>
    obtain ⟨i, rfl, hi, hb, hbe⟩ := hrel
    have Hb := Lib.hid hb
    have HBe := Lib.hid hbe
    clear hb hbe b1 HB1 e1 hg0
    by_cases hlt : i < N0
    · have q1 : decide ((i : Int) < (N0 : Int)) = true := by rw [decide_eq_true_eq]; omega
      have q1' : decide (i < N0) = true := by rw [decide_eq_true_eq]; exact hlt
      have hil : i < l.length := by rw [← HN0.out]; exact hlt
      obtain ⟨b, o, rfl, cx⟩ := sl_cell (Hby.out.below HBe.out).sl hil
      have hx := Hlt.out (l.getD i 0) (by rw [List.getD_eq_getElem?_getD, List.getElem?_eq_getElem hil]; exact List.getElem_mem _)
      have hnx := Wd.cntB_next (l := l) (i := i) hil rfl
      have hcl := List.count_le_length (a := l.getD i 0) (l := l.take i)
      rw [List.length_take] at hcl
      have ck := Hb.out.cell (l.getD i 0)
      rw [ints_at (by rw [Wd.cntB_len]; exact hx), Wd.cntB_at _ hx] at ck
      have fk := Hb.out.frozen (l.getD i 0)
      have ixk := Hix.out .u8 _ hx g0
      have st := Hb.out.set_ (l.getD i 0) (.int .i64 (((l.take i).count (l.getD i 0) + 1 : Nat) : Int))
      rw [ints_set, hnx] at st
      have St := Lib.hid st
      have SB := Lib.hid (HBe.out.setCell (p := ⟨g0, l.getD i 0, none⟩) hgw (.int .i64 (((l.take i).count (l.getD i 0) + 1 : Nat) : Int)))
      clear hnx st hil Hb HBe
      generalize (l.take i).count (l.getD i 0) = C at *
      generalize l.getD i 0 = x at *
      obtain ⟨C1, hC1⟩ : ∃ C1, C1 = C + 1 := ⟨_, rfl⟩
      rw [← hC1] at St SB
      have s1 : (C : Int) + 1 = (C1 : Int) := by omega
      have hCb : C1 ≤ 5000 := by omega
      clear hC1 hcl
      go_wp2_with fail
      go_roundw
      case rel => exact ⟨i + 1, by go_num, by omega, St.out, SB.out⟩
      case measure => simp [intOf]; omega
    · have hiN : i = N0 := by omega
      subst hiN
      have q1 : decide ((i : Int) < (i : Int)) = false := by simp
      have q1' : decide (i < i) = false := by simp
      have hb := Hb.out
      rw [List.take_of_length_le (by rw [← HN0.out]; exact Nat.le_refl _)] at hb
      have l1 := load_blk (N := N) (by rw [ints_size, Wd.cntB_len, HN.out]) hb
      have HS := HBe.out.size
      have N1 := Lib.hid (LC.out wr)
      clear hb Hb hlt LC
      generalize ints (Wd.cntB l) = XC at *
      go_wp2_with fail
      refine N1.out.mono ?_
      rintro e w2 ⟨rfl, hb2⟩
      rw [← HL.out]
      generalize (theF (Wd.cntB l)).2 = okv at *
      have HB2 := Lib.hid (HBe.out.trans (hb2.mono HS))
      clear l1 N1 HBe hb2
      obtain ⟨T, hT⟩ : ∃ T, T = ints L := ⟨_, rfl⟩
      have hTs : T.size = N := by rw [hT, ints_size, HN.out]; exact HLl.out
      obtain ⟨W3, hW3⟩ : ∃ X, X = w2.alloc (.cells Z t) := ⟨_, rfl⟩
      obtain ⟨g6, hg6⟩ : ∃ g, w2.heap.size = g := ⟨_, rfl⟩
      have bz : Blk W3 g6 t Z := by rw [hW3, ← hg6]; exact Blk.new _ _ _
      obtain ⟨s1, hb4⟩ := store_blk (ds := T) (by rw [hTs, HZs.out]) bz (fun u hu => by
        have := ints_one L
        rw [← hT, Array.all_eq_true_iff_forall_mem] at this
        exact this u (by simpa using hu))
      have l4 := load_blk (N := N) hTs hb4
      have hbw : Below w2.heap.size w2 (W3.setCells g6 0 T.toList) := by
        rw [hW3]; exact ((Below.refl _ _).alloc (Nat.le_refl _) _).trans (below_cells _ _ _ (by omega))
      have e3 : w2.alloc (.cells Z t) = W3 := hW3.symm
      have HB4 := Lib.hid (HB2.out.trans (hbw.mono HB2.out.size))
      have Hb4 := Lib.hid hb4
      rw [← hT]
      have HT := Lib.hid hT
      have N4 := Lib.hid (fun X => canon_any X L HLl.out HLr.out)
      have NA := Lib.hid (fun X => atab_any X L HLl.out HLr.out)
      rw [← hT] at N4 NA
      clear hT hW3 bz hb4 hbw HB2
      go_upto_region 10 with fail
      generalize W3.setCells g6 0 T.toList = w4 at *
      clear s1 e3 hg6
      go_wp2_with fail
      refine (N4.out _).mono ?_
      rintro e w5 ⟨G, C, rfl, hcd, hb5⟩
      have N5 := Lib.hid (cwds_any hcd HLl.out)
      have HB5 := Lib.hid (HB4.out.trans (hb5.mono HB4.out.size))
      have Hb5 := Lib.hid (Hb4.out.keep (hb5.block g6 Hb4.out.lt))
      clear hcd hb5 Hb4 HB4 N4 l4
      go_wp2_with fail
      refine N5.out.mono ?_
      rintro e w6 ⟨rfl, hb6⟩
      have HB6 := Lib.hid (HB5.out.trans (hb6.mono HB5.out.size))
      have Hb6 := Lib.hid (Hb5.out.keep (hb6.block g6 Hb5.out.lt))
      clear hb6 Hb5 HB5 N5
      obtain ⟨TC, hTC⟩ : ∃ T, T = ints (Wd.codes L) := ⟨_, rfl⟩
      have hTCs : TC.size = N := by rw [hTC, ints_size, HN.out]; exact Wd.asg_len _ _ _
      obtain ⟨W7, hW7⟩ : ∃ X, X = w6.alloc (.cells Z t) := ⟨_, rfl⟩
      obtain ⟨g8, hg8⟩ : ∃ g, w6.heap.size = g := ⟨_, rfl⟩
      have bz : Blk W7 g8 t Z := by rw [hW7, ← hg8]; exact Blk.new _ _ _
      obtain ⟨s1, hb8⟩ := store_blk (ds := TC) (by rw [hTCs, HZs.out]) bz (fun u hu => by
        have := ints_one (Wd.codes L)
        rw [← hTC, Array.all_eq_true_iff_forall_mem] at this
        exact this u (by simpa using hu))
      have hbw : Below w6.heap.size w6 (W7.setCells g8 0 TC.toList) := by
        rw [hW7]; exact ((Below.refl _ _).alloc (Nat.le_refl _) _).trans (below_cells _ _ _ (by omega))
      have e3 : w6.alloc (.cells Z t) = W7 := hW7.symm
      have HB8 := Lib.hid (HB6.out.trans (hbw.mono HB6.out.size))
      have Hc8 := Lib.hid hb8
      have hb6' := Hb6.out.keep (hbw.block g6 Hb6.out.lt)
      have l8 := load_blk (N := N) hTs hb6'
      have Hl8 := Lib.hid hb6'
      rw [← hTC]
      have HTC := Lib.hid hTC
      clear hTC hW7 bz hb8 hbw hb6' Hb6 HB6
      go_upto_region 11 with fail
      generalize W7.setCells g8 0 TC.toList = w8 at *
      clear s1 e3 hg8
      go_wp2_with fail
      refine (NA.out _).mono ?_
      rintro e w9 ⟨A9, c9, rfl, ho9, hb9⟩
      obtain ⟨TB, hTB⟩ : ∃ TB, TB = Wd.runsB (Wd.runsOf L) := ⟨_, rfl⟩
      rw [← hTB] at ho9 ⊢
      obtain ⟨tn, htn⟩ : ∃ tn, tn = TB.length := ⟨_, rfl⟩
      rw [← htn] at ho9 ⊢
      obtain ⟨K, hK⟩ : ∃ K, w9.heap.size = K := ⟨_, rfl⟩
      obtain ⟨W10, hW10⟩ : ∃ X, X = w9.alloc (.cells #[.slice A9 tn c9, .int .i64 0] 59) := ⟨_, rfl⟩
      have e10 : w9.alloc (.cells #[.slice A9 tn c9, .int .i64 0] 59) = W10 := hW10.symm
      have hs89 := hb9.size
      have hbel10 : Below w8.heap.size w8 W10 := by rw [hW10]; exact hb9.alloc hs89 _
      have S10 := Lib.hid (show Pkl w8 W10 K TB L l 0 from by
        refine ⟨⟨A9, tn, c9, ⟨by omega, ?_, ?_, Wd.Pk.none⟩⟩, hbel10⟩
        · rw [hW10, ← hK]; exact Blk.new _ _ _
        · rw [show TB ++ Wd.fin ((Wd.bitsF L l 0).foldl Wd.push ([], [])) = TB from by
            rw [show (Wd.bitsF L l 0) = [] from rfl]; exact List.append_nil _]
          rw [hW10]
          exact ownB_alloc ho9 _)
      have HTB := Lib.hid hTB
      have Htl := Lib.hid (show TB.length ≤ 256 from by
        rw [hTB]
        obtain ⟨r1, r2⟩ := Wd.runs_of HLr.out
        have := Wd.runs_few r2
        rw [r1, HLl.out] at this
        unfold Wd.runsB
        rw [List.length_map]; exact this)
      have Hb8' := Lib.hid Hl8.out
      clear ho9 hb9 hTB hW10 hs89 hbel10 l8 NA Hl8 htn
      go_wp2_with fail
      go_loopw [41] (fun v wr => ∃ j : Nat, v = .int .i64 (j : Int) ∧ j ≤ i ∧ Pkl w8 wr K TB L l j) (fun v _ => i - (intOf v).toNat)
      case atStart => exact ⟨0, rfl, Nat.zero_le _, S10.out⟩
      case round =>
        obtain ⟨j, rfl, hj, hp⟩ := hrel
        have Hp := Lib.hid hp
        clear hp S10 e10 hK
        have HS8 := HB8.out.size
        have HBx := Lib.hid (HB8.out.trans (Hp.out.bel.mono HS8))
        obtain ⟨As, ns, cs, hsnk⟩ := Hp.out.snk
        by_cases hjt : j < i
        · have z1 : decide ((j : Int) < (i : Int)) = true := by rw [decide_eq_true_eq]; omega
          have z1' : decide (j < i) = true := by rw [decide_eq_true_eq]; exact hjt
          have hil : j < l.length := by rw [← HN0.out]; exact hjt
          obtain ⟨b, o, rfl, cx⟩ := sl_cell (Hby.out.below HBx.out).sl hil
          have hx := Hlt.out (l.getD j 0) (by rw [List.getD_eq_getElem?_getD, List.getElem?_eq_getElem hil]; exact List.getElem_mem _)
          obtain ⟨v, m, hv, hm, hm11, hvb, hwb⟩ := Wd.code_is HLr.out HLl.out hx
          have hnx := Wd.bitsF_next (L := L) hil rfl
          have hbl := Wd.words_most (L := L) (fun x hx => HLr.out x hx) (l.take j)
          rw [List.length_take] at hbl
          rw [← hwb] at hnx
          have cv := (Hc8.out.keep (Hp.out.bel.block g8 Hc8.out.lt)).cell (l.getD j 0)
          rw [HTC.out, ints_at (by rw [show (Wd.codes L).length = 256 from Wd.asg_len _ _ _]; exact hx), hv] at cv
          have cm := (Hb8'.out.keep (Hp.out.bel.block g6 Hb8'.out.lt)).cell (l.getD j 0)
          rw [HT.out, ints_at (by rw [HLl.out]; exact hx), hm] at cm
          have ix6 := Hix.out .u8 _ hx g6
          have ix8 := Hix.out .u8 _ hx g8
          have N11 := Lib.hid (sput_any hsnk.drew v m hvb hm11 (by
            have a1 := Htl.out
            have a2 := Hl4.out
            have a3 : (Wd.bitsF L l j).length ≤ 11 * min j l.length := hbl
            omega))
          have Hnx := Lib.hid hnx
          clear hsnk hbl hnx hv hm hwb
          generalize l.getD j 0 = x at *
          go_wp2_with fail
          have Kp := Lib.hid (fun (w' : World) (hbc : Below w8.heap.size wr.drew w') => show w'.cell? ⟨g8, x, none⟩ = some (.int .i64 (v : Int)) ∧ w'.cell? ⟨g6, x, none⟩ = some (.int .i64 (m : Int)) from
            ⟨(hbc.cell (p := ⟨g8, x, none⟩) Hc8.out.lt).trans cv, (hbc.cell (p := ⟨g6, x, none⟩) Hb8'.out.lt).trans cm⟩)
          have hbc := Below.refl w8.heap.size wr.drew
          set_option maxHeartbeats 2000000 in
          go_region_held_law (fun w' => w'.cell? ⟨g8, x, none⟩ = some (.int .i64 (v : Int)) ∧ w'.cell? ⟨g6, x, none⟩ = some (.int .i64 (m : Int))) (first | exact Kp.out _ hbc | exact ⟨cv, cm⟩) (first
            | (go_at_call 29; ((with_reducible refine N11.out.mono ?_); rintro e w' ⟨rfl, hput, hbc⟩)))
          all_goals
            go_wp2_with fail
            go_roundw
            case rel =>
              obtain ⟨A1, n1, c1, hs1⟩ := hput
              refine ⟨j + 1, by go_num, by omega, ⟨A1, n1, c1, ?_⟩, (Hp.out.bel.drew).trans hbc⟩
              rw [Hnx.out, List.foldl_append]; exact hs1
            case measure => simp [intOf]; omega
        · have hji : j = i := by omega
          subst hji
          have z1 : decide ((j : Int) < (j : Int)) = false := by simp
          have z1' : decide (j < j) = false := by simp
          have c0 : wr.cell? ⟨K, 0, none⟩ = some (.slice As ns cs) := hsnk.blk.cell 0
          have hall : Wd.bitsF L l j = l.flatMap (Wd.wordOf L) := by
            unfold Wd.bitsF
            rw [List.take_of_length_le (by rw [← HN0.out]; exact Nat.le_refl _)]
          have hown := hsnk.own
          rw [hall] at hown
          have hown2 : OwnB wr w8.heap.size As ns cs (Wd.thePack theF l) := by
            rw [HP.out, ← HTB.out]; exact hown
          have hn := ownB_len hown2
          have hsl := snk_len hsnk
          have hb256 : ∀ x ∈ Wd.thePack theF l, x < 256 := by
            intro y hy
            rw [HP.out] at hy
            obtain ⟨r1, r2⟩ := Wd.runs_of HLr.out
            rcases List.mem_append.1 hy with h | h
            · exact Wd.runsB_lt r2 y h
            · exact Wd.packB_lt (Wd.words_two L l) y h
          have hbl := Wd.words_most (L := L) (fun x hx => HLr.out x hx) (l.take j)
          rw [List.length_take] at hbl
          have hns : ns ≤ 1000000 := by
            have a1 := Htl.out
            have a3 : (Wd.bitsF L l j).length ≤ 11 * min j l.length := hbl
            omega
          have Fin := Lib.hid (By.of_own hown2 hb256 (by rw [hn]; exact hns))
          have Hn := Lib.hid hn
          clear hsnk hall hown hown2 hn hsl hb256 hbl hns
          go_wp2_with fail
          go_ret
          exact ⟨As, cs, by rw [Hn.out]; rfl, Fin.out, HBx.out⟩
end Go.Proofs.Ytnkgcibdibgmjaa

namespace Go.Proofs.Ytnkgcibdibgmjaa
open Go.RowKit

theorem words_ok : WPackOk (Wd.thePack theF) := wpack_the lens_ok
end Go.Proofs.Ytnkgcibdibgmjaa
