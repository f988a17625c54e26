/- WordsSkew, under what the program's functions are held to. -/
import Derived.Test.YtpaefpjggglmaaaWc
import Derived.Deep.RegionLaw
namespace Go.Proofs.Ytpaefpjggglmaaa
open Go.RowKit

theorem cutA_nil' {A : Option Addr} {c k : Nat} (hA : A = none → c = 0) : cutA A c k = none → c - k = 0 := by
  unfold cutA
  by_cases h : c = k
  · omega
  · rw [if_neg h]; intro hh; have := hA (by simpa using hh); omega
theorem pow_le15 {i : Nat} (h : i ≤ 15) : 2 ^ i ≤ 32768 := Nat.pow_le_pow_right (n := 2) (by decide) h
theorem pow_step {i a c : Nat} (h1 : a ≤ 2 ^ i) (h2 : c ≤ 2 ^ i) : c ≤ 2 ^ (i + 1) ∧ a + c ≤ 2 ^ (i + 1) := by rw [Nat.pow_succ]; omega
set_option maxRecDepth 8000 in
set_option maxHeartbeats 8000000 in
theorem wskew_any (hU : WUnpackC) {P : List Nat → List Nat} (hP : WPackC P) (hO : WPackOk P) (w : World) (n u : Nat) (hn : n < 256) (hu : u < 65536) :
    Calls Try.prog 7 #[.int .u8 (n : Int), .int .u16 (u : Int)] w fun e w' => e = .returned (.bool true) ∧ Below w.heap.size w w' := by
  have AW := Lib.hid (fun w => wawake_any hU hP hO w)
  have BK := Lib.hid (wback_of hU hP hO)
  clear hU hP hO
  obtain ⟨i0, hi0, hz0, hs0, hb0⟩ := byte_parts (P := Try.prog) (e := 5) (by kernel_rfl)
  obtain ⟨k, hk⟩ : ∃ k : Nat, (2 : Int) + (n : Int) % 14 = (k : Int) := ⟨2 + n % 14, by omega⟩
  have hk2 : 2 ≤ k := by omega
  have hk15 : k ≤ 15 := by omega
  go_enter Try.func7, Try.ntmps7
  go_wp2_with fail
  refine (AW.out _).mono ?_
  rintro e w1 ⟨rfl, hb⟩
  have HB1 := Lib.hid hb
  have M1 := Lib.hid (show Mine w1 w1 none 0 0 [] from ⟨World.ownsRow_nil _ _ _ _, Below.refl _ _⟩)
  clear hb AW
  go_wp2_with fail
  go_loopw [6, 7, 8, 9] (fun v a c i wr => ∃ (j m fa fc : Nat) (A' : Option Addr) (c' : Nat) (L : List Nat), j ≤ k ∧ i = .int .i64 j ∧ a = .int .i64 fa ∧ c = .int .i64 fc ∧ 1 ≤ fa ∧ 1 ≤ fc ∧ fa ≤ 2 ^ j ∧ fc ≤ 2 ^ j ∧ v = .slice A' m c' ∧ Mine w1 wr A' m c' L ∧ (∀ x ∈ L, x < 256) ∧ m ≤ 3000 ∧ (j = 0 ∨ 1 ≤ m)) (fun _ _ _ i _ => k - (intOf i).toNat)
  case atStart => exact ⟨0, 0, 1, 1, none, 0, [], Nat.zero_le _, rfl, rfl, rfl, by decide, by decide, by decide, by decide, rfl, M1.out, by simp, by decide, .inl rfl⟩
  case round =>
    obtain ⟨j, m0, fa, fc, A0, c0, L0, hj, rfl, rfl, rfl, hfa1, hfc1, hfa, hfc, rfl, hm, hL, hm0, hj0⟩ := hrel
    have M := Lib.hid hm
    have HL := Lib.hid hL
    have hp15 := pow_le15 (i := j) (by omega)
    have Hps := Lib.hid (pow_step hfa hfc)
    have hfab : fa ≤ 32768 := by omega
    have hfcb : fc ≤ 32768 := by omega
    clear hm hL M1 hfa hfc hp15
    by_cases hjk : j < k
    · have q0 : decide ((j : Int) < (k : Int)) = true := by rw [decide_eq_true_eq]; omega
      have q0' : decide (j < k) = true := by rw [decide_eq_true_eq]; omega
      obtain ⟨x, hx⟩ : ∃ x : Nat, x = j * 17 := ⟨_, rfl⟩
      have hxI : (j : Int) * 17 = (x : Int) := by omega
      have hx256 : x < 256 := by omega
      have hx8 : IntKind.u8.wrap (x : Int) = (x : Int) := by rw [IntKind.wrap_u8]; omega
      clear hx
      go_wp2_with fail
      go_loopw [6, 10] (fun v i wr => ∃ (q m : Nat) (A' : Option Addr) (c' : Nat) (L : List Nat), q ≤ fa ∧ i = .int .i64 q ∧ v = .slice A' m c' ∧ Mine w1 wr A' m c' L ∧ (∀ x ∈ L, x < 256) ∧ m ≤ 3000 ∧ m = m0 + q) (fun _ i _ => fa - (intOf i).toNat)
      case atStart => exact ⟨0, m0, A0, c0, L0, Nat.zero_le _, rfl, rfl, M.out, HL.out, hm0, rfl⟩
      case round =>
        obtain ⟨q, m, A', c', L, hq, rfl, rfl, hm, hL, hm3, hmq⟩ := hrel
        have Mq := Lib.hid hm
        have HLq := Lib.hid hL
        clear hm hL M HL
        by_cases hqf : q < fa
        · have q1 : decide ((q : Int) < (fa : Int)) = true := by rw [decide_eq_true_eq]; omega
          have q1' : decide (q < fa) = true := by rw [decide_eq_true_eq]; omega
          by_cases hm30 : m < 3000
          · have q2 : decide ((m : Int) < 3000) = true := by rw [decide_eq_true_eq]; omega
            have q2' : decide (m < 3000) = true := by rw [decide_eq_true_eq]; omega
            have Mz := Lib.hid (Mq.out.below (w' := wr.alloc (.cells #[.int .u8 (x : Int)] 5)) ((Below.refl _ _).alloc (Nat.le_refl _) _))
            have Sz := Lib.hid (sl_cells (w := wr) (cs := #[.int .u8 (x : Int)]) (l := [x]) rfl)
            have Hmq := Lib.hid hmq
            clear hmq
            go_wp2_with (at_builtin; refine wpList_append_sl (base := w1.heap.size) _ rfl (.tmp 38) (.tmp 42) _ rfl Try.underlying22 hi0 hz0 hs0 hb0 rfl rfl Mz.out.own rfl (byts_length [x]).symm (by simp) Sz.out (byts_one _) (by rw [byts_length]; exact Nat.le_refl _) (by rw [byts_length]; unfold maxLen; simp; omega) (by rw [byts_length]; simp; omega) Mz.out.bel.size ?_; intro v6 w6 h1 h2 _; obtain ⟨A6, c6, rfl, m6⟩ := Mz.out.app (r := [x]) rfl (show m + 1 = m + 1 from rfl) h1 h2; have M6 := Lib.hid m6; clear h1 h2 m6)
            go_roundw
            case rel => exact ⟨q + 1, m + 1, A6, c6, L ++ [x], by omega, by go_num, rfl, M6.out, fun y hy => by
              rcases List.mem_append.1 hy with h | h
              · exact HLq.out y h
              · have : y = x := by simpa using h
                omega, by omega, by rw [Hmq.out]; omega⟩
            case measure => simp [intOf]; omega
          · have q2 : decide ((m : Int) < 3000) = false := by rw [decide_eq_false_iff_not]; omega
            have q2' : decide (m < 3000) = false := by rw [decide_eq_false_iff_not]; omega
            clear hmq
            go_wp2_with fail
            go_roundw
            case rel => exact ⟨j + 1, m, fc, fa + fc, A', c', L, by omega, by go_num, rfl, by go_num, hfc1, by omega, Hps.out.1, Hps.out.2, rfl, Mq.out, HLq.out, hm3, .inr (by omega)⟩
            case measure => simp [intOf]; omega
        · have q1 : decide ((q : Int) < (fa : Int)) = false := by rw [decide_eq_false_iff_not]; omega
          have q1' : decide (q < fa) = false := by rw [decide_eq_false_iff_not]; omega
          have hm1 : 1 ≤ m := by omega
          clear hmq
          go_wp2_with fail
          go_roundw
          case rel => exact ⟨j + 1, m, fc, fa + fc, A', c', L, by omega, by go_num, rfl, by go_num, hfc1, by omega, Hps.out.1, Hps.out.2, rfl, Mq.out, HLq.out, hm3, .inr hm1⟩
          case measure => simp [intOf]; omega
    have hjk2 : k = j := by omega
    subst hjk2
    have q0 : decide ((k : Int) < (k : Int)) = false := by simp
    have q0' : decide (k < k) = false := by simp
    have hm1 : 1 ≤ m0 := by omega
    obtain ⟨t, ht⟩ : ∃ t : Nat, (u : Int) % (m0 : Int) = (t : Int) := ⟨u % m0, by simp⟩
    have htm : t < m0 := by
      have h := Int.emod_lt_of_pos (u : Int) (b := (m0 : Int)) (by omega)
      omega
    have hne : ((m0 : Int) == 0) = false := by rw [beq_eq_false_iff_ne]; omega
    have hcm := own_len M.out.own
    have hcn := own_none M.out.own
    have hLm := M.out.len
    have cut1 : ∀ w, (Instr.slice 22 (.slice A0 m0 c0) (some (.int .i64 (t : Int))) none none).run Try.prog w = .ok (.slice (cutA A0 c0 t) (m0 - t) (c0 - t)) w := run_slice_from (P := Try.prog) Try.underlying22 hi0 hs0 A0 m0 c0 t (by omega)
    have cut2 : ∀ w, (Instr.slice 22 (.slice A0 m0 c0) none (some (.int .i64 (t : Int))) none).run Try.prog w = .ok (.slice A0 t c0) w := run_slice_to (P := Try.prog) Try.underlying22 hi0 A0 m0 c0 t (by omega)
    have Sd := Lib.hid (fun W (h : Below wr.heap.size wr W) => show Sl W wr.heap.size (cutA A0 c0 t) (byts (L0.drop t)) by
      rw [← byts_drop]; exact (M.out.sl.below h).from (by rw [byts_length, hLm]; exact hcm))
    have St := Lib.hid (fun W (h : Below wr.heap.size wr W) => show Sl W wr.heap.size A0 (byts (L0.take t)) by
      rw [← byts_take]; exact (M.out.sl.below h).to t)
    have Ld := Lib.hid (show (byts (L0.drop t)).length = m0 - t by rw [byts_length, List.length_drop, hLm])
    have Lt := Lib.hid (show (byts (L0.take t)).length = t by rw [byts_length, List.length_take, hLm]; omega)
    have Ld' := Lib.hid (show (L0.drop t).length = m0 - t by rw [List.length_drop, hLm])
    have Lt' := Lib.hid (show (L0.take t).length = t by rw [List.length_take, hLm]; omega)
    have Hn1 := Lib.hid (cutA_nil' (A := A0) (c := c0) (k := t) hcn)
    have hsum : m0 - t + t = m0 := by omega
    have hbc : Below wr.heap.size wr wr := Below.refl _ _
    have HBr := Lib.hid (HB1.out.trans (M.out.bel.mono HB1.out.size))
    have HLr := Lib.hid (show ∀ x ∈ L0.drop t ++ L0.take t, x < 256 from fun x hx => by
      rcases List.mem_append.1 hx with h | h
      · exact HL.out x (List.mem_of_mem_drop h)
      · exact HL.out x (List.mem_of_mem_take h))
    clear hjk hj hj0 hLm
    go_wp2_with fail
    go_region_law (first
      | (refine step_append_sl (base := wr.heap.size) _ rfl (.tmp 53) (.tmp 56) _ rfl Try.underlying22 hi0 hz0 hs0 hb0 rfl rfl (mine_empty (w0 := wr) hbc.drew).own rfl Ld.out.symm Hn1.out (Sd.out _ (mine_empty (w0 := wr) hbc.drew).bel) (byts_one _) (by rw [Ld.out]; omega) (by rw [Ld.out]; unfold maxLen; omega) (by rw [Ld.out]; omega) (mine_empty (w0 := wr) hbc.drew).bel.size ?_; intro v10 w10 h1 h2 _; obtain ⟨A10, c10, rfl, m10⟩ := (mine_empty (w0 := wr) hbc.drew).app (r := L0.drop t) Ld'.out (Nat.zero_add (m0 - t)) h1 h2; have M10 := Lib.hid m10; clear h1 h2 m10)
      | (refine step_append_sl (base := wr.heap.size) _ rfl (.tmp 57) (.tmp 60) _ rfl Try.underlying22 hi0 hz0 hs0 hb0 rfl rfl M10.out.own rfl Lt.out.symm hcn (St.out _ M10.out.bel) (byts_one _) (by rw [Lt.out]; omega) (by rw [Lt.out]; unfold maxLen; omega) (by rw [Lt.out]; omega) M10.out.bel.size ?_; intro v11 w11 h1 h2 _; obtain ⟨A11, c11, rfl, m11⟩ := M10.out.app (r := L0.take t) Lt'.out hsum h1 h2; have M11 := Lib.hid m11; clear h1 h2 m11))
    simp only [List.getElem_toArray, List.getElem_cons_succ, List.getElem_cons_zero]
    obtain ⟨Lx, hLx⟩ : ∃ Lx, Lx = L0.drop t ++ L0.take t := ⟨_, rfl⟩
    have HM := Lib.hid M11.out
    rw [List.nil_append, ← hLx] at HM
    rw [← hLx] at HLr
    have hxl : Lx.length = m0 := HM.out.len
    have X := Lib.hid (By.of_own HM.out.own HLr.out (by omega))
    have HBx := Lib.hid (HBr.out.trans (HM.out.bel.mono HBr.out.size))
    obtain ⟨hpl, p1, p2, p3⟩ := BK.out Lx HLr.out (by omega)
    rw [hxl] at hpl p1 p2 p3
    have P1 := Lib.hid p1
    have P2 := Lib.hid p2
    have P3 := Lib.hid p3
    obtain ⟨zl, hzl⟩ : ∃ zl, zl = (P Lx).length := ⟨_, rfl⟩
    rw [← hzl] at hpl P1 P2 P3
    obtain ⟨D2, hD2⟩ : ∃ D2 : Nat, ((11 : Int) * (m0 : Int) + 7) / 8 = (D2 : Int) := ⟨(11 * m0 + 7) / 8, by omega⟩
    obtain ⟨mx, hmx⟩ : ∃ mx : Nat, (272 : Int) + (D2 : Int) = (mx : Int) := ⟨272 + D2, by omega⟩
    have q5 : decide ((zl : Int) ≤ (mx : Int)) = true := by rw [decide_eq_true_eq]; omega
    have q5' : decide (zl ≤ mx) = true := by rw [decide_eq_true_eq]; omega
    have hmxb : mx ≤ 10000 := by omega
    have HXl := Lib.hid hxl
    have Hzl := Lib.hid hzl
    clear hpl p1 p2 p3 hzl hxl hLx M10 M11 M Sd St Ld Lt Ld' Lt' Hn1 cut1 cut2 BK HBr hbc
    go_wp2_with fail
    refine (P1.out _ _ _ X.out).mono ?_
    rintro e w6 ⟨A6, c6, rfl, y6, b6⟩
    have HB6 := Lib.hid (HBx.out.trans (b6.mono HBx.out.size))
    have X6 := Lib.hid (X.out.below b6)
    have Y6 := Lib.hid y6
    have N6 := Lib.hid (P3.out _ _ _ y6)
    clear y6 b6 HBx X P3 P1
    go_wp2_with fail
    refine N6.out.mono ?_
    rintro e w7 ⟨A7, c7, rfl, y7, b7⟩
    have HB7 := Lib.hid (HB6.out.trans (b7.mono HB6.out.size))
    have X7 := Lib.hid (X6.out.below b7)
    have Y7 := Lib.hid y7
    have Z7 := Lib.hid (Y6.out.below b7)
    have N7 := Lib.hid (P2.out _ _ _ Z7.out)
    clear y7 b7 HB6 X6 Y6 N6 P2
    go_wp2_with fail
    refine N7.out.mono ?_
    rintro e w8 ⟨A8, c8, rfl, y8, b8⟩
    have HB8 := Lib.hid (HB7.out.trans (b8.mono HB7.out.size))
    have k1 := conv_b (cap := c7) (Y7.out.below b8).sl
    have k2 := conv_b (cap := c11) (X7.out.below b8).sl
    have k3 := conv_b (cap := c8) y8.sl
    rw [HXl.out] at k1 k2 k3
    clear y8 b8 HB7 X7 Y7 Z7 N7
    generalize bstr Lx = st at *
    go_wp2_with fail
    go_ret
    exact ⟨rfl, HB8.out⟩
end Go.Proofs.Ytpaefpjggglmaaa
