/- PlatterCopies, walked. -/
import Derived.Test.YtdengokonaljpaaPair
import Derived.Test.YtdengokonaljpaaPplays
import Derived.Deep.DeepCutAuto
namespace Go.Proofs.Ytdengokonaljpaa
open Go.RowKit Go.Maps

/-- Are all of the first j in their limits? -/
def within (l : List Deed) (j : Nat) : Prop := ∀ i (hi : i < l.length), i < j → l[i].keep.length ≤ 200 ∧ l[i].fl.length ≤ 20
theorem within_next {l : List Deed} {j : Nat} (h : within l j) (hj : j < l.length) (h1 : l[j].keep.length ≤ 200) (h2 : l[j].fl.length ≤ 20) : within l (j + 1) := fun i hi hij => by
  by_cases e : i = j
  · subst e; exact ⟨h1, h2⟩
  · exact h i hi (by omega)
theorem within_zero (l : List Deed) : within l 0 := fun i _ h => by omega
theorem within_fair {l : List Deed} {j : Nat} (h : within l j) (hj : j ≤ l.length) : Fair (deeds (newSt 64) l j) j := fair_deeds (fair_new (by decide) (by decide)) j hj fun i hi hij => (h i hi hij).2

set_option maxRecDepth 10000 in
set_option maxHeartbeats 8000000 in
theorem copies_any (A : Option Addr) (capa : Nat) (la : List Deed) (B : Option Addr) (capb : Nat) (lb : List Deed) (C : Option Addr) (capc : Nat) (lc : List Deed) (w : World) (ha : DeedsAt w w.heap.size A la) (hb : DeedsAt w w.heap.size B lb) (hc : DeedsAt w w.heap.size C lc)
    (oka : ∀ x ∈ la, x.ok w w.heap.size) (okb : ∀ x ∈ lb, x.ok w w.heap.size) (okc : ∀ x ∈ lc, x.ok w w.heap.size) :
    Calls Try.prog 4 #[.slice A la.length capa, .slice B lb.length capb, .slice C lc.length capc] w fun e w' => e = .returned (.bool true) ∧ Below w.heap.size w w' := by
  have early : ∀ (a b c : Bool), decide (50 < (la.length : Int)) = a → decide (50 < (lb.length : Int)) = b → decide (50 < (lc.length : Int)) = c → (a = true ∨ b = true ∨ c = true) →
      Calls Try.prog 4 #[.slice A la.length capa, .slice B lb.length capb, .slice C lc.length capc] w fun e w' => e = .returned (.bool true) ∧ Below w.heap.size w w' := by
    intro a b c h1 h2 h3 h
    clear oka okb okc ha hb hc
    cases a <;> cases b <;> cases c <;> first
      | (simp at h; done)
      | (go_enter Try.func4, Try.ntmps4
         go_wp2_with fail
         refine (pawake _).mono ?_
         rintro e wa ⟨rfl, Ba⟩
         go_wp2_with fail
         go_ret
         exact ⟨rfl, Ba⟩)
  by_cases hbig : 50 < la.length ∨ 50 < lb.length ∨ 50 < lc.length
  · refine early _ _ _ rfl rfl rfl ?_
    rcases hbig with h | h | h
    · exact .inl (by simp; omega)
    · exact .inr (.inl (by simp; omega))
    · exact .inr (.inr (by simp; omega))
  clear early
  have q1 : decide (50 < (la.length : Int)) = false := by simp; omega
  have q2 : decide (50 < (lb.length : Int)) = false := by simp; omega
  have q3 : decide (50 < (lc.length : Int)) = false := by simp; omega
  have ha50 : la.length ≤ 50 := by omega
  have hb50 : lb.length ≤ 50 := by omega
  have hc50 : lc.length ≤ 50 := by omega
  obtain ⟨mx, hmx, hmb, hmc, hm50⟩ : ∃ mx : Nat, (if (lc.length : Int) > (lb.length : Int) then (lc.length : Int) else (lb.length : Int)) = (mx : Int) ∧ lb.length ≤ mx ∧ lc.length ≤ mx ∧ mx ≤ 50 := ⟨max lb.length lc.length, by split <;> omega, by omega, by omega, by omega⟩
  have hmax : ∀ (ts : Array TypeId) (t : TypeId) (W : World), (Builtin.max_ ts t #[.int .i64 (lb.length : Int), .int .i64 (lc.length : Int)]).run Try.prog W = .ok (.int .i64 (mx : Int)) W := fun ts t W => by
    rw [run_max_int2, hmx]
  clear hbig hmx
  have h64 : ((64 : Nat) : Int) = 64 := rfl
  go_enter Try.func4, Try.ntmps4
  go_wp2_with fail
  refine (pawake _).mono ?_
  rintro e wa ⟨rfl, Ba⟩
  go_wp2_with fail
  refine (play_new (n := 64) Ba (by decide) (by decide)).mono ?_
  rintro e w1 ⟨rfl, hnew⟩
  have Hnew := Lib.hid hnew
  clear hnew
  go_wp2_with fail
  refine Hnew.out.mono ?_
  rintro e w2 ⟨rfl, hP⟩
  generalize wa.heap.size + 1 = p at *
  generalize w1.heap.size = m at *
  have Hn2 := Lib.hid (pair_new hP (n := 64) (by decide) (by decide))
  clear hP Hnew Ba
  go_wp2_with fail
  refine Hn2.out.mono ?_
  rintro e w3 ⟨rfl, hP⟩
  generalize w2.heap.size = k at *
  have HP := Lib.hid hP
  clear hP Hn2
  go_wp2_with fail
  go_loopw [13] (fun v wr => ∃ j : Nat, j ≤ la.length ∧ v = .int .i64 j ∧ Pair w wr p m (deeds (newSt 64) la j) (KRef k (newSt 64)) ∧ within la j) (fun v _ => la.length - (intOf v).toNat)
  case atStart => exact ⟨0, by omega, rfl, HP.out, within_zero la⟩
  case round =>
    obtain ⟨j, hj, rfl, hP, hq⟩ := hrel
    clear HP
    by_cases hlt : j < la.length
    · obtain ⟨b, o, rfl, hb', c0, c1, c2, c3, c4, c5⟩ := deed_cells (ha.below hP.below) hlt
      have hx := oka la[j] (List.getElem_mem _)
      have Hd := Lib.hid (deeds_next (st := newSt 64) hlt)
      have hfair := within_fair hq hj
      have HQ := Lib.hid (within_next hq hlt)
      have HP := Lib.hid hP
      generalize hS : deeds (newSt 64) la j = S at *
      clear hS oka okb okc ha hb hc hq hP hmax
      generalize la[j] = x at *
      by_cases hk : 200 < x.keep.length
      · have qk : decide (200 < (x.keep.length : Int)) = true := by simp; omega
        go_wp2_with fail
        go_ret
        exact ⟨rfl, HP.out.below⟩
      have qk : decide (200 < (x.keep.length : Int)) = false := by simp; omega
      by_cases hf : 20 < x.fl.length
      · have qf : decide (20 < (x.fl.length : Int)) = true := by simp; omega
        go_wp2_with fail
        go_ret
        exact ⟨rfl, HP.out.below⟩
      have qf : decide (20 < (x.fl.length : Int)) = false := by simp; omega
      by_cases h8 : x.d = 8
      · have q8 : (x.d == 8) = true := by simpa using h8
        clear h8
        go_wp2_with fail
        go_ret
        exact ⟨rfl, HP.out.below⟩
      have q8 : (x.d == 8) = false := by simpa using h8
      have HD := Lib.hid (pair_do (kept_ref _ _) HP.out hfair (by omega) hx (by omega) (by omega))
      have hf20 : x.fl.length ≤ 20 := by omega
      have hk20 : x.keep.length ≤ 200 := by omega
      clear hx hfair HP h8
      go_wp2_with fail
      refine HD.out.mono ?_
      rintro e w4 ⟨rfl, hP4⟩
      have HP4 := Lib.hid hP4
      clear hP4 c0 c1 c2 c3 c4 c5
      go_wp2_with fail
      go_roundw
      case rel => exact ⟨j + 1, by omega, by go_num, by rw [Hd.out]; exact HP4.out, HQ.out hk20 hf20⟩
      case measure => simp [intOf]; omega
    · have hjl : j = la.length := by omega
      subst hjl
      have qd : decide (la.length < la.length) = false := by simp
      have hfair := within_fair hq hj
      have Hfair := Lib.hid hfair
      have Hq := Lib.hid hq
      have Hcp := Lib.hid (pair_copy (kept_ref _ _) hP hfair (by omega))
      clear hq hP hlt hj hfair
      go_wp2_with fail
      refine Hcp.out.mono ?_
      rintro e w4 ⟨q, rfl, hP4⟩
      have Htw := Lib.hid (pair_twin hP4 rfl)
      clear hP4 Hcp
      go_wp2_with fail
      refine Htw.out.mono ?_
      rintro e w5 ⟨rfl, hP5⟩
      generalize w4.heap.size + 1 = t at *
      obtain ⟨S, hS⟩ : ∃ S, deeds (newSt 64) la la.length = S := ⟨_, rfl⟩
      rw [hS] at hP5
      have HS := Lib.hid hS
      have HP5 := Lib.hid hP5
      clear hP5 Htw hS
      go_wp2_with fail
      go_loopw [17] (fun v wr => ∃ j : Nat, j ≤ la.length ∧ v = .int .i64 j ∧ Pair w wr t k (deeds (newSt 64) la j) (KAnd (KDuo p m S) (KDev q S))) (fun v _ => la.length - (intOf v).toNat)
      case atStart => exact ⟨0, by omega, rfl, HP5.out⟩
      case round =>
        obtain ⟨j, hj, rfl, hP⟩ := hrel
        clear HP5
        by_cases hlt : j < la.length
        · obtain ⟨b, o, rfl, hb', c0, c1, c2, c3, c4, c5⟩ := deed_cells (ha.below hP.below) hlt
          have hx := oka la[j] (List.getElem_mem _)
          have hwi : within la j := fun i hi hij => Hq.out i hi hi
          have Hd := Lib.hid (deeds_next (st := newSt 64) hlt)
          have HD := Lib.hid (pair_do (kept_and (kept_duo _ _ _) (kept_dev _ _)) hP (within_fair hwi hj) (by omega) hx (Hq.out j hlt hlt).1 (Hq.out j hlt hlt).2)
          clear hx hwi hP hmax
          generalize la[j] = x at *
          go_wp2_with fail
          refine HD.out.mono ?_
          rintro e w6 ⟨rfl, hP6⟩
          have HP6 := Lib.hid hP6
          clear hP6 c0 c1 c2 c3 c4 c5 HD
          go_wp2_with fail
          go_roundw
          case rel => exact ⟨j + 1, by omega, by go_num, by rw [Hd.out]; exact HP6.out⟩
          case measure => simp [intOf]; omega
        · have hjl : j = la.length := by omega
          subst hjl
          rw [HS.out] at hP
          have hP := pair_turn hP
          have HP := Lib.hid hP
          have hfS : Fair S 50 := by rw [← HS.out]; exact Hfair.out.more ha50
          have HfS := Lib.hid hfS
          clear hP hfS Hfair hlt hj
          go_wp2_with fail
          go_loopw [18] (fun v wr => ∃ (i : Nat) (sp sq : PSt), i ≤ mx ∧ v = .int .i64 i ∧ Fair sp (50 + i) ∧ Fair sq (50 + i) ∧ Pair w wr p m sp (KDuo q k sq)) (fun v _ => mx - (intOf v).toNat)
          case atStart => exact ⟨0, S, S, by omega, rfl, HfS.out, HfS.out, HP.out⟩
          case round =>
            obtain ⟨i, sp, sq, hi, rfl, hfp, hfq, hP⟩ := hrel
            clear HP
            have HP := Lib.hid hP
            have Hfp := Lib.hid hfp
            have Hfq := Lib.hid hfq
            clear hP hfp hfq
            by_cases hlt : i < mx
            · have qi : decide (i < mx) = true := by simpa using hlt
              go_upto_region 28 with fail
              go_cut [151] (fun s wx => s = .bool false ∧ ∃ sp', Fair sp' (50 + i + 1) ∧ Pair w wx p m sp' (KDuo q k sq))
              case first =>
                by_cases h1 : i < lb.length
                · have x1 : decide (i < lb.length) = true := by simpa using h1
                  obtain ⟨b, o, rfl, hb', c0, c1, c2, c3, c4, c5⟩ := deed_cells (hb.below HP.out.below) h1
                  have hx := okb lb[i] (List.getElem_mem _)
                  generalize lb[i] = x at *
                  by_cases hk : 200 < x.keep.length
                  · have qk : decide ((x.keep.length : Int) ≤ 200) = false := by simp; omega
                    go_wp2_with fail
                    go_meet
                    exact ⟨rfl, sp, Hfp.out.more (by omega), HP.out⟩
                  have qk : decide ((x.keep.length : Int) ≤ 200) = true := by simp; omega
                  by_cases hf : 20 < x.fl.length
                  · have qf : decide ((x.fl.length : Int) ≤ 20) = false := by simp; omega
                    go_wp2_with fail
                    go_meet
                    exact ⟨rfl, sp, Hfp.out.more (by omega), HP.out⟩
                  have qf : decide ((x.fl.length : Int) ≤ 20) = true := by simp; omega
                  have HD := Lib.hid (pair_do (kept_duo _ _ _) HP.out Hfp.out (by omega) hx (by omega) (by omega))
                  have Hf1 := Lib.hid (Hfp.out.deed x (by omega))
                  clear hx
                  go_wp2_with fail
                  refine HD.out.mono ?_
                  rintro e w6 ⟨rfl, hP6⟩
                  have HP6 := Lib.hid hP6
                  clear hP6 c0 c1 c2 c3 c4 c5 HD
                  go_wp2_with fail
                  go_meet
                  exact ⟨rfl, _, Hf1.out, HP6.out⟩
                · have x1 : decide (i < lb.length) = false := by simpa using h1
                  go_wp2_with fail
                  go_meet
                  exact ⟨rfl, sp, Hfp.out.more (by omega), HP.out⟩
              case rest =>
                obtain ⟨rfl, sp', hfp', hP'⟩ := hcut
                have HP2 := Lib.hid hP'
                have Hfp2 := Lib.hid hfp'
                clear hP' hfp' HP Hfp
                go_upto_region 30 with fail
                go_cut [183] (fun s wx => s = .bool false ∧ ∃ sq', Fair sq' (50 + i + 1) ∧ Pair w wx p m sp' (KDuo q k sq'))
                case first =>
                  by_cases h1 : i < lc.length
                  · have x1 : decide (i < lc.length) = true := by simpa using h1
                    obtain ⟨b, o, rfl, hb', c0, c1, c2, c3, c4, c5⟩ := deed_cells (hc.below HP2.out.below) h1
                    have hx := okc lc[i] (List.getElem_mem _)
                    generalize lc[i] = x at *
                    by_cases hk : 200 < x.keep.length
                    · have qk : decide ((x.keep.length : Int) ≤ 200) = false := by simp; omega
                      go_wp2_with fail
                      go_meet
                      exact ⟨rfl, sq, Hfq.out.more (by omega), HP2.out⟩
                    have qk : decide ((x.keep.length : Int) ≤ 200) = true := by simp; omega
                    by_cases hf : 20 < x.fl.length
                    · have qf : decide ((x.fl.length : Int) ≤ 20) = false := by simp; omega
                      go_wp2_with fail
                      go_meet
                      exact ⟨rfl, sq, Hfq.out.more (by omega), HP2.out⟩
                    have qf : decide ((x.fl.length : Int) ≤ 20) = true := by simp; omega
                    have HD := Lib.hid (pair_do (kept_duo _ _ _) (pair_swap HP2.out) Hfq.out (by omega) hx (by omega) (by omega))
                    have Hf1 := Lib.hid (Hfq.out.deed x (by omega))
                    clear hx
                    go_wp2_with fail
                    refine HD.out.mono ?_
                    rintro e w6 ⟨rfl, hP6⟩
                    have HP6 := Lib.hid hP6
                    clear hP6 c0 c1 c2 c3 c4 c5 HD
                    go_wp2_with fail
                    go_meet
                    exact ⟨rfl, _, Hf1.out, pair_swap HP6.out⟩
                  · have x1 : decide (i < lc.length) = false := by simpa using h1
                    go_wp2_with fail
                    go_meet
                    exact ⟨rfl, sq, Hfq.out.more (by omega), HP2.out⟩
                case rest =>
                  obtain ⟨rfl, sq', hfq', hP'⟩ := hcut
                  have HP3 := Lib.hid hP'
                  have Hfq2 := Lib.hid hfq'
                  clear hP' hfq' HP2 Hfq
                  go_wp2_with fail
                  go_roundw
                  case rel => exact ⟨i + 1, sp', sq', by omega, by go_num, Hfp2.out, Hfq2.out, HP3.out⟩
                  case measure => simp [intOf]; omega
            · have qi : decide (i < mx) = false := by simpa using hlt
              have HS1 := Lib.hid (pair_same (kept_duo _ _ _) HP.out Hfp.out)
              go_wp2_with fail
              refine HS1.out.mono ?_
              rintro e w7 ⟨rfl, hP7⟩
              have HS2 := Lib.hid (pair_same (kept_duo _ _ _) (pair_swap hP7) Hfq.out)
              clear hP7 HS1
              go_wp2_with fail
              refine HS2.out.mono ?_
              rintro e w8 ⟨rfl, hP8⟩
              have HB := Lib.hid hP8.below
              clear hP8 HS2
              go_wp2_with fail
              go_ret
              exact ⟨rfl, HB.out⟩
end Go.Proofs.Ytdengokonaljpaa
