/- PlatterPlays, walked. -/
import Derived.Test.YtdengokonaljpaaPlay
import Derived.Test.YtdengokonaljpaaPawake
namespace Go.Proofs.Ytdengokonaljpaa
open Go.RowKit Go.Maps

theorem deed_cells {w : World} {B : Nat} {A : Option Addr} {l : List Deed} (h : DeedsAt w B A l) {j : Nat} (hj : j < l.length) : ∃ b o, A = some ⟨b, o, none⟩ ∧ b < B ∧
    w.cell? ⟨b, o + j * 6, none⟩ = some (.int .i64 l[j].d) ∧ w.cell? ⟨b, o + j * 6 + 1, none⟩ = some (.int .i64 l[j].n) ∧ w.cell? ⟨b, o + j * 6 + 2, none⟩ = some (.int .u8 (l[j].b : Int)) ∧ w.cell? ⟨b, o + j * 6 + 3, none⟩ = some (.int .u32 (l[j].mask : Int)) ∧
    w.cell? ⟨b, o + j * 6 + 4, none⟩ = some (.slice l[j].K l[j].keep.length l[j].ck) ∧ w.cell? ⟨b, o + j * 6 + 5, none⟩ = some (.slice l[j].Q l[j].fl.length l[j].cq) := by
  rcases h with rfl | ⟨b, o, e, hb, hc⟩
  · simp at hj
  · exact ⟨b, o, e, hb, hc j hj 0 _ rfl, hc j hj 1 _ rfl, hc j hj 2 _ rfl, hc j hj 3 _ rfl, hc j hj 4 _ rfl, hc j hj 5 _ rfl⟩

set_option maxRecDepth 10000 in
set_option maxHeartbeats 4000000 in
theorem plays_any (nb : Int) (hnb : (Lit.int .i64 nb).wf = true) (A : Option Addr) (cap : Nat) (l : List Deed) (w : World) (hsl : DeedsAt w w.heap.size A l) (hok : ∀ x ∈ l, x.ok w w.heap.size) :
    Calls Try.prog 3 #[.int .i64 nb, .slice A l.length cap] w fun e w' => e = .returned (.bool true) ∧ Below w.heap.size w w' := by
  have early : ∀ (a b c : Bool), decide (150 < (l.length : Int)) = a → decide (500 < nb) = b → decide (nb ≤ 8192) = c → (a = true ∨ b = true ∧ c = true) →
      Calls Try.prog 3 #[.int .i64 nb, .slice A l.length cap] w fun e w' => e = .returned (.bool true) ∧ Below w.heap.size w w' := by
    intro a b c h1 h2 h3 h
    clear hok hsl
    cases a <;> cases b <;> cases c <;> first
      | (simp at h; done)
      | (go_enter Try.func3, Try.ntmps3
         go_wp2_with fail
         refine (pawake _).mono ?_
         rintro e wa ⟨rfl, Ba⟩
         go_wp2_with fail
         go_ret
         exact ⟨rfl, Ba⟩)
  by_cases hbig : 150 < l.length ∨ (500 < nb ∧ nb ≤ 8192)
  · refine early _ _ _ rfl rfl rfl ?_
    rcases hbig with h | ⟨h1, h2⟩
    · exact .inl (by simp; omega)
    · exact .inr ⟨by simpa using h1, by simpa using h2⟩
  clear early
  have h150 : l.length ≤ 150 := by omega
  have q1 : decide (150 < (l.length : Int)) = false := by simp; omega
  by_cases hbad : nb < 64 ∨ 8192 < nb
  · have bad : ∀ (b c : Bool), decide (500 < nb) = b → decide (nb ≤ 8192) = c → (b = true → c = false) →
        Calls Try.prog 3 #[.int .i64 nb, .slice A l.length cap] w fun e w' => e = .returned (.bool true) ∧ Below w.heap.size w w' := by
      intro b c h2 h3 h
      clear hok hsl hbig
      cases b <;> cases c <;> first
        | (simp at h; done)
        | (go_enter Try.func3, Try.ntmps3
           go_wp2_with fail
           refine (pawake _).mono ?_
           rintro e wa ⟨rfl, Ba⟩
           go_wp2_with fail
           refine (dnew_bad nb hbad _).mono ?_
           rintro e w' ⟨rfl, rfl⟩
           go_wp2_with fail
           refine (rnew_bad nb hbad _).mono ?_
           rintro e w' ⟨rfl, rfl⟩
           go_wp2_with fail
           go_ret
           exact ⟨rfl, Ba⟩)
    exact bad _ _ rfl rfl (fun h => by simp at h; simp; omega)
  obtain ⟨n, rfl⟩ : ∃ n : Nat, nb = n := ⟨nb.toNat, by omega⟩
  have hn1 : 64 ≤ n := by omega
  have hn2 : n ≤ 500 := by omega
  have q2 : decide (500 < (n : Int)) = false := by simp; omega
  clear hbig hbad
  go_enter Try.func3, Try.ntmps3
  go_wp2_with fail
  refine (pawake _).mono ?_
  rintro e wa ⟨rfl, Ba⟩
  go_wp2_with fail
  refine (play_new Ba hn1 (by omega)).mono ?_
  rintro e w1 ⟨rfl, hnew⟩
  have Hnew := Lib.hid hnew
  clear hnew
  go_wp2_with fail
  refine Hnew.out.mono ?_
  rintro e w2 ⟨rfl, hP⟩
  generalize wa.heap.size + 1 = p at *
  generalize w1.heap.size = m at *
  have HP := Lib.hid hP
  clear hP Hnew Ba
  go_wp2_with fail
  go_loopw [9] (fun v wr => ∃ j : Nat, j ≤ l.length ∧ v = .int .i64 j ∧ Play w wr p m (deeds (newSt n) l j) ∧ ∀ i (hi : i < l.length), i < j → l[i].fl.length ≤ 20) (fun v _ => l.length - (intOf v).toNat)
  case atStart => exact ⟨0, by omega, rfl, HP.out, fun _ _ h => by omega⟩
  case round =>
    obtain ⟨j, hj, rfl, hP, hq⟩ := hrel
    clear HP
    by_cases hlt : j < l.length
    · obtain ⟨b, o, rfl, hb, c0, c1, c2, c3, c4, c5⟩ := deed_cells (hsl.below hP.below) hlt
      have hx := hok l[j] (List.getElem_mem _)
      have Hd := Lib.hid (deeds_next (st := newSt n) hlt)
      have hfair := fair_deeds (fair_new (n := n) (by omega) (by omega)) j hj hq
      have Hq : l[j].fl.length ≤ 20 → ∀ i (hi : i < l.length), i < j + 1 → l[i].fl.length ≤ 20 := fun h i hi hij => by
        by_cases e : i = j
        · subst e; exact h
        · exact hq i hi (by omega)
      have HQ := Lib.hid Hq
      have HP := Lib.hid hP
      generalize hS : deeds (newSt n) l j = S at *
      clear hS hok hsl hq Hq hP
      generalize l[j] = x at *
      by_cases hk : 200 < x.keep.length
      · have qk : decide (200 < (x.keep.length : Int)) = true := by simp; omega
        go_wp2_with fail
        go_ret
        exact ⟨rfl, HP.out.below⟩
      have qk : decide (200 < (x.keep.length : Int)) = false := by simp; omega
      by_cases hf : 20 < x.fl.length
      · have qf : decide (20 < (x.fl.length : Int)) = true := by simp; omega
        go_wp2_with fail
        go_ret
        exact ⟨rfl, HP.out.below⟩
      have qf : decide (20 < (x.fl.length : Int)) = false := by simp; omega
      have HD := Lib.hid (play_do HP.out hfair (by omega) hx (by omega) (by omega))
      have Hf1 := Lib.hid (hfair.deed x (by omega))
      have hf20 : x.fl.length ≤ 20 := by omega
      clear hx hfair HP
      go_wp2_with fail
      refine HD.out.mono ?_
      rintro e w3 ⟨rfl, hP3⟩
      have HS := Lib.hid (play_same hP3 Hf1.out)
      clear hP3 c0 c1 c2 c3 c4 c5
      go_wp2_with fail
      refine HS.out.mono ?_
      rintro e w4 ⟨rfl, hP4⟩
      have HP4 := Lib.hid hP4
      clear hP4
      go_wp2_with fail
      go_roundw
      case rel => exact ⟨j + 1, by omega, by go_num, by rw [Hd.out]; exact HP4.out, HQ.out hf20⟩
      case measure => simp [intOf]; omega
    · have hjl : j = l.length := by omega
      subst hjl
      have qd : decide (l.length < l.length) = false := by simp
      have hfair := fair_deeds (fair_new (n := n) (by omega) (by omega)) l.length hj hq
      have Hcp := Lib.hid (play_copy hP hfair (by omega))
      generalize hS : deeds (newSt n) l l.length = S at *
      clear hS hok hsl hq hP hlt hj
      go_wp2_with fail
      refine Hcp.out.mono ?_
      rintro e w3 ⟨q, rfl, hP3, hq3⟩
      have Hq3 := Lib.hid hq3
      have Hp3 := Lib.hid (play_cached hP3)
      have Hnf := Lib.hid (play_nofail hP3 hfair (by omega))
      have Hpf := Lib.hid (fair_plans hfair)
      clear hP3 hq3 hfair Hcp
      go_wp2_with fail
      refine Hq3.out.mono ?_
      rintro e w' ⟨rfl, rfl⟩
      go_wp2_with fail
      refine Hp3.out.mono ?_
      rintro e w' ⟨rfl, rfl⟩
      go_wp2_with fail
      refine Hnf.out.mono ?_
      rintro e w5 ⟨rfl, hm5⟩
      have Hm5 := Lib.hid hm5
      clear hm5
      go_wp2_with fail
      refine Hm5.out.mono ?_
      rintro e w6 ⟨rfl, hP6⟩
      have HP6 := Lib.hid hP6
      clear hP6 Hm5 Hnf Hq3 Hp3
      go_wp2_with fail
      go_loopw [11] (fun v wr => ∃ r : Nat, r ≤ 70 ∧ v = .int .i64 r ∧ Play w wr p m (reads (S.plans []) r)) (fun v _ => 70 - (intOf v).toNat)
      case atStart => exact ⟨0, by omega, rfl, HP6.out⟩
      case round =>
        obtain ⟨r, hr, rfl, hP⟩ := hrel
        have hfr := fair_reads Hpf.out r
        obtain ⟨A1, c1, x0⟩ := play_cell hP
        obtain ⟨bl, hbl⟩ : ∃ bl, (reads (S.plans []) r).blocks.length = bl := ⟨_, rfl⟩
        rw [hbl] at x0
        have Hbl := Lib.hid hbl
        have HP := Lib.hid hP
        clear hbl hP
        by_cases h1 : r < bl
        · have q1' : decide (r < bl) = true := by simpa using h1
          by_cases h2 : r < 70
          · have q2' : decide ((r : Int) < 70) = true := by simp; omega
            have HD := Lib.hid (play_read HP.out hfr (by omega) r (by omega))
            clear hfr
            go_wp2_with fail
            refine HD.out.mono ?_
            rintro e w7 ⟨rfl, hP7⟩
            have HP7 := Lib.hid hP7
            clear hP7
            go_wp2_with fail
            go_roundw
            case rel => exact ⟨r + 1, by omega, by go_num, HP7.out⟩
            case measure => simp [intOf]; omega
          · have q2' : decide ((r : Int) < 70) = false := by simp; omega
            go_wp2_with fail
            go_ret
            exact ⟨rfl, HP.out.below⟩
        · have q1' : decide (r < bl) = false := by simpa using h1
          go_wp2_with fail
          go_ret
          exact ⟨rfl, HP.out.below⟩
end Go.Proofs.Ytdengokonaljpaa
