/- The program's Kraft, valid and Cost. -/
import Derived.Test.YtnkgcibdibgmjaaDepc
namespace Go.Proofs.Ytnkgcibdibgmjaa
open Go.RowKit

/-- A cell of an array of 256 ints that is held by value. -/
theorem indexV {C : Array Value} {l : List Int} (hC : C = ints l) (hl : l.length = 256) {k : Nat} (hk : k < 256) (w : World) : (Instr.index 50 (.agg C) (.int .i64 (k : Int))).run Try.prog w = .ok (.int .i64 (l.getD k 0)) w := by
  have h1 : 0 ≤ (k : Int) ∧ (k : Int) < 256 := by omega
  have hu := Try.underlying50
  have h0 : C[k]? = some (.int .i64 (l.getD k 0)) := by rw [hC]; exact ints_at (by omega)
  clear hC
  simp [Instr.index, run_underlying hu, asIntOf, h0, go_sem]
  omega

theorem shr2048 {n : Nat} (h0 : 0 < n) (h : n ≤ 11) : (2048 : Int) / 2 ^ n = ((2 ^ (11 - n) : Nat) : Int) := by
  have : n = 1 ∨ n = 2 ∨ n = 3 ∨ n = 4 ∨ n = 5 ∨ n = 6 ∨ n = 7 ∨ n = 8 ∨ n = 9 ∨ n = 10 ∨ n = 11 := by omega
  rcases this with rfl | rfl | rfl | rfl | rfl | rfl | rfl | rfl | rfl | rfl | rfl <;> rfl

set_option maxRecDepth 4000 in
set_option maxHeartbeats 4000000 in
theorem kraft_is : KraftC := by
  intro w l hl
  obtain ⟨t, N, ht, hN, hagg, hix, hund, hsz, -⟩ := t256
  obtain ⟨C, hC⟩ : ∃ C, C = ints l := ⟨_, rfl⟩
  rw [← hC]
  have Iv := Lib.hid (fun (k : Nat) (hk : k < 256) (w : World) => indexV hC hl hk w)
  have E1 : ∀ a, Op.box 50 a = Op.box t a := by rw [ht]; exact fun _ => rfl
  have E2 : ∀ a, Op.load 50 a = Op.load t a := by rw [ht]; exact fun _ => rfl
  have E3 : ∀ a b, Op.index 50 a b = Op.index t a b := by rw [ht]; exact fun _ _ => rfl
  rw [← ht] at Iv
  have ld : (loadCellsFrom ⟨w.heap.size, 0, none⟩ 0 N #[]).run Try.prog (w.alloc (.cells C t)) = .ok C (w.alloc (.cells C t)) := load_blk (by rw [hC, ints_size, hl, hN]) (Blk.new _ _ _)
  have HB := Lib.hid (show Below w.heap.size w (w.alloc (.cells C t)) from (Below.refl _ _).alloc (Nat.le_refl _) _)
  clear ht hix hC hN
  go_enter Try.func45, Try.ntmps45
  simp only [E1, E2, E3]
  clear E1 E2 E3
  go_wp2_with fail
  generalize w.alloc (.cells C t) = W at *
  have Hl := Lib.hid hl
  go_loop [4, 8] (fun v i => ∃ k : Nat, k ≤ 256 ∧ i = .int .i64 k ∧ v = .int .i64 ((ksum (l.take k) : Nat) : Int) ∧ (l.take k).any kbad = false) (fun _ i => 256 - (intOf i).toNat)
  case atStart => exact ⟨0, by decide, rfl, rfl, rfl⟩
  case round =>
    obtain ⟨k, hk, rfl, rfl, hb⟩ := hrel
    have Hb := Lib.hid hb
    have hks := ksum_le (l.take k)
    rw [List.length_take] at hks
    clear hb
    by_cases hlt : k < 256
    · have q0 : decide ((k : Int) < 256) = true := by rw [decide_eq_true_eq]; omega
      have q0' : decide (k < 256) = true := by rw [decide_eq_true_eq]; omega
      have ix := Iv.out k hlt W
      have hkl : k < l.length := by omega
      have Kn := Lib.hid (ksum_next hkl)
      have Kb := Lib.hid (kbad_next hkl)
      have Ko := Lib.hid (kbad_one hkl)
      generalize l.getD k 0 = x at *
      generalize hS : ksum (l.take k) = S at *
      have hSb : S ≤ 524288 := by omega
      clear hks hS hkl
      by_cases hx : kbad x = true
      · have hv : kraftV l = (0, false) := by unfold kraftV; rw [if_pos (Ko.out hx)]
        have Hv := Lib.hid hv
        have early : x < 0 ∨ 11 < x := by unfold kbad at hx; simpa using hx
        clear hv hx Ko Kn Kb
        by_cases h0 : x < 0
        · have p1 : decide (x < 0) = true := by simpa using h0
          clear early h0
          go_wp2_with fail
          go_returns
          exact ⟨by rw [Hv.out]; rfl, HB.out⟩
        · have p1 : decide (x < 0) = false := by simpa using h0
          have p2 : decide (11 < x) = true := by simp; omega
          clear early h0
          go_wp2_with fail
          go_returns
          exact ⟨by rw [Hv.out]; rfl, HB.out⟩
      · have hx' : 0 ≤ x ∧ x ≤ 11 := by unfold kbad at hx; simp at hx; omega
        obtain ⟨n, rfl⟩ : ∃ n : Nat, x = n := ⟨x.toNat, by omega⟩
        have hkb : kbad (n : Int) = false := by simpa using hx
        have p1 : decide ((n : Int) < 0) = false := by simp
        have p2 : decide (11 < (n : Int)) = false := by rw [decide_eq_false_iff_not]; omega
        have p2' : decide (11 < n) = false := by rw [decide_eq_false_iff_not]; omega
        have hn : n ≤ 11 := by omega
        have Kb2 := Lib.hid (show (l.take (k + 1)).any kbad = false by rw [Kb.out, Hb.out, hkb]; rfl)
        clear hx hx' hkb Ko Kb
        by_cases h0 : n = 0
        · subst h0
          have Kn2 := Lib.hid (show ksum (l.take (k + 1)) = S by rw [Kn.out]; rfl)
          clear Kn
          go_wp2_with fail
          go_round
          case rel => exact ⟨k + 1, by omega, by go_num, by rw [Kn2.out], Kb2.out⟩
          case measure => simp [intOf]; omega
        · have p3 : decide (0 < (n : Int)) = true := by rw [decide_eq_true_eq]; omega
          have p3' : decide (0 < n) = true := by rw [decide_eq_true_eq]; omega
          have hp : 2 ^ (11 - n) ≤ 1024 := Nat.pow_le_pow_right (n := 2) (by decide) (show 11 - n ≤ 10 by omega)
          obtain ⟨Q, hQ⟩ : ∃ Q : Nat, Q = 2 ^ (11 - n) := ⟨_, rfl⟩
          have hQi : (2048 : Int) / 2 ^ n = (Q : Int) := by rw [shr2048 (by omega) hn, hQ]
          have hQb : Q ≤ 1024 := by omega
          have Kn2 := Lib.hid (show ksum (l.take (k + 1)) = S + Q by rw [Kn.out]; unfold kterm; rw [if_pos (by omega), Int.toNat_natCast, hQ])
          clear Kn h0 hQ hp
          set_option maxRecDepth 4000 in
          go_wp2_with fail
          go_round
          case rel => exact ⟨k + 1, by omega, by go_num, by rw [Kn2.out]; go_num, Kb2.out⟩
          case measure => simp [intOf]; omega
    · have hk6 : k = 256 := by omega
      subst hk6
      have hv : kraftV l = (ksum l, true) := by
        have := Hb.out
        rw [List.take_of_length_le (by omega)] at this
        unfold kraftV; rw [if_neg (by rw [this]; decide)]
      have hS2 : ksum (l.take 256) = ksum l := by rw [List.take_of_length_le (by omega)]
      have Hv := Lib.hid hv
      have HS2 := Lib.hid hS2
      clear hv hS2 hks
      generalize ksum (l.take 256) = S at *
      go_wp2_with fail
      go_returns
      exact ⟨by rw [Hv.out, ← HS2.out]; rfl, HB.out⟩

set_option maxRecDepth 4000 in
set_option maxHeartbeats 4000000 in
theorem valid_any (l : List Int) (hl : l.length = 256) (w : World) :
    Calls Try.prog 41 #[.agg (ints l)] w fun e w' => e = .returned (.bool (!l.any cbad)) ∧ Below w.heap.size w w' := by
  obtain ⟨t, N, ht, hN, hagg, hix, hund, hsz, -⟩ := t256
  obtain ⟨C, hC⟩ : ∃ C, C = ints l := ⟨_, rfl⟩
  rw [← hC]
  have Iv := Lib.hid (fun (k : Nat) (hk : k < 256) (w : World) => indexV hC hl hk w)
  have E1 : ∀ a, Op.box 50 a = Op.box t a := by rw [ht]; exact fun _ => rfl
  have E2 : ∀ a, Op.load 50 a = Op.load t a := by rw [ht]; exact fun _ => rfl
  have E3 : ∀ a b, Op.index 50 a b = Op.index t a b := by rw [ht]; exact fun _ _ => rfl
  rw [← ht] at Iv
  have ld : (loadCellsFrom ⟨w.heap.size, 0, none⟩ 0 N #[]).run Try.prog (w.alloc (.cells C t)) = .ok C (w.alloc (.cells C t)) := load_blk (by rw [hC, ints_size, hl, hN]) (Blk.new _ _ _)
  have HB := Lib.hid (show Below w.heap.size w (w.alloc (.cells C t)) from (Below.refl _ _).alloc (Nat.le_refl _) _)
  clear ht hix hC hN
  go_enter Try.func41, Try.ntmps41
  simp only [E1, E2, E3]
  clear E1 E2 E3
  go_wp2_with fail
  generalize w.alloc (.cells C t) = W at *
  have Hl := Lib.hid hl
  go_loop [6] (fun i => ∃ k : Nat, k ≤ 256 ∧ i = .int .i64 k ∧ (l.take k).any cbad = false) (fun i => 256 - (intOf i).toNat)
  case atStart => exact ⟨0, by decide, rfl, rfl⟩
  case round =>
    obtain ⟨k, hk, rfl, hb⟩ := hrel
    have Hb := Lib.hid hb
    clear hb
    by_cases hlt : k < 256
    · have q0 : decide ((k : Int) < 256) = true := by rw [decide_eq_true_eq]; omega
      have q0' : decide (k < 256) = true := by rw [decide_eq_true_eq]; omega
      have ix := Iv.out k hlt W
      have hkl : k < l.length := by omega
      have Kb := Lib.hid (cbad_next hkl)
      have Ko := Lib.hid (fun h : cbad (l.getD k 0) = true => (List.any_eq_true.2 ⟨l[k], List.getElem_mem hkl, by rw [List.getD_eq_getElem?_getD, List.getElem?_eq_getElem hkl] at h; exact h⟩ : l.any cbad = true))
      generalize l.getD k 0 = x at *
      clear hkl
      by_cases hx : cbad x = true
      · have hv : l.any cbad = true := Ko.out hx
        have Hv := Lib.hid hv
        have early : x < 0 ∨ 1048576 < x := by unfold cbad at hx; simpa using hx
        clear hv hx Ko Kb
        by_cases h0 : x < 0
        · have p1 : decide (x < 0) = true := by simpa using h0
          clear early h0
          go_wp2_with fail
          go_ret
          exact ⟨by rw [Hv.out]; rfl, HB.out⟩
        · have p1 : decide (x < 0) = false := by simpa using h0
          have p2 : decide (1048576 < x) = true := by simp; omega
          clear early h0
          go_wp2_with fail
          go_ret
          exact ⟨by rw [Hv.out]; rfl, HB.out⟩
      · have hx' : 0 ≤ x ∧ x ≤ 1048576 := cbad_no hx
        have hcb : cbad x = false := by simpa using hx
        have p1 : decide (x < 0) = false := by rw [decide_eq_false_iff_not]; omega
        have p2 : decide (1048576 < x) = false := by rw [decide_eq_false_iff_not]; omega
        have Kb2 := Lib.hid (show (l.take (k + 1)).any cbad = false by rw [Kb.out, Hb.out, hcb]; rfl)
        clear hx hx' hcb Ko Kb
        go_wp2_with fail
        go_round
        case rel => exact ⟨k + 1, by omega, by go_num, Kb2.out⟩
        case measure => simp [intOf]; omega
    · have hk6 : k = 256 := by omega
      subst hk6
      have hv : l.any cbad = false := by
        have := Hb.out
        rwa [List.take_of_length_le (by omega)] at this
      have Hv := Lib.hid hv
      clear hv
      go_wp2_with fail
      go_ret
      exact ⟨by rw [Hv.out]; rfl, HB.out⟩

theorem csum_next {c l : List Int} (h : c.any cbad = false) {k : Nat} (hk : k < c.length) : csum c l (k + 1) = csum c l k + c.getD k 0 * l.getD k 0 := by
  have : ¬ cbad (c.getD k 0) = true := fun hb => by
    have : c.any cbad = true := List.any_eq_true.2 ⟨c[k], List.getElem_mem hk, by rw [List.getD_eq_getElem?_getD, List.getElem?_eq_getElem hk] at hb; exact hb⟩
    rw [h] at this; cases this
  rw [show csum c l (k + 1) = (if cbad (c.getD k 0) then csum c l k else csum c l k + c.getD k 0 * l.getD k 0) from rfl, if_neg this]

end Go.Proofs.Ytnkgcibdibgmjaa
