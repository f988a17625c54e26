/- LeafTells returns true for all arguments; the memory that was there stays as it is. -/
import Derived.Test.YtpicalkcgioimaaLupd
import Derived.Test.YtpicalkcgioimaaLmakes
import Derived.BigRegion
namespace Go.Proofs.Ytpicalkcgioimaa
open Go.RowKit Crc

/-- Where the statement changes the frame. -/
def place (x : Nat) : Nat := if x < 12 ∧ 4 < x then 4 else if 12 < x ∧ x < 16 then 12 else x
theorem place_ok (x : Nat) : place x ≤ 4 ∨ place x = 12 ∨ 16 ≤ place x := by
  unfold place
  split
  · omega
  · split <;> omega
theorem place_le (x : Nat) : place x ≤ x := by
  unfold place
  split
  · omega
  · split <;> omega

set_option maxRecDepth 4000 in
set_option maxHeartbeats 8000000 in
theorem tells_case {w : World} {A : Option Addr} {c : Nat} {d : List Nat} (hby : By w A c d) (hd : d.length ≤ 4096) (k : Nat) (hk : k < 256) (a m x : Nat) (h0 : 0 < m) (hm : m < 4294967296)
    (hx : x = a % ((frameB k 5 d).length - 3)) (b1 b2 b3 b4 : Bool) (e1 : decide (x < 12) = b1) (e2 : decide (4 < x) = b2) (e3 : decide (12 < x) = b3) (e4 : decide (x < 16) = b4) :
    Calls Try.prog 5 #[.int .u8 (k : Int), .slice A d.length c, .agg #[.int .u32 (a : Int), .int .u32 (m : Int)]] w fun e w' => e = .returned (.bool true) ∧ Below w.heap.size w w' := by
  have q1 : decide (4096 < (d.length : Int)) = false := by simp; omega
  have q2 : decide (4096 < d.length) = false := by simp; omega
  have q3 : ((m : Int) == 0) = false := by simp; omega
  have HY := Lib.hid hby
  obtain ⟨n, hn⟩ : ∃ n, n = d.length := ⟨_, rfl⟩
  obtain ⟨F, hF⟩ : ∃ F, F = frameB k 5 d := ⟨_, rfl⟩
  obtain ⟨M, hM⟩ : ∃ M, M = F.length := ⟨_, rfl⟩
  have hM64 : 64 ≤ M := by rw [hM, hF]; exact fr_long k 5 d
  have hMb : M ≤ 4160 := by rw [hM, hF]; exact frame_small hd
  have hFb : ∀ y ∈ F, y < 256 := by rw [hF]; exact frameB_lt hk 5 hby.lt
  rw [← hF, ← hM] at hx
  have hxM : x + 4 ≤ M := by have := Nat.mod_lt a (show 0 < M - 3 by omega); omega
  have hxa : (a : Int) % ((M : Int) - 3) = (x : Int) := by
    rw [hx, Int.natCast_emod]; congr 1; omega
  obtain ⟨p, hp⟩ : ∃ p, p = place x := ⟨_, rfl⟩
  have hpM : p + 4 ≤ M := by have := place_le x; omega
  have hE : openE (upd F p m 4) k ≠ 0 := by
    rw [hF]; exact told hk hby.lt hd h0 hm (by rw [hp]; exact place_ok x) (by rw [← hF, ← hM]; exact hpM) k
  obtain ⟨E, hEE⟩ : ∃ E, openE (upd F p m 4) k = E := ⟨_, rfl⟩
  rw [hEE] at hE
  have z1 : decide ((x : Int) < 12) = b1 := by rw [← e1, decide_eq_decide]; omega
  have z2 : decide (4 < (x : Int)) = b2 := by rw [← e2, decide_eq_decide]; omega
  have z3 : decide (12 < (x : Int)) = b3 := by rw [← e3, decide_eq_decide]; omega
  have z4 : decide ((x : Int) < 16) = b4 := by rw [← e4, decide_eq_decide]; omega
  have C1 : ∀ W, By W A c d → Calls Try.prog 10 #[.int .u8 (k : Int), .int .i64 5, .slice A n c] W fun e w' => ∃ A c, e = .returned (.tuple #[.slice A M c, .int .i64 0]) ∧ By w' A c F ∧ Below W.heap.size W w' ∧ w'.ownsRow W.heap.size 5 1 (.slice A M c) M (byts F) := fun W h =>
    (make_by k hk _ rfl 5 _ rfl (by decide) h hd n hn).mono fun e w' ⟨A, c, he, hb, hw, ho⟩ => ⟨A, c, by rw [he, hM, hF], by rw [hF]; exact hb, hw, by rw [hM, hF]; exact ho⟩
  have C2 : ∀ W A c, By W A c (upd F p m 4) → Calls Try.prog 14 #[.slice A M c, .int .u8 (k : Int)] W (OpenNo E W) := fun W A c h => open_no h k _ rfl M (by rw [upd_length, hM]) E hEE hE
  have hE1 : ((E : Int) != 0) = true := by simp; omega
  have hE2 : (E != 0) = true := by simp; omega
  have H1 := Lib.hid C1
  have H2 := Lib.hid C2
  have Hn := Lib.hid hn
  have HM := Lib.hid hM
  have HFb := Lib.hid hFb
  have hbx : Below w.heap.size w (w.alloc (.cells #[.int .u32 (a : Int), .int .u32 (m : Int)] 41)) := (Below.refl _ _).alloc (Nat.le_refl _) _
  obtain ⟨wb, hwb⟩ : ∃ wb, wb = w.alloc (.cells #[.int .u32 (a : Int), .int .u32 (m : Int)] 41) := ⟨_, rfl⟩
  have hc0 : wb.cell? ⟨w.heap.size, 0, none⟩ = some (.int .u32 (a : Int)) := by rw [hwb]; exact cell_fresh rfl
  have hc1 : wb.cell? ⟨w.heap.size, 1, none⟩ = some (.int .u32 (m : Int)) := by rw [hwb]; exact cell_fresh rfl
  have hlt : w.heap.size < wb.heap.size := by rw [hwb]; simp
  rw [← hwb] at hbx
  have HYb := Lib.hid (hby.below hbx)
  have HBx := Lib.hid hbx
  have Cell0 := Lib.hid (fun W (hb : Below wb.heap.size wb W) => (hb.cell (p := ⟨w.heap.size, 0, none⟩) hlt).trans hc0)
  have Cell1 := Lib.hid (fun W (hb : Below wb.heap.size wb W) => (hb.cell (p := ⟨w.heap.size, 1, none⟩) hlt).trans hc1)
  have Hp := Lib.hid hp
  have HW := Lib.hid hwb
  rw [← hn]
  rw [← hn] at q1 q2
  have hpx := hp
  unfold place at hpx
  clear C1 C2 hM hF hby hn HY hFb hEE hE hx hc0 hc1 hbx hd hk
  have ebox : w.alloc (.cells #[.int .u32 (a : Int), .int .u32 (m : Int)] 41) = wb := hwb.symm
  clear hwb hp
  have fin : p = if b1 && b2 then 4 else if b3 && b4 then 12 else x := by
    rw [hpx, ← e1, ← e2, ← e3, ← e4]; simp
  clear hpx
  go_enter Try.func5, Try.ntmps5
  go_wp2_with fail
  refine (awake_any _).mono ?_
  rintro e w1 ⟨rfl, hb1⟩
  have cc1 := Cell1.out w1 hb1
  have HB1 := Lib.hid hb1
  have HY1 := Lib.hid (HYb.out.below hb1)
  clear hb1 HYb ebox HW
  go_wp2_with fail
  refine (H1.out _ HY1.out).mono ?_
  rintro e w2 ⟨A2, c2, rfl, -, b2', o2⟩
  obtain ⟨g, rfl, hgB⟩ : ∃ g, A2 = some ⟨g, 0, none⟩ ∧ w1.heap.size ≤ g := by
    rcases o2.2 with ⟨_, h0⟩ | ⟨g, cap2, _, hv, hbg, _⟩
    · omega
    · injection hv with hv; exact ⟨g, hv, hbg⟩
  have hcap : M ≤ c2 := own_len o2
  have cc0 := Cell0.out w2 (HB1.out.trans (b2'.mono HB1.out.size))
  have HB2 := Lib.hid (HB1.out.trans (b2'.mono HB1.out.size))
  have O2 := Lib.hid o2
  have hgw : wb.heap.size ≤ g := Nat.le_trans HB1.out.size hgB
  clear cc1 b2' o2 H1 HY1 HB1
  have qM : ((M : Int) == 0) = false := by simp; omega
  have qL : decide ((M : Int) < 64) = false := by simp; omega
  have qL' : decide (M < 64) = false := by simp; omega
  have five : (b1 = true ∧ b2 = true ∧ p = 4) ∨ (b1 = true ∧ b2 = false ∧ b3 = false ∧ p = x) ∨ (b1 = false ∧ b3 = false ∧ p = x) ∨ (b1 = false ∧ b3 = true ∧ b4 = true ∧ p = 12) ∨ (b1 = false ∧ b3 = true ∧ b4 = false ∧ p = x) := by
    cases b1 <;> cases b2 <;> cases b3 <;> cases b4 <;> simp_all <;> omega
  clear fin
  rcases five with ⟨rfl, rfl, h⟩ | ⟨rfl, rfl, rfl, h⟩ | ⟨rfl, rfl, h⟩ | ⟨rfl, rfl, rfl, h⟩ | ⟨rfl, rfl, rfl, h⟩
  · subst h
    go_wp2_with fail
    go_loopw [10] (fun i wr => ∃ j : Nat, j ≤ 4 ∧ i = .int .i64 j ∧ wr.ownsRow w1.heap.size 5 1 (.slice (some ⟨g, 0, none⟩) M c2) M (byts (upd F 4 m j)) ∧ Below wb.heap.size wb wr) (fun i _ => 4 - (intOf i).toNat)
    case atStart => exact ⟨0, by omega, rfl, O2.out, HB2.out⟩
    case round =>
      obtain ⟨j, hj, rfl, hrow, hbr⟩ := hrel
      have HBR := Lib.hid hbr
      have hul := upd_length F 4 m j
      by_cases hlt : j < 4
      · have hcell := hrow.cellAt (4 + j) (by omega)
        have hfz := hrow.frozenAt (4 + j)
        have hst := hrow.stored (4 + j) (.int .u8 (((upd F 4 m j).getD (4 + j) 0 ^^^ m / 2 ^ (8 * j) % 256 : Nat) : Int))
        rw [byts_set] at hst
        have Hst := Lib.hid hst
        have hcv : (byts (upd F 4 m j))[4 + j]? = some (.int .u8 (((upd F 4 m j).getD (4 + j) 0 : Nat) : Int)) := byts_at (by rw [hul, ← HM.out]; omega)
        rw [hcv] at hcell
        have Hup := Lib.hid (show upd F 4 m (j + 1) = (upd F 4 m j).set (4 + j) ((upd F 4 m j).getD (4 + j) 0 ^^^ m / 2 ^ (8 * j) % 256) from rfl)
        have Hxv := Lib.hid (xor_val (upd_lt HFb.out 4 m j (4 + j)) m (8 * j))
        have hbox := Cell1.out wr hbr
        clear hst hrow hcv hbr cc0 hul
        generalize (upd F 4 m j).getD (4 + j) 0 = v at *
        go_wp2_with fail
        go_region
        go_wp2_with fail
        go_roundw
        case rel => exact ⟨j + 1, by omega, by go_num, by rw [Hxv.out, Hup.out]; exact Hst.out.1.drew, by rw [Hxv.out]; exact (HBR.out.grown Hst.out.2 HBR.out.size (fun g' hg' => by injection hg' with hg'; omega)).drew⟩
        case measure => simp [intOf]; omega
      · have h4 : j = 4 := by omega
        subst h4
        have F4 := Lib.hid (By.of_own hrow (upd_bytes HFb.out 4 m 4) (by rw [hul, ← HM.out]; omega))
        clear hrow hbr cc0 hul
        go_wp2_with fail
        refine (H2.out _ _ _ F4.out).mono ?_
        rintro e w9 ⟨rfl, b9⟩
        have HB9 := Lib.hid (HBR.out.trans (b9.mono HBR.out.size))
        clear b9
        go_wp2_with fail
        go_ret
        exact ⟨rfl, HBx.out.trans (HB9.out.mono HBx.out.size)⟩
  · subst h
    go_wp2_with fail
    go_loopw [10] (fun i wr => ∃ j : Nat, j ≤ 4 ∧ i = .int .i64 j ∧ wr.ownsRow w1.heap.size 5 1 (.slice (some ⟨g, 0, none⟩) M c2) M (byts (upd F p m j)) ∧ Below wb.heap.size wb wr) (fun i _ => 4 - (intOf i).toNat)
    case atStart => exact ⟨0, by omega, rfl, O2.out, HB2.out⟩
    case round =>
      obtain ⟨j, hj, rfl, hrow, hbr⟩ := hrel
      have HBR := Lib.hid hbr
      have hul := upd_length F p m j
      by_cases hlt : j < 4
      · have hcell := hrow.cellAt (p + j) (by omega)
        have hfz := hrow.frozenAt (p + j)
        have hst := hrow.stored (p + j) (.int .u8 (((upd F p m j).getD (p + j) 0 ^^^ m / 2 ^ (8 * j) % 256 : Nat) : Int))
        rw [byts_set] at hst
        have Hst := Lib.hid hst
        have hcv : (byts (upd F p m j))[p + j]? = some (.int .u8 (((upd F p m j).getD (p + j) 0 : Nat) : Int)) := byts_at (by rw [hul, ← HM.out]; omega)
        rw [hcv] at hcell
        have Hup := Lib.hid (show upd F p m (j + 1) = (upd F p m j).set (p + j) ((upd F p m j).getD (p + j) 0 ^^^ m / 2 ^ (8 * j) % 256) from rfl)
        have Hxv := Lib.hid (xor_val (upd_lt HFb.out p m j (p + j)) m (8 * j))
        have hbox := Cell1.out wr hbr
        clear hst hrow hcv hbr cc0 hul
        generalize (upd F p m j).getD (p + j) 0 = v at *
        go_wp2_with fail
        go_region
        go_wp2_with fail
        go_roundw
        case rel => exact ⟨j + 1, by omega, by go_num, by rw [Hxv.out, Hup.out]; exact Hst.out.1.drew, by rw [Hxv.out]; exact (HBR.out.grown Hst.out.2 HBR.out.size (fun g' hg' => by injection hg' with hg'; omega)).drew⟩
        case measure => simp [intOf]; omega
      · have h4 : j = 4 := by omega
        subst h4
        have F4 := Lib.hid (By.of_own hrow (upd_bytes HFb.out p m 4) (by rw [hul, ← HM.out]; omega))
        clear hrow hbr cc0 hul
        go_wp2_with fail
        refine (H2.out _ _ _ F4.out).mono ?_
        rintro e w9 ⟨rfl, b9⟩
        have HB9 := Lib.hid (HBR.out.trans (b9.mono HBR.out.size))
        clear b9
        go_wp2_with fail
        go_ret
        exact ⟨rfl, HBx.out.trans (HB9.out.mono HBx.out.size)⟩
  · subst h
    go_wp2_with fail
    go_loopw [10] (fun i wr => ∃ j : Nat, j ≤ 4 ∧ i = .int .i64 j ∧ wr.ownsRow w1.heap.size 5 1 (.slice (some ⟨g, 0, none⟩) M c2) M (byts (upd F p m j)) ∧ Below wb.heap.size wb wr) (fun i _ => 4 - (intOf i).toNat)
    case atStart => exact ⟨0, by omega, rfl, O2.out, HB2.out⟩
    case round =>
      obtain ⟨j, hj, rfl, hrow, hbr⟩ := hrel
      have HBR := Lib.hid hbr
      have hul := upd_length F p m j
      by_cases hlt : j < 4
      · have hcell := hrow.cellAt (p + j) (by omega)
        have hfz := hrow.frozenAt (p + j)
        have hst := hrow.stored (p + j) (.int .u8 (((upd F p m j).getD (p + j) 0 ^^^ m / 2 ^ (8 * j) % 256 : Nat) : Int))
        rw [byts_set] at hst
        have Hst := Lib.hid hst
        have hcv : (byts (upd F p m j))[p + j]? = some (.int .u8 (((upd F p m j).getD (p + j) 0 : Nat) : Int)) := byts_at (by rw [hul, ← HM.out]; omega)
        rw [hcv] at hcell
        have Hup := Lib.hid (show upd F p m (j + 1) = (upd F p m j).set (p + j) ((upd F p m j).getD (p + j) 0 ^^^ m / 2 ^ (8 * j) % 256) from rfl)
        have Hxv := Lib.hid (xor_val (upd_lt HFb.out p m j (p + j)) m (8 * j))
        have hbox := Cell1.out wr hbr
        clear hst hrow hcv hbr cc0 hul
        generalize (upd F p m j).getD (p + j) 0 = v at *
        go_wp2_with fail
        go_region
        go_wp2_with fail
        go_roundw
        case rel => exact ⟨j + 1, by omega, by go_num, by rw [Hxv.out, Hup.out]; exact Hst.out.1.drew, by rw [Hxv.out]; exact (HBR.out.grown Hst.out.2 HBR.out.size (fun g' hg' => by injection hg' with hg'; omega)).drew⟩
        case measure => simp [intOf]; omega
      · have h4 : j = 4 := by omega
        subst h4
        have F4 := Lib.hid (By.of_own hrow (upd_bytes HFb.out p m 4) (by rw [hul, ← HM.out]; omega))
        clear hrow hbr cc0 hul
        go_wp2_with fail
        refine (H2.out _ _ _ F4.out).mono ?_
        rintro e w9 ⟨rfl, b9⟩
        have HB9 := Lib.hid (HBR.out.trans (b9.mono HBR.out.size))
        clear b9
        go_wp2_with fail
        go_ret
        exact ⟨rfl, HBx.out.trans (HB9.out.mono HBx.out.size)⟩
  · subst h
    go_wp2_with fail
    go_loopw [10] (fun i wr => ∃ j : Nat, j ≤ 4 ∧ i = .int .i64 j ∧ wr.ownsRow w1.heap.size 5 1 (.slice (some ⟨g, 0, none⟩) M c2) M (byts (upd F 12 m j)) ∧ Below wb.heap.size wb wr) (fun i _ => 4 - (intOf i).toNat)
    case atStart => exact ⟨0, by omega, rfl, O2.out, HB2.out⟩
    case round =>
      obtain ⟨j, hj, rfl, hrow, hbr⟩ := hrel
      have HBR := Lib.hid hbr
      have hul := upd_length F 12 m j
      by_cases hlt : j < 4
      · have hcell := hrow.cellAt (12 + j) (by omega)
        have hfz := hrow.frozenAt (12 + j)
        have hst := hrow.stored (12 + j) (.int .u8 (((upd F 12 m j).getD (12 + j) 0 ^^^ m / 2 ^ (8 * j) % 256 : Nat) : Int))
        rw [byts_set] at hst
        have Hst := Lib.hid hst
        have hcv : (byts (upd F 12 m j))[12 + j]? = some (.int .u8 (((upd F 12 m j).getD (12 + j) 0 : Nat) : Int)) := byts_at (by rw [hul, ← HM.out]; omega)
        rw [hcv] at hcell
        have Hup := Lib.hid (show upd F 12 m (j + 1) = (upd F 12 m j).set (12 + j) ((upd F 12 m j).getD (12 + j) 0 ^^^ m / 2 ^ (8 * j) % 256) from rfl)
        have Hxv := Lib.hid (xor_val (upd_lt HFb.out 12 m j (12 + j)) m (8 * j))
        have hbox := Cell1.out wr hbr
        clear hst hrow hcv hbr cc0 hul
        generalize (upd F 12 m j).getD (12 + j) 0 = v at *
        go_wp2_with fail
        go_region
        go_wp2_with fail
        go_roundw
        case rel => exact ⟨j + 1, by omega, by go_num, by rw [Hxv.out, Hup.out]; exact Hst.out.1.drew, by rw [Hxv.out]; exact (HBR.out.grown Hst.out.2 HBR.out.size (fun g' hg' => by injection hg' with hg'; omega)).drew⟩
        case measure => simp [intOf]; omega
      · have h4 : j = 4 := by omega
        subst h4
        have F4 := Lib.hid (By.of_own hrow (upd_bytes HFb.out 12 m 4) (by rw [hul, ← HM.out]; omega))
        clear hrow hbr cc0 hul
        go_wp2_with fail
        refine (H2.out _ _ _ F4.out).mono ?_
        rintro e w9 ⟨rfl, b9⟩
        have HB9 := Lib.hid (HBR.out.trans (b9.mono HBR.out.size))
        clear b9
        go_wp2_with fail
        go_ret
        exact ⟨rfl, HBx.out.trans (HB9.out.mono HBx.out.size)⟩
  · subst h
    go_wp2_with fail
    go_loopw [10] (fun i wr => ∃ j : Nat, j ≤ 4 ∧ i = .int .i64 j ∧ wr.ownsRow w1.heap.size 5 1 (.slice (some ⟨g, 0, none⟩) M c2) M (byts (upd F p m j)) ∧ Below wb.heap.size wb wr) (fun i _ => 4 - (intOf i).toNat)
    case atStart => exact ⟨0, by omega, rfl, O2.out, HB2.out⟩
    case round =>
      obtain ⟨j, hj, rfl, hrow, hbr⟩ := hrel
      have HBR := Lib.hid hbr
      have hul := upd_length F p m j
      by_cases hlt : j < 4
      · have hcell := hrow.cellAt (p + j) (by omega)
        have hfz := hrow.frozenAt (p + j)
        have hst := hrow.stored (p + j) (.int .u8 (((upd F p m j).getD (p + j) 0 ^^^ m / 2 ^ (8 * j) % 256 : Nat) : Int))
        rw [byts_set] at hst
        have Hst := Lib.hid hst
        have hcv : (byts (upd F p m j))[p + j]? = some (.int .u8 (((upd F p m j).getD (p + j) 0 : Nat) : Int)) := byts_at (by rw [hul, ← HM.out]; omega)
        rw [hcv] at hcell
        have Hup := Lib.hid (show upd F p m (j + 1) = (upd F p m j).set (p + j) ((upd F p m j).getD (p + j) 0 ^^^ m / 2 ^ (8 * j) % 256) from rfl)
        have Hxv := Lib.hid (xor_val (upd_lt HFb.out p m j (p + j)) m (8 * j))
        have hbox := Cell1.out wr hbr
        clear hst hrow hcv hbr cc0 hul
        generalize (upd F p m j).getD (p + j) 0 = v at *
        go_wp2_with fail
        go_region
        go_wp2_with fail
        go_roundw
        case rel => exact ⟨j + 1, by omega, by go_num, by rw [Hxv.out, Hup.out]; exact Hst.out.1.drew, by rw [Hxv.out]; exact (HBR.out.grown Hst.out.2 HBR.out.size (fun g' hg' => by injection hg' with hg'; omega)).drew⟩
        case measure => simp [intOf]; omega
      · have h4 : j = 4 := by omega
        subst h4
        have F4 := Lib.hid (By.of_own hrow (upd_bytes HFb.out p m 4) (by rw [hul, ← HM.out]; omega))
        clear hrow hbr cc0 hul
        go_wp2_with fail
        refine (H2.out _ _ _ F4.out).mono ?_
        rintro e w9 ⟨rfl, b9⟩
        have HB9 := Lib.hid (HBR.out.trans (b9.mono HBR.out.size))
        clear b9
        go_wp2_with fail
        go_ret
        exact ⟨rfl, HBx.out.trans (HB9.out.mono HBx.out.size)⟩

set_option maxRecDepth 4000 in
set_option maxHeartbeats 4000000 in
theorem leafTells_any {w : World} {A : Option Addr} {c : Nat} {d : List Nat} (hsl : Sl w w.heap.size A (byts d)) (hl : ∀ x ∈ d, x < 256) (hc : d.length ≤ c) (hA : A = none → c = 0) (k : Nat) (hk : k < 256) (a m : Nat) (hm : m < 4294967296) :
    Calls Try.prog 5 #[.int .u8 (k : Int), .slice A d.length c, .agg #[.int .u32 (a : Int), .int .u32 (m : Int)]] w fun e w' => e = .returned (.bool true) ∧ Below w.heap.size w w' := by
  by_cases h5 : 4096 < d.length ∨ m = 0
  · have early : ∀ x y : Bool, decide (4096 < (d.length : Int)) = x → decide (4096 < d.length) = x → ((m : Int) == 0) = y → (x = true ∨ y = true) →
        Calls Try.prog 5 #[.int .u8 (k : Int), .slice A d.length c, .agg #[.int .u32 (a : Int), .int .u32 (m : Int)]] w fun e w' => e = .returned (.bool true) ∧ Below w.heap.size w w' := by
      intro x y h1 h1' h2 h
      have hbx : Below w.heap.size w (w.alloc (.cells #[.int .u32 (a : Int), .int .u32 (m : Int)] 41)) := (Below.refl _ _).alloc (Nat.le_refl _) _
      obtain ⟨wb, hwb⟩ : ∃ wb, wb = w.alloc (.cells #[.int .u32 (a : Int), .int .u32 (m : Int)] 41) := ⟨_, rfl⟩
      have hc1 : wb.cell? ⟨w.heap.size, 1, none⟩ = some (.int .u32 (m : Int)) := by rw [hwb]; exact cell_fresh rfl
      have hlt : w.heap.size < wb.heap.size := by rw [hwb]; simp
      rw [← hwb] at hbx
      have HBx := Lib.hid hbx
      have Cell1 := Lib.hid (fun W (hb : Below wb.heap.size wb W) => (hb.cell (p := ⟨w.heap.size, 1, none⟩) hlt).trans hc1)
      have ebox : w.alloc (.cells #[.int .u32 (a : Int), .int .u32 (m : Int)] 41) = wb := hwb.symm
      clear hwb hbx hc1 hsl hl hc hA hm hk h5
      generalize d.length = n at *
      cases x <;> cases y <;> first
        | (simp at h; done)
        | (go_enter Try.func5, Try.ntmps5
           go_wp2_with fail
           refine (awake_any _).mono ?_
           rintro e w1 ⟨rfl, hb⟩
           have cc1 := Cell1.out w1 hb
           have HB := Lib.hid hb
           clear hb
           go_wp2_with fail
           go_ret
           exact ⟨rfl, HBx.out.trans (HB.out.mono HBx.out.size)⟩)
    refine early _ _ rfl (by rw [decide_eq_decide]; omega) rfl ?_
    rcases h5 with h | h
    · exact .inl (by simp; omega)
    · exact .inr (by simp; omega)
  · exact tells_case ⟨hsl, hl, hc, hA, by omega⟩ (by omega) k hk a m _ (by omega) hm rfl _ _ _ _ rfl rfl rfl rfl
end Go.Proofs.Ytpicalkcgioimaa
