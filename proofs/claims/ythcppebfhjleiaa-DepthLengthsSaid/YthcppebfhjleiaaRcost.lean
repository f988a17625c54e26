/- The document's Cost. -/
import Derived.Test.YthcppebfhjleiaaRkraft
namespace Go.Proofs.Ythcppebfhjleiaa
open Go.RowKit

def cbad (x : Int) : Bool := decide (x < 0) || decide (1048576 < x)
/-- What the loop has added up: counts that may not be are left out. -/
def csum (c l : List Int) : Nat → Int
  | 0 => 0
  | k + 1 => if cbad (c.getD k 0) then csum c l k else csum c l k + c.getD k 0 * l.getD k 0
def costV (c l : List Int) : Int := if (kraftV l).2 = true ∧ c.any cbad = false then csum c l 256 else 0
theorem cbad_next {l : List Int} {i : Nat} (h : i < l.length) : (l.take (i + 1)).any cbad = ((l.take i).any cbad || cbad (l.getD i 0)) := by
  rw [take_snoc h, List.any_append]; simp

theorem kraft_each {l : List Int} (h : (kraftV l).2 = true) {k : Nat} (hk : k < l.length) : 0 ≤ l.getD k 0 ∧ l.getD k 0 ≤ 11 := by
  have hn : kbad (l.getD k 0) ≠ true := fun hb => by
    have := kbad_one hk hb
    unfold kraftV at h
    rw [if_pos this] at h
    exact absurd h (by decide)
  generalize l.getD k 0 = x at *
  unfold kbad at hn
  simp at hn
  omega
theorem cbad_no {x : Int} (h : ¬ cbad x = true) : 0 ≤ x ∧ x ≤ 1048576 := by
  unfold cbad at h
  simp at h
  omega
theorem csum_bound {c l : List Int} (hl : l.length = 256) (h : (kraftV l).2 = true) : ∀ k, k ≤ 256 → 0 ≤ csum c l k ∧ csum c l k ≤ k * 11534336
  | 0, _ => by simp [csum]
  | k + 1, hk => by
    have ih := csum_bound (c := c) hl h k (by omega)
    have hb := kraft_each h (k := k) (by omega)
    unfold csum
    split
    · omega
    · rename_i hc
      have hc' := cbad_no hc
      obtain ⟨n, hn⟩ : ∃ n : Nat, l.getD k 0 = n := ⟨(l.getD k 0).toNat, by omega⟩
      obtain ⟨m, hm⟩ : ∃ m : Nat, c.getD k 0 = m := ⟨(c.getD k 0).toNat, by omega⟩
      rw [hn] at hb ⊢
      rw [hm] at hc' ⊢
      have h1 : m * n ≤ 1048576 * 11 := Nat.mul_le_mul (by omega) (by omega)
      have h2 : (m : Int) * (n : Int) = ((m * n : Nat) : Int) := by simp
      rw [h2]
      omega

set_option maxRecDepth 4000 in
set_option maxHeartbeats 4000000 in
theorem rcost_any (c l : List Int) (hc : c.length = 256) (hl : l.length = 256) (w : World) :
    Calls Try.prog 14 #[.agg (ints c), .agg (ints l)] w fun e w' => e = .returned (.int .i64 (costV c l)) ∧ Below w.heap.size w w' := by
  obtain ⟨t, N, ht, hN, hagg, hix, hund, hsz, -⟩ := t256
  have Hix := Lib.hid hix
  obtain ⟨C, hC⟩ : ∃ C, C = ints c := ⟨_, rfl⟩
  obtain ⟨L, hL⟩ : ∃ L, L = ints l := ⟨_, rfl⟩
  have K := Lib.hid (fun W => rkraft_any l hl W)
  rw [← hL] at K
  rw [← hC, ← hL]
  have HC := Lib.hid hC
  have HL := Lib.hid hL
  have HN := Lib.hid hN
  clear hC hL hN
  have E1 : ∀ a, Op.box 24 a = Op.box t a := by rw [ht]; exact fun _ => rfl
  have E2 : ∀ a, Op.load 24 a = Op.load t a := by rw [ht]; exact fun _ => rfl
  have E3 : ∀ a b, Op.indexAddr 24 a b = Op.indexAddr t a b := by rw [ht]; exact fun _ _ => rfl
  clear ht hix
  obtain ⟨W, hW⟩ : ∃ W, W = (w.alloc (.cells C t)).alloc (.cells L t) := ⟨_, rfl⟩
  have b1 : Blk W w.heap.size t C := by rw [hW]; exact (Blk.new _ _ _).alloc _
  have b2 : Blk W (w.heap.size + 1) t L := by
    rw [hW, show w.heap.size + 1 = (w.alloc (.cells C t)).heap.size by simp]; exact Blk.new _ _ _
  have hWb : Below w.heap.size w W := by rw [hW]; exact ((Below.refl _ _).alloc (Nat.le_refl _) _).alloc (by simp) _
  have ld := load_blk (N := N) (by rw [HL.out, ints_size, hl, HN.out]) b2
  have Cc := Lib.hid (fun (X : World) (hb : Below W.heap.size W X) (k : Nat) (hk : k < 256) => show X.cell? ⟨w.heap.size, k, none⟩ = some (.int .i64 (c.getD k 0)) from by
    rw [hb.cell (p := ⟨w.heap.size, k, none⟩) b1.lt, b1.cell, HC.out, ints_at (by omega)])
  have Cl := Lib.hid (fun (X : World) (hb : Below W.heap.size W X) (k : Nat) (hk : k < 256) => show X.cell? ⟨w.heap.size + 1, k, none⟩ = some (.int .i64 (l.getD k 0)) from by
    rw [hb.cell (p := ⟨w.heap.size + 1, k, none⟩) b2.lt, b2.cell, HL.out, ints_at (by omega)])
  have HWb := Lib.hid hWb
  have eW : (w.alloc (.cells C t)).alloc (.cells L t) = W := hW.symm
  clear hW b1 b2 hWb
  go_enter Try.func14, Try.ntmps14
  simp only [E1, E2, E3]
  clear E1 E2 E3
  go_wp2_with fail
  refine (K.out _).mono ?_
  rintro e w1 ⟨rfl, hb⟩
  have HB1 := Lib.hid hb
  have HBw := Lib.hid (HWb.out.trans (hb.mono HWb.out.size))
  clear hb K ld eW
  generalize hg : w.heap.size = g at *
  generalize hKv : (kraftV l).1 = kv at *
  obtain ⟨ok, hok⟩ : ∃ ok, ok = (kraftV l).2 := ⟨_, rfl⟩
  rw [← hok]
  have HOK := Lib.hid hok
  clear hKv hok
  go_wp2_with fail
  go_loopw [6, 7, 8] (fun f v i wr => ∃ (k : Nat) (z : Int), k ≤ 256 ∧ i = .int .i64 k ∧ v = .int .i64 z ∧ f = .bool (ok && !(c.take k).any cbad) ∧ (ok = true → z = csum c l k) ∧ Below W.heap.size W wr) (fun _ _ i _ => 256 - (intOf i).toNat)
  case atStart => exact ⟨0, 0, by decide, rfl, rfl, by simp, fun _ => rfl, HB1.out⟩
  case round =>
    obtain ⟨k, z, hk, rfl, rfl, rfl, hz, hbr⟩ := hrel
    have HBr := Lib.hid hbr
    have Hz := Lib.hid hz
    clear hz HB1 HBw
    by_cases hlt : k < 256
    · have q0 : decide ((k : Int) < 256) = true := by rw [decide_eq_true_eq]; omega
      have q0' : decide (k < 256) = true := by rw [decide_eq_true_eq]; omega
      have cx := Cc.out _ hbr k hlt
      have cy := Cl.out _ hbr k hlt
      have ix := Hix.out .i64 k hlt g
      have iy := Hix.out .i64 k hlt (g + 1)
      have Cn := Lib.hid (cbad_next (l := c) (i := k) (by omega))
      have Cs := Lib.hid (show csum c l (k + 1) = if cbad (c.getD k 0) then csum c l k else csum c l k + c.getD k 0 * l.getD k 0 from rfl)
      have Bd := Lib.hid (fun h : (kraftV l).2 = true => csum_bound (c := c) hl h (k + 1) (by omega))
      have Bk := Lib.hid (fun h : (kraftV l).2 = true => csum_bound (c := c) hl h k (by omega))
      have By_ := Lib.hid (fun h : (kraftV l).2 = true => kraft_each h (k := k) (by omega))
      clear Cc Cl hbr
      generalize c.getD k 0 = x at *
      generalize l.getD k 0 = y at *
      obtain ⟨a, ha⟩ : ∃ a, a = (c.take k).any cbad := ⟨_, rfl⟩
      rw [← ha] at Cn ⊢
      have Ha := Lib.hid ha
      clear ha
      by_cases hx : cbad x = true
      · have Cs2 := Lib.hid (show csum c l (k + 1) = csum c l k by rw [Cs.out, if_pos hx])
        have Cn2 := Lib.hid (show (c.take (k + 1)).any cbad = true by rw [Cn.out, hx, Bool.or_true])
        have hx2 : x < 0 ∨ 1048576 < x := by unfold cbad at hx; simpa using hx
        clear Cs Cn hx Bd Bk By_
        by_cases h0 : x < 0
        · have p1 : decide (x < 0) = true := by simpa using h0
          clear h0 hx2
          go_wp2_with fail
          go_roundw
          case rel => exact ⟨k + 1, z, by omega, by go_num, rfl, by rw [Cn2.out]; simp, fun h => by rw [Cs2.out]; exact Hz.out h, HBr.out⟩
          case measure => simp [intOf]; omega
        · have p1 : decide (x < 0) = false := by simpa using h0
          have p2 : decide (1048576 < x) = true := by simp; omega
          clear h0 hx2
          go_wp2_with fail
          go_roundw
          case rel => exact ⟨k + 1, z, by omega, by go_num, rfl, by rw [Cn2.out]; simp, fun h => by rw [Cs2.out]; exact Hz.out h, HBr.out⟩
          case measure => simp [intOf]; omega
      · have hx2 := cbad_no hx
        have p1 : decide (x < 0) = false := by rw [decide_eq_false_iff_not]; omega
        have p2 : decide (1048576 < x) = false := by rw [decide_eq_false_iff_not]; omega
        have Cs2 := Lib.hid (show csum c l (k + 1) = csum c l k + x * y by rw [Cs.out, if_neg hx])
        have Cn2 := Lib.hid (show (c.take (k + 1)).any cbad = a by
          have hx0 : cbad x = false := by simpa using hx
          rw [Cn.out, hx0, Bool.or_false])
        clear Cs Cn hx hx2
        go_wp2_with fail
        go_quiet (fail)
        go_wp2_with fail
        go_roundw
        case rel =>
          refine ⟨k + 1, _, by omega, by go_num, rfl, by rw [Cn2.out], fun h => ?_, HBr.out.trans ((drewN_below _).mono HBr.out.size)⟩
          have h' : (kraftV l).2 = true := by rw [← HOK.out]; exact h
          have b1 := Bd.out h'
          have b2 := Bk.out h'
          have e := Hz.out h
          have e2 := Cs2.out
          generalize csum c l (k + 1) = s1 at *
          generalize csum c l k = s0 at *
          generalize x * y = xy at *
          subst e
          have hk' : k * 11534336 ≤ 256 * 11534336 := by omega
          rw [show wrap64 xy = xy from IntWalk.wrap64_in _ (by omega), e2]
          exact IntWalk.wrap64_in _ (by omega)
        case measure => simp [intOf]; omega
    · have hk6 : k = 256 := by omega
      subst hk6
      have hta : (c.take 256) = c := List.take_of_length_le (by omega)
      rw [hta]
      have hv : costV c l = if (ok && !c.any cbad) = true then z else 0 := by
        unfold costV
        rw [← HOK.out]
        cases h1 : ok
        · rfl
        · cases h2 : c.any cbad
          · rw [Hz.out h1]; rfl
          · rfl
      have Hv := Lib.hid hv
      clear hv hta
      generalize (ok && !c.any cbad) = o at *
      cases o
      · go_wp2_with fail
        go_ret
        exact ⟨by rw [Hv.out]; rfl, by first | exact HWb.out.trans (HBr.out.mono (by rw [← hg]; exact HWb.out.size)) | (rw [hg]; exact HWb.out.trans (HBr.out.mono (by rw [← hg]; exact HWb.out.size)))⟩
      · go_wp2_with fail
        go_ret
        exact ⟨by rw [Hv.out]; rfl, by first | exact HWb.out.trans (HBr.out.mono (by rw [← hg]; exact HWb.out.size)) | (rw [hg]; exact HWb.out.trans (HBr.out.mono (by rw [← hg]; exact HWb.out.size)))⟩
end Go.Proofs.Ythcppebfhjleiaa
