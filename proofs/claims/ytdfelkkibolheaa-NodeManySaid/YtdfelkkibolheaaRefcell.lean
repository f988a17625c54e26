/- The document's own reader: what its methods do. -/
import Derived.Test.YtdfelkkibolheaaRd
import Derived.Deep.QuietTactic
import Derived.BigQuiet
namespace Go.Proofs.Ytdfelkkibolheaa
open Go.RowKit Vint

/-- Block M is the document's reader of a slice of n bytes; a have been read; e is the first error. -/
def rcCells (A : Option Addr) (n c : Nat) (a : Nat) (e : Nat) : Array Value := #[.slice A n c, .int .i64 (a : Int), .int .i64 (e : Int)]
abbrev FM (M : Nat) : Nat → Prop := fun b => b = M

theorem and127 {d : Nat} (h : d < 256) : bits BinOp.and IntKind.i64 (d : Int) 127 = ((d % 128 : Nat) : Int) := by
  have h' : ∀ z : Nat, z < 256 → bits BinOp.and IntKind.i64 (z : Int) 127 = ((z % 128 : Nat) : Int) := by decide +kernel
  exact h' d h

theorem numF_nextd {r k x t : Nat} {l : List Nat} (h : t < l.length) (hd : 128 ≤ l[t]) : numF (r + 1) k x (l.drop t) = numF r (k + 1) (x + l[t] % 128 * 2 ^ (7 * k)) (l.drop (t + 1)) := by
  rw [List.drop_eq_getElem_cons h, numF, if_pos hd]
theorem numF_lastd {r k x t : Nat} {l : List Nat} (h : t < l.length) (hd : l[t] < 128) (h0 : ¬ (l[t] = 0 ∧ 0 < k)) : numF (r + 1) k x (l.drop t) = (x + l[t] % 128 * 2 ^ (7 * k), k + 1, 0) := by
  rw [List.drop_eq_getElem_cons h, numF, if_neg (by omega), if_neg h0]
theorem numF_noughtd {r k x t : Nat} {l : List Nat} (h : t < l.length) (h0 : l[t] = 0 ∧ 0 < k) : numF (r + 1) k x (l.drop t) = (0, 0, 4) := by
  rw [List.drop_eq_getElem_cons h, numF, if_neg (by omega), if_pos h0]
/-- Stores into the reader's fields. -/
theorem rc_at {w : World} {M : Nat} {A : Option Addr} {n c a e : Nat} (h : Blk w M 38 (rcCells A n c a e)) (a' : Nat) : Blk (w.setCell ⟨M, 1, none⟩ (.int .i64 (a' : Int))) M 38 (rcCells A n c a' e) := h.set_ 1 _
theorem rc_bad {w : World} {M : Nat} {A : Option Addr} {n c a e : Nat} (h : Blk w M 38 (rcCells A n c a e)) (e' : Nat) : Blk (w.setCell ⟨M, 2, none⟩ (.int .i64 (e' : Int))) M 38 (rcCells A n c a e') := h.set_ 2 _
theorem chg_m {w w' : World} {M o : Nat} (h : Chg (FM M) w w') (v : Value) : Chg (FM M) w (w'.setCell ⟨M, o, none⟩ v) := h.setCell (p := ⟨M, o, none⟩) (.inl rfl) v
theorem blk_drewN {w : World} {g : Nat} {t : TypeId} {cs : Array Value} (h : Blk w g t cs) (n : Nat) : Blk (w.drewN n) g t cs := h

/-- How Num ends. -/
def RefN (A : Option Addr) (n c M a : Nat) (s : List Nat) (w : World) (e : Ending) (w' : World) : Prop :=
  e = .returned (.int .i64 ((num s).1 : Int)) ∧ (∃ a', Blk w' M 38 (rcCells A n c a' (num s).2.2) ∧ ((num s).2.2 = 0 → a' = a + (num s).2.1)) ∧ Chg (FM M) w w'

set_option maxRecDepth 4000 in
set_option maxHeartbeats 4000000 in
theorem refNum_any (A : Option Addr) (c M a : Nat) (b : List Nat) (hb : ∀ x ∈ b, x < 256) (ha : a ≤ b.length) (hlen : b.length ≤ 1000000000) (w : World) (hM : Blk w M 38 (rcCells A b.length c a 0)) (hsl : Sl w M A (byts b)) :
    Calls Try.prog 27 #[.pointer (some ⟨M, 0, none⟩)] w (RefN A b.length c M a (b.drop a) w) := by
  go_enter Try.func27, Try.ntmps27
  go_wp2_with fail
  go_loopw [3, 4] (fun v i wr => ∃ (k x e : Nat), k ≤ 4 ∧ i = .int .i64 k ∧ v = .int .i64 x ∧ x < 2 ^ (7 * k) ∧ Blk wr M 38 (rcCells A b.length c (a + k) e) ∧ Chg (FM M) w wr ∧ a + k ≤ b.length ∧ ((e = 0 ∧ k < 4 ∧ num (b.drop a) = numF (4 - k) k x (b.drop (a + k))) ∨ (e = 4 ∧ num (b.drop a) = (0, 0, 4)))) (fun _ i _ => 4 - (intOf i).toNat)
  case atStart => exact ⟨0, 0, 0, by omega, rfl, rfl, by decide, hM, Chg.refl _ _, by omega, .inl ⟨rfl, by omega, rfl⟩⟩
  case round =>
    obtain ⟨k, x, e, hk, rfl, rfl, hx, hblk, hc, hak, hcase⟩ := hrel
    have k0 : wr.cell? ⟨M, 0, none⟩ = some (.slice A b.length c) := hblk.cell 0
    have k1 : wr.cell? ⟨M, 1, none⟩ = some (.int .i64 ((a + k : Nat) : Int)) := hblk.cell 1
    have k2 : wr.cell? ⟨M, 2, none⟩ = some (.int .i64 (e : Int)) := hblk.cell 2
    rcases hcase with ⟨rfl, hk4, hnum⟩ | ⟨rfl, hnum⟩
    · obtain ⟨r, hr⟩ : ∃ r, 4 - k = r + 1 := ⟨3 - k, by omega⟩
      rw [hr] at hnum
      generalize hat : a + k = t at *
      have Hat := Lib.hid hat
      clear hat
      by_cases hend : t = b.length
      · have q1 : decide (b.length ≤ t) = true := by simp; omega
        have q1' : decide ((b.length : Int) ≤ (t : Int)) = true := by simp; omega
        have hn2 : num (b.drop a) = (0, 0, 2) := by rw [hnum, List.drop_eq_nil_of_le (by omega), numF]
        have Hn := Lib.hid hn2
        have f2 := hblk.frozen 2
        have Hb := Lib.hid hblk
        have Hc := Lib.hid hc
        clear hn2 hnum hblk hc hsl hM hb
        go_wp2_with fail
        go_quiet (fail)
        go_wp2_with fail
        go_ret
        refine ⟨by rw [Hn.out]; rfl, ⟨t, ?_, fun h => by rw [Hn.out] at h; simp at h⟩, chg_m (Hc.out.drewN nq) _⟩
        rw [Hn.out]
        exact rc_bad (blk_drewN Hb.out nq) 2
      · have hlt : t < b.length := by omega
        have q1 : decide (b.length ≤ t) = false := by simp; omega
        have q1' : decide ((b.length : Int) ≤ (t : Int)) = false := by simp; omega
        have hbel : Below M w wr := hc.below (by have := hM.lt; omega) (fun i hi => by rw [hi]; exact Nat.le_refl _)
        obtain ⟨bb, o, rfl, hB, hcell⟩ := (hsl.below hbel).at_ (i := t) (by simpa [byts] using hlt)
        have hd1 : wr.cell? ⟨bb, o + t, none⟩ = some (.int .u8 (b[t] : Int)) := by
          have := hcell t (by simpa [byts] using hlt)
          simpa [byts] using this
        have hd := hb b[t] (List.getElem_mem _)
        have hnx := numF_nextd (r := r) (k := k) (x := x) hlt
        have hls := numF_lastd (r := r) (k := k) (x := x) hlt
        have hno := numF_noughtd (r := r) (k := k) (x := x) hlt
        generalize b[t] = d at *
        have a1 := and127 hd
        have hq : d % 128 < 128 := Nat.mod_lt _ (by decide)
        generalize d % 128 = q at *
        have hX : x + q * 2 ^ (7 * k) < 2 ^ (7 * (k + 1)) := by
          rw [show 7 * (k + 1) = 7 * k + 7 by omega, Nat.pow_add]
          have : q * 2 ^ (7 * k) ≤ 127 * 2 ^ (7 * k) := Nat.mul_le_mul_right _ (by omega)
          omega
        have a2 := or_groupw k x q (by omega) hx hq
        generalize x + q * 2 ^ (7 * k) = X at *
        have Hnx := Lib.hid hnx
        have Hls := Lib.hid hls
        have Hno := Lib.hid hno
        have Hnum := Lib.hid hnum
        have Hb := Lib.hid hblk
        have Hc := Lib.hid hc
        have f1 := hblk.frozen 1
        have f2 := hblk.frozen 2
        clear hnx hls hno hnum hblk hc hcell hend hsl hM hb hbel
        have e3 : Hid (((t + 1 : Nat) : Int) = (t : Int) + 1) := Lib.hid (by omega)
        by_cases h128 : 128 ≤ d
        · have q2 : decide ((d : Int) < 128) = false := by simp; omega
          have Hn1 : Hid (num (b.drop a) = numF r (k + 1) X (b.drop (t + 1))) := Lib.hid (Hnum.out.trans (Hnx.out h128))
          clear Hnum Hnx Hls Hno
          by_cases hk3 : k = 3
          · have q3 : ((k : Int) == 3) = true := by rw [hk3]; rfl
            have Hn2 : Hid (num (b.drop a) = (0, 0, 4)) := Lib.hid (by rw [Hn1.out, show r = 0 by omega, numF])
            clear hk3
            go_wp2_with fail
            go_quiet (fail)
            go_wp2_with fail
            go_quiet (fail)
            go_wp2_with fail
            refine ⟨⟨k + 1, X, 4, by omega, by go_num, rfl, hX, ?_, chg_m (chg_m (Hc.out.drewN _) _) _, by have := Hat.out; omega, .inr ⟨rfl, Hn2.out⟩⟩, by simp [intOf]; omega⟩
            rw [← Nat.add_assoc, Hat.out]
            exact rc_bad (rc_at (blk_drewN Hb.out _) (t + 1)) 4
          · have q3 : ((k : Int) == 3) = false := by rw [beq_eq_false_iff_ne]; omega
            go_wp2_with fail
            go_quiet (fail)
            go_wp2_with fail
            go_quiet (fail)
            go_wp2_with fail
            refine ⟨⟨k + 1, X, 0, by omega, by go_num, rfl, hX, ?_, chg_m (Hc.out.drewN _) _, by have := Hat.out; omega, .inl ⟨rfl, by omega, ?_⟩⟩, by simp [intOf]; omega⟩
            · rw [← Nat.add_assoc, Hat.out]
              exact rc_at (blk_drewN Hb.out _) (t + 1)
            · rw [Hn1.out, ← Nat.add_assoc, Hat.out, show 4 - (k + 1) = r by omega]
        · have q2 : decide ((d : Int) < 128) = true := by simp; omega
          by_cases h0 : d = 0 ∧ 0 < k
          · have Hn2 : Hid (num (b.drop a) = (0, 0, 4)) := Lib.hid (Hnum.out.trans (Hno.out h0))
            have z1 : ((d : Int) == 0) = true := by rw [h0.1]; rfl
            have z2 : decide (0 < (k : Int)) = true := by simp; omega
            have z3 : decide (0 < k) = true := by simp; omega
            clear Hnum Hnx Hls Hno h0
            go_wp2_with fail
            go_quiet (fail)
            go_wp2_with fail
            go_quiet (fail)
            go_wp2_with fail
            go_ret
            refine ⟨by rw [Hn2.out]; rfl, ⟨t + 1, ?_, fun h => by rw [Hn2.out] at h; simp at h⟩, chg_m (chg_m (Hc.out.drewN _) _) _⟩
            rw [Hn2.out]
            exact rc_bad (rc_at (blk_drewN Hb.out _) (t + 1)) 4
          · have Hn2 : Hid (num (b.drop a) = (X, k + 1, 0)) := Lib.hid (Hnum.out.trans (Hls.out (by omega) h0))
            clear Hnum Hnx Hls Hno
            by_cases hd0 : d = 0
            · have hk0 : ¬ 0 < k := fun h => h0 ⟨hd0, h⟩
              have z1 : ((d : Int) == 0) = true := by rw [hd0]; rfl
              have z2 : decide (0 < (k : Int)) = false := by simp; omega
              have z3 : decide (0 < k) = false := by simpa using hk0
              clear h0 hd0 hk0
              go_wp2_with fail
              go_quiet (fail)
              go_wp2_with fail
              go_quiet (fail)
              go_wp2_with fail
              go_ret
              refine ⟨by rw [Hn2.out]; rfl, ⟨t + 1, ?_, fun _ => by rw [Hn2.out]; show t + 1 = a + (k + 1); have := Hat.out; omega⟩, chg_m (Hc.out.drewN _) _⟩
              rw [Hn2.out]
              exact rc_at (blk_drewN Hb.out _) (t + 1)
            · have z1 : ((d : Int) == 0) = false := by rw [beq_eq_false_iff_ne]; omega
              clear h0 hd0
              go_wp2_with fail
              go_quiet (fail)
              go_wp2_with fail
              go_quiet (fail)
              go_wp2_with fail
              go_ret
              refine ⟨by rw [Hn2.out]; rfl, ⟨t + 1, ?_, fun _ => by rw [Hn2.out]; show t + 1 = a + (k + 1); have := Hat.out; omega⟩, chg_m (Hc.out.drewN _) _⟩
              rw [Hn2.out]
              exact rc_at (blk_drewN Hb.out _) (t + 1)
    · have Hn := Lib.hid hnum
      have Hb := Lib.hid hblk
      have Hc := Lib.hid hc
      generalize a + k = t at *
      clear hnum hblk hc hsl hM hb
      go_wp2_with fail
      go_ret
      refine ⟨by rw [Hn.out]; rfl, ⟨t, ?_, fun h => by rw [Hn.out] at h; simp at h⟩, Hc.out⟩
      rw [Hn.out]
      exact Hb.out
end Go.Proofs.Ytdfelkkibolheaa
