/- The document's own reader: Bytes and End. -/
import Derived.Test.YtdfelkkibolheaaRefcell
import Derived.Deep.RegionHeldLaw
import Derived.IntWalk
namespace Go.Proofs.Ytdfelkkibolheaa
open Go.RowKit Vint

/-- How Bytes ends: with new bytes, or with an error and nothing. -/
def RefB (A : Option Addr) (n c M a : Nat) (most : Int) (s : List Nat) (w : World) (e : Ending) (w' : World) : Prop :=
  Chg (FM M) w w' ∧ ((rdE most s = 0 ∧ ∃ A' c', e = .returned (.slice A' (num s).1 c') ∧ w'.ownsRow w.heap.size 5 1 (.slice A' (num s).1 c') (num s).1 (byts ((s.drop (num s).2.1).take (num s).1)) ∧ Blk w' M 38 (rcCells A n c (a + (num s).2.1 + (num s).1) 0)) ∨
    (rdE most s ≠ 0 ∧ e = .returned (.slice none 0 0) ∧ ∃ a' e', Blk w' M 38 (rcCells A n c a' e') ∧ rdE most s = (e' : Int)))

set_option maxRecDepth 4000 in
set_option maxHeartbeats 4000000 in
theorem refBytes_any (A : Option Addr) (c M a : Nat) (most : Int) (b : List Nat) (hb : ∀ x ∈ b, x < 256) (ha : a ≤ b.length) (hbc : b.length ≤ c) (hA : A = none → c = 0) (hlen : b.length ≤ 1000000000) (w : World) (hM : Blk w M 38 (rcCells A b.length c a 0)) (hsl : Sl w M A (byts b)) :
    Calls Try.prog 25 #[.pointer (some ⟨M, 0, none⟩), .int .i64 most] w (RefB A b.length c M a most (b.drop a) w) := by
  have N := Lib.hid (refNum_any A c M a b hb ha hlen w hM hsl)
  have hlt := num_lt (b.drop a)
  have hsz : (num (b.drop a)).2.2 = 0 → (num (b.drop a)).2.1 ≤ b.length - a := fun h => by have := (num_size h).2; rwa [List.length_drop] at this
  have he : rdE most (b.drop a) = if (num (b.drop a)).2.2 ≠ 0 then ((num (b.drop a)).2.2 : Int) else if most < ((num (b.drop a)).1 : Int) then 3 else if (b.drop a).length < (num (b.drop a)).2.1 + (num (b.drop a)).1 then 2 else 0 := rfl
  rw [List.length_drop] at he
  have He := Lib.hid he
  have hbel : ∀ w', Chg (FM M) w w' → Sl w' M A (byts b) := fun w' h => hsl.below (h.below (by have := hM.lt; omega) (fun i hi => by rw [hi]; exact Nat.le_refl _))
  have Hsl := Lib.hid hbel
  have hMl := hM.lt
  clear he hM hsl hbel hb
  have Hd : Hid ((b.drop a) = b.drop a) := Lib.hid rfl
  generalize hs : b.drop a = s at *
  have Hs := Lib.hid hs
  clear hs Hd
  unfold RefN at N
  generalize hp : num s = p at *
  obtain ⟨x, k, z⟩ := p
  have Hp := Lib.hid hp
  clear hp
  simp only at hlt hsz He N
  by_cases hz : z = 0
  · subst hz
    have hk := hsz rfl
    clear hsz
    go_enter Try.func25, Try.ntmps25
    go_wp2_with fail
    refine N.out.mono ?_
    rintro e w1 ⟨rfl, ⟨a', hb1, ha'⟩, hc1⟩
    have ha1 : a' = a + k := by simpa using ha'
    subst ha1
    have k0 : w1.cell? ⟨M, 0, none⟩ = some (.slice A b.length c) := hb1.cell 0
    have k1 : w1.cell? ⟨M, 1, none⟩ = some (.int .i64 ((a + k : Nat) : Int)) := hb1.cell 1
    have k2 : w1.cell? ⟨M, 2, none⟩ = some (.int .i64 ((0 : Nat) : Int)) := hb1.cell 2
    have f1 := hb1.frozen 1
    have f2 := hb1.frozen 2
    have Hb1 := Lib.hid hb1
    have Hc1 := Lib.hid hc1
    clear hb1 hc1 ha' N
    generalize hT : a + k = t at *
    have HT := Lib.hid hT
    have htb : t ≤ b.length := by omega
    clear hT
    by_cases hm : most < (x : Int)
    · have q1 : decide (most < (x : Int)) = true := by simpa using hm
      have HE : Hid (rdE most s = 3) := Lib.hid (by have := He.out; rw [if_neg (by simp), if_pos hm] at this; exact this)
      clear hm
      go_wp2_with fail
      go_ret
      refine ⟨chg_m Hc1.out _, .inr ⟨by rw [HE.out]; decide, rfl, t, 3, rc_bad Hb1.out 3, HE.out⟩⟩
    have q1 : decide (most < (x : Int)) = false := by simpa using hm
    by_cases hs2 : b.length - a < k + x
    · have HE : Hid (rdE most s = 2) := Lib.hid (by have := He.out; rw [if_neg (by simp), if_neg hm, if_pos hs2] at this; exact this)
      have q2 : decide ((b.length : Int) - (t : Int) < (x : Int)) = true := by have := HT.out; simp; omega
      clear hm
      go_wp2_with fail
      go_quiet (fail)
      go_wp2_with fail
      go_ret
      refine ⟨chg_m (Hc1.out.drewN nq) _, .inr ⟨by rw [HE.out]; decide, rfl, t, 2, rc_bad (blk_drewN Hb1.out nq) 2, HE.out⟩⟩
    · have HE : Hid (rdE most s = 0) := Lib.hid (by have := He.out; rw [if_neg (by simp), if_neg hm, if_neg hs2] at this; exact this)
      have q2 : decide ((b.length : Int) - (t : Int) < (x : Int)) = false := by have := HT.out; simp; omega
      obtain ⟨T, hTT⟩ : ∃ T : Nat, T = t + x := ⟨_, rfl⟩
      have hsum : (t : Int) + (x : Int) = (T : Int) := by omega
      have hsub : IntKind.i64.wrap ((T : Int) - (x : Int)) = (t : Int) := by rw [← hsum, show (t : Int) + (x : Int) - (x : Int) = t by omega]; exact IntWalk.i64_in _ (by omega)
      have hT1 : T ≤ b.length := by have := HT.out; omega
      have htT : t ≤ T := by omega
      have HTT := Lib.hid hTT
      clear hm hs2 hTT
      obtain ⟨i0, hi0, hz0, hs0, hb0⟩ := byte_parts (P := Try.prog) (e := 5) (by kernel_rfl)
      have hcut := run_slice_mid (P := Try.prog) Try.underlying24 hi0 hs0 A b.length c t T htT (by omega)
      rw [show T - t = x by omega] at hcut
      go_wp2_with fail
      go_quiet (fail)
      go_wp2_with fail
      have hb2 : Blk ((w1.drewN nq).setCell ⟨M, 1, none⟩ (.int .i64 (T : Int))) M 38 (rcCells A b.length c T 0) := rc_at (blk_drewN Hb1.out nq) T
      have hc2 : Chg (FM M) w ((w1.drewN nq).setCell ⟨M, 1, none⟩ (.int .i64 (T : Int))) := chg_m (Hc1.out.drewN nq) _
      generalize hW2 : (w1.drewN nq).setCell ⟨M, 1, none⟩ (.int .i64 (T : Int)) = W2 at *
      have hMW := hb2.lt
      have keep : ∀ w', Below W2.heap.size W2 w' → w'.cell? ⟨M, 0, none⟩ = some (.slice A b.length c) ∧ w'.cell? ⟨M, 1, none⟩ = some (.int .i64 (T : Int)) := fun w' h => ⟨(h.cell (p := ⟨M, 0, none⟩) hMW).trans (hb2.cell 0), (h.cell (p := ⟨M, 1, none⟩) hMW).trans (hb2.cell 1)⟩
      have hl : ((b.drop t).take x).length = x := by rw [List.length_take, List.length_drop]; omega
      have hnl : (byts ((b.drop t).take x)).length = x := by rw [byts_length, hl]
      have hsl2 : Sl W2.drew M (cutA A c t) (byts ((b.drop t).take x)) := by
        rw [← byts_take, ← byts_drop]
        exact ((Hsl.out W2.drew hc2.drew).from (by rw [byts_length]; exact hbc)).to x
      have hcA : cutA A c t = none → c - t = 0 := by
        unfold cutA
        by_cases hck : c = t
        · omega
        · rw [if_neg hck]; intro hh; have := hA (by simpa using hh); omega
      have Kp := Lib.hid keep
      have Hnl := Lib.hid hnl
      have Hsl2 := Lib.hid hsl2
      have Hb2 := Lib.hid hb2
      have Hc2 := Lib.hid hc2
      have hbd : Below W2.heap.size W2 W2.drew := (Below.refl _ _).drew
      have hbelow : Below W2.heap.size W2 W2.drew := hbd
      have hrc : (num s).1 = x ∧ (num s).2.1 = k := by rw [Hp.out]; exact ⟨rfl, rfl⟩
      have Hrc := Lib.hid hrc
      clear keep hnl hsl2 hb2 hc2 hW2 k0 k1 k2 f1 f2 hrc hl
      go_region_held_law (fun w' => w'.cell? ⟨M, 0, none⟩ = some (.slice A b.length c) ∧ w'.cell? ⟨M, 1, none⟩ = some (.int .i64 (T : Int))) (exact Kp.out _ hbd) (first
        | (refine step_append_sl (base := W2.heap.size) _ rfl (.const (.slice none 0 0)) (.tmp 57) _ rfl Try.underlying24 hi0 hz0 hs0 hb0 rfl (v := .slice none 0 0) rfl (World.ownsRow_nil _ _ _ _) rfl Hnl.out.symm hcA Hsl2.out (byts_one _) (by rw [Hnl.out]; omega) (by rw [Hnl.out]; unfold maxLen; omega) (by rw [Hnl.out]; omega) (Nat.le_refl _) ?_; intro v3 w3 hown3 hgr3 hbl3; rw [Hnl.out, Nat.zero_add, List.nil_append] at hown3; obtain ⟨A3, c3, rfl⟩ := own_slice hown3; have Ho3 := Lib.hid hown3; have hbd : Below W2.heap.size W2 w3 := hbelow.grown hgr3 (Nat.le_refl _) (fun k hk => by cases hk); clear hown3 hgr3 hbl3))
      all_goals
        simp only [List.getElem_toArray, List.getElem_cons_succ, List.getElem_cons_zero]
        go_wp2_with fail
        go_ret
        refine ⟨Hc2.out.then_ (Chg.of_below _ hbd), .inl ⟨HE.out, A3, c3, by rw [Hrc.out.1]; rfl, ?_, ?_⟩⟩
        · rw [Hrc.out.1, Hrc.out.2, ← Hs.out, List.drop_drop, HT.out]
          exact World.ownsRow_base Ho3.out Hc2.out.size
        · rw [Hrc.out.1, Hrc.out.2, HT.out, ← HTT.out]
          exact Hb2.out.keep (hbd.block _ hMW)
  · have HE : Hid (rdE most s = (z : Int)) := Lib.hid (by have := He.out; rw [if_pos hz] at this; exact this)
    have q3 : ((z : Int) != 0) = true := by simp; omega
    have hz' : (z : Int) ≠ 0 := by omega
    have Hz := Lib.hid hz'
    clear hz hz' hsz
    go_enter Try.func25, Try.ntmps25
    go_wp2_with fail
    refine N.out.mono ?_
    rintro e w1 ⟨rfl, ⟨a', hb1, _⟩, hc1⟩
    have k2 : w1.cell? ⟨M, 2, none⟩ = some (.int .i64 (z : Int)) := hb1.cell 2
    have Hb1 := Lib.hid hb1
    have Hc1 := Lib.hid hc1
    clear hb1 hc1 N
    go_wp2_with fail
    go_ret
    exact ⟨Hc1.out, .inr ⟨by rw [HE.out]; exact Hz.out, rfl, a', z, Hb1.out, HE.out⟩⟩

set_option maxHeartbeats 1000000 in
theorem refEnd_long {w : World} {M n c a : Nat} {A : Option Addr} (h : Blk w M 38 (rcCells A n c a 0)) (ha : a < n) :
    Calls Try.prog 29 #[.pointer (some ⟨M, 0, none⟩)] w fun e w' => e = .returned (.int .i64 3) ∧ Below w.heap.size w w' := by
  have k0 : w.cell? ⟨M, 0, none⟩ = some (.slice A n c) := h.cell 0
  have k1 : w.cell? ⟨M, 1, none⟩ = some (.int .i64 (a : Int)) := h.cell 1
  have k2 : w.cell? ⟨M, 2, none⟩ = some (.int .i64 0) := h.cell 2
  have q1 : decide (a < n) = true := by simpa using ha
  have q2 : decide ((a : Int) < (n : Int)) = true := by simp; omega
  clear h ha
  go_enter Try.func29, Try.ntmps29
  go_wp2_with fail
  go_quiet (fail)
  go_wp2_with fail
  go_ret
  exact ⟨rfl, ⟨rfl, rfl, rfl, Nat.le_refl _, fun _ _ => rfl⟩⟩
set_option maxHeartbeats 1000000 in
theorem refEnd_whole {w : World} {M n c a : Nat} {A : Option Addr} (h : Blk w M 38 (rcCells A n c a 0)) (ha : n ≤ a) :
    Calls Try.prog 29 #[.pointer (some ⟨M, 0, none⟩)] w fun e w' => e = .returned (.int .i64 0) ∧ Below w.heap.size w w' := by
  have k0 : w.cell? ⟨M, 0, none⟩ = some (.slice A n c) := h.cell 0
  have k1 : w.cell? ⟨M, 1, none⟩ = some (.int .i64 (a : Int)) := h.cell 1
  have k2 : w.cell? ⟨M, 2, none⟩ = some (.int .i64 0) := h.cell 2
  have q1 : decide (a < n) = false := by simp; omega
  have q2 : decide ((a : Int) < (n : Int)) = false := by simp; omega
  clear h ha
  go_enter Try.func29, Try.ntmps29
  go_wp2_with fail
  go_quiet (fail)
  go_wp2_with fail
  go_ret
  exact ⟨rfl, ⟨rfl, rfl, rfl, Nat.le_refl _, fun _ _ => rfl⟩⟩
set_option maxHeartbeats 1000000 in
theorem refEnd_bad {w : World} {M n c a e : Nat} {A : Option Addr} (h : Blk w M 38 (rcCells A n c a e)) (he : e ≠ 0) :
    Calls Try.prog 29 #[.pointer (some ⟨M, 0, none⟩)] w fun r w' => r = .returned (.int .i64 (e : Int)) ∧ Below w.heap.size w w' := by
  have k2 : w.cell? ⟨M, 2, none⟩ = some (.int .i64 (e : Int)) := h.cell 2
  have q1 : ((e : Int) == 0) = false := by rw [beq_eq_false_iff_ne]; omega
  clear h he
  go_enter Try.func29, Try.ntmps29
  go_wp2_with fail
  go_quiet (fail)
  go_wp2_with fail
  go_ret
  exact ⟨rfl, ⟨rfl, rfl, rfl, Nat.le_refl _, fun _ _ => rfl⟩⟩
end Go.Proofs.Ytdfelkkibolheaa
