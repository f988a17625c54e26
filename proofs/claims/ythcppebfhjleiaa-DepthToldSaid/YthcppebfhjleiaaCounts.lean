/- The statements' Counts. -/
import Derived.Test.YthcppebfhjleiaaRcost
import Derived.Test.YthcppebfhjleiaaU32
namespace Go.Proofs.Ythcppebfhjleiaa
open Go.RowKit

/-- The counts of the first k words. -/
def countsK (l : List Nat) (k : Nat) : List Int := (List.range 256).map fun i => if i < k ∧ i < l.length then ((l.getD i 0 % 1048576 : Nat) : Int) else 0
def countsL (l : List Nat) : List Int := countsK l 256
theorem countsK_len (l : List Nat) (k : Nat) : (countsK l k).length = 256 := by simp [countsK]
theorem countsK_at (l : List Nat) (k : Nat) {i : Nat} (h : i < 256) : (countsK l k).getD i 0 = if i < k ∧ i < l.length then ((l.getD i 0 % 1048576 : Nat) : Int) else 0 := by
  unfold countsK
  rw [List.getD_eq_getElem?_getD, List.getElem?_map, List.getElem?_range h]
  rfl
theorem countsK_zero (l : List Nat) : countsK l 0 = List.replicate 256 0 := by
  unfold countsK
  rw [List.eq_replicate_iff]
  refine ⟨by simp, fun b hb => ?_⟩
  obtain ⟨i, _, rfl⟩ := List.mem_map.1 hb
  rw [if_neg (by omega)]
theorem ints_set (l : List Int) (k : Nat) (z : Int) : (ints l).setIfInBounds k (.int .i64 z) = ints (l.set k z) := by
  unfold ints
  rw [List.setIfInBounds_toArray, List.map_set]
theorem countsK_next (l : List Nat) {k : Nat} (hk : k < 256) (hl : k < l.length) : (countsK l k).set k ((l.getD k 0 % 1048576 : Nat) : Int) = countsK l (k + 1) := by
  apply List.ext_getElem?
  intro j
  rcases Nat.lt_or_ge j 256 with hj | hj
  · unfold countsK
    rw [List.getElem?_set, List.getElem?_map, List.getElem?_map, List.getElem?_range hj]
    by_cases e : k = j
    · subst e
      simp [hk, hl]
    · rw [if_neg e]
      by_cases h1 : j < k
      · simp [h1, show j < k + 1 by omega]
      · simp [h1, show ¬ j < k + 1 by omega]
  · rw [List.getElem?_eq_none (by rw [List.length_set, countsK_len]; exact hj), List.getElem?_eq_none (by rw [countsK_len]; exact hj)]
theorem countsK_more (l : List Nat) {k : Nat} (h : ¬ (k < l.length ∧ k < 256)) : countsK l k = countsL l := by
  unfold countsL countsK
  refine List.map_congr_left fun i hi => ?_
  have hi' : i < 256 := by simpa using hi
  by_cases h1 : i < k ∧ i < l.length
  · rw [if_pos h1, if_pos ⟨hi', h1.2⟩]
  · rw [if_neg h1]
    by_cases h2 : i < 256 ∧ i < l.length
    · omega
    · rw [if_neg h2]
theorem and20 {x : Nat} (hx : x < 4294967296) : bits BinOp.and IntKind.u32 (x : Int) 1048575 = ((x % 1048576 : Nat) : Int) := by
  have h : bits .and .u32 (x : Int) ((1048575 : Nat) : Int) = ((x &&& 1048575 : Nat) : Int) := u32_and_nat x 1048575 hx (by decide)
  rw [show (1048575 : Int) = ((1048575 : Nat) : Int) from rfl, h, show (1048575 : Nat) = 2 ^ 20 - 1 from rfl, Nat.and_two_pow_sub_one_eq_mod]

set_option maxRecDepth 4000 in
set_option maxHeartbeats 4000000 in
theorem counts_any (A : Option Addr) (cap : Nat) (l : List Nat) (hl : ∀ x ∈ l, x < 4294967296) (m : Nat) (hm : m = l.length) (w : World) (hsl : Sl w w.heap.size A (u32s l)) :
    Calls Try.prog 9 #[.slice A m cap] w fun e w' => e = .returned (.agg (ints (countsL l))) ∧ Below w.heap.size w w' := by
  obtain ⟨t, N, ht, hN, hagg, hix, hund, hsz, hz0⟩ := t256
  have Hix := Lib.hid hix
  obtain ⟨Z, hZ⟩ : ∃ Z, Z = ints (List.replicate 256 0) := ⟨_, rfl⟩
  rw [← hZ] at hz0
  have HZ := Lib.hid hZ
  have Ht := Lib.hid ht
  have HN := Lib.hid hN
  have Hm := Lib.hid hm
  have Hl := Lib.hid hl
  have Hs := Lib.hid (fun wr (hb : Below w.heap.size w wr) => hsl.below hb)
  clear hZ hN hix hm hl hsl
  go_enter Try.func9, Try.ntmps9
  rw [← Ht.out]
  clear ht
  go_wp2_with fail
  go_loopw [4] (fun i wr => ∃ k : Nat, k ≤ 256 ∧ i = .int .i64 k ∧ Blk wr (w.heap.size + 1) t (ints (countsK l k)) ∧ Blk wr w.heap.size t Z ∧ Below w.heap.size w wr) (fun i _ => 256 - (intOf i).toNat)
  case atStart => exact ⟨0, by omega, rfl, by rw [countsK_zero, ← HZ.out, show w.heap.size + 1 = (w.alloc (.cells Z t)).heap.size by simp]; exact Blk.new _ _ _, (Blk.new w _ _).alloc _, ((Below.refl _ _).alloc (Nat.le_refl _) _).alloc (by simp) _⟩
  case round =>
    obtain ⟨k, hk, rfl, hb, hr, hbl⟩ := hrel
    have Hb := Lib.hid hb
    have Hr := Lib.hid hr
    have HBl := Lib.hid hbl
    by_cases hgo : k < l.length ∧ k < 256
    · obtain ⟨h1, h2⟩ := hgo
      have q1 : decide ((k : Int) < (m : Int)) = true := by rw [decide_eq_true_eq]; have := Hm.out; omega
      have q1' : decide (k < m) = true := by rw [decide_eq_true_eq]; have := Hm.out; omega
      have q2 : decide ((k : Int) < 256) = true := by rw [decide_eq_true_eq]; omega
      have q2' : decide (k < 256) = true := by rw [decide_eq_true_eq]; omega
      have hkm : k < m := by have := Hm.out; omega
      obtain ⟨b, o, rfl, hbb, cx⟩ := u32_cell (Hs.out wr hbl) h1
      have fz := hb.frozen k
      have cc : wr.cell? ⟨w.heap.size + 1, k, none⟩ = some (.int .i64 ((countsK l k).getD k 0)) := by rw [hb.cell, ints_at (by rw [countsK_len]; exact h2)]
      have st := hb.set_ k (.int .i64 ((l.getD k 0 % 1048576 : Nat) : Int))
      rw [ints_set, countsK_next l h2 h1] at st
      have St := Lib.hid st
      have hx : l.getD k 0 < 4294967296 := by
        rw [List.getD_eq_getElem?_getD, List.getElem?_eq_getElem h1]; exact Hl.out _ (List.getElem_mem h1)
      have ha := and20 hx
      have ix := Hix.out .i64 k h2 (w.heap.size + 1)
      generalize l.getD k 0 = x at *
      generalize (countsK l k).getD k 0 = y at *
      obtain ⟨z, hz⟩ : ∃ z : Nat, z = x % 1048576 := ⟨_, rfl⟩
      rw [← hz] at ha st St
      have hzb : z < 1048576 := by omega
      clear hb hr hbl st hz h1
      go_wp2_with fail
      go_roundw
      case rel => exact ⟨k + 1, by omega, by go_num, St.out, Hr.out.far (by simp) _, HBl.out.setCell (by simp) _⟩
      case measure => simp [intOf]; omega
    · have he := countsK_more l hgo
      have Hgo := Lib.hid hgo
      rw [he] at hb
      have l1 := load_blk (N := N) (by rw [ints_size, HN.out]; exact countsK_len l 256) hb
      obtain ⟨s1, hb2⟩ := store_blk (ds := ints (countsL l)) (by rw [HZ.out, ints_size, ints_size, List.length_replicate]; exact countsK_len l 256) hr (fun u hu => by
        have := ints_one (countsL l)
        rw [Array.all_eq_true_iff_forall_mem] at this
        exact this u (by simpa using hu))
      have l2 := load_blk (N := N) (by rw [ints_size, HN.out]; exact countsK_len l 256) hb2
      have hbl2 := hbl.trans (below_cells (w := wr) (ints (countsL l)).toList w.heap.size 0 (Nat.le_refl _))
      obtain ⟨T, hT⟩ : ∃ T, T = ints (countsL l) := ⟨_, rfl⟩
      have hTs : T.size = N := by rw [hT, ints_size, HN.out]; exact countsK_len l 256
      rw [← hT] at l1 s1 l2 hbl2
      have HT := Lib.hid hT
      have HE := Lib.hid hbl2
      obtain ⟨W2, hW2⟩ : ∃ W2, W2 = wr.setCells w.heap.size 0 T.toList := ⟨_, rfl⟩
      rw [← hW2] at s1 l2
      have HW := Lib.hid hW2
      clear hb hr hbl hb2 hbl2 hT hW2 he
      by_cases h1 : k < m
      · have q1 : decide ((k : Int) < (m : Int)) = true := by rw [decide_eq_true_eq]; omega
        have q1' : decide (k < m) = true := by rw [decide_eq_true_eq]; omega
        have q2 : decide ((k : Int) < 256) = false := by rw [decide_eq_false_iff_not]; have := Hm.out; omega
        have q2' : decide (k < 256) = false := by rw [decide_eq_false_iff_not]; have := Hm.out; omega
        clear hgo h1
        go_wp2_with fail
        refine bodyPost_ret (v := .agg T) ?_ rfl ⟨by rw [HT.out], by rw [HW.out]; exact HE.out⟩
        simp [results, Try.results9]
        rw [← Ht.out]
        go_simp
      · have q1 : decide ((k : Int) < (m : Int)) = false := by rw [decide_eq_false_iff_not]; omega
        have q1' : decide (k < m) = false := by rw [decide_eq_false_iff_not]; omega
        clear hgo h1
        go_wp2_with fail
        refine bodyPost_ret (v := .agg T) ?_ rfl ⟨by rw [HT.out], by rw [HW.out]; exact HE.out⟩
        simp [results, Try.results9]
        rw [← Ht.out]
        go_simp
end Go.Proofs.Ythcppebfhjleiaa
