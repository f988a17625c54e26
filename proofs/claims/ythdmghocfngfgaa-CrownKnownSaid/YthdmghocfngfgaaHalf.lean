/- The program's table for half bytes: what it holds, and that it serves. -/
import Derived.Test.YthdmghocfngfgaaMore
import Derived.Test.YthdmghocfngfgaaLaw
import Derived.Test.YthdmghocfngfgaaBy
import Derived.Lib.LazyBuf
import Derived.Deep.WholeRow
namespace Go.Proofs.Ythdmghocfngfgaa
open Go.RowKit Crc

theorem stN_xor (a b : Nat) : ∀ n, stN n (a ^^^ b) = stN n a ^^^ stN n b
  | 0 => rfl
  | n + 1 => by rw [stN, stN_xor a b n, st1_xor]; rfl
/-- What the highest four bits become. -/
def h4 (v : Nat) : Nat := stN 4 (v * 268435456)
theorem h4_lt (v : Nat) : h4 v < 2 ^ 32 := st1_lt _
theorem low4 {s : Nat} (h : s < 2 ^ 28) : stN 4 s = s * 16 := by
  have e1 : st1 s = 2 * s := st1_low (by omega)
  have e2 : st1 (2 * s) = 2 * (2 * s) := st1_low (by omega)
  have e3 : st1 (2 * (2 * s)) = 2 * (2 * (2 * s)) := st1_low (by omega)
  have e4 : st1 (2 * (2 * (2 * s))) = 2 * (2 * (2 * (2 * s))) := st1_low (by omega)
  show st1 (st1 (st1 (st1 s))) = s * 16
  rw [e1, e2, e3, e4]
  omega
theorem parts_xor (x : Nat) : (x % 268435456) ^^^ (x / 268435456 * 268435456) = x := by
  refine Nat.eq_of_testBit_eq fun i => ?_
  rw [Nat.testBit_xor, show (268435456 : Nat) = 2 ^ 28 by rfl, Nat.testBit_mod_two_pow, Nat.testBit_mul_two_pow]
  by_cases hi : i < 28
  · simp [hi, Nat.not_le.2 hi]
  · have h28 : 28 ≤ i := Nat.le_of_not_lt hi
    rw [Nat.testBit_div_two_pow]
    simp [hi, h28]
theorem half_step (x : Nat) : (x * 16 % 4294967296) ^^^ h4 (x / 268435456) = stN 4 x := by
  have e : x * 16 % 4294967296 = x % 268435456 * 16 := by omega
  rw [e, ← low4 (Nat.mod_lt _ (by decide)), h4, ← stN_xor, parts_xor]
theorem two_halves (x : Nat) : stN 4 (stN 4 x) = st8 x := rfl

/-- The table, its first k rows written. -/
def tab (k : Nat) : Array Value := ((List.range 16).map fun j => Value.int .u32 ((if j < k then h4 j else 0 : Nat) : Int)).toArray
theorem tab_at (k : Nat) {j : Nat} (h : j < 16) : (tab k)[j]? = some (.int .u32 ((if j < k then h4 j else 0 : Nat) : Int)) := by
  unfold tab
  simp [h]
theorem tab_next (k : Nat) : (tab k).setIfInBounds k (.int .u32 ((h4 k : Nat) : Int)) = tab (k + 1) := by
  apply Array.ext_getElem?
  intro j
  rcases Nat.lt_or_ge j 16 with hj | hj
  · rw [Array.getElem?_setIfInBounds, tab_at k hj, tab_at (k + 1) hj]
    by_cases e : k = j
    · subst e
      simp [tab, hj]
    · rw [if_neg e]
      by_cases hjk : j < k
      · rw [if_pos hjk, if_pos (by omega)]
      · rw [if_neg hjk, if_neg (by omega)]
  · rw [Array.getElem?_eq_none (by simp [tab]; omega), Array.getElem?_eq_none (by simp [tab]; omega)]
theorem tab_whole {j : Nat} (h : j < 16) : (tab 16)[j]? = some (.int .u32 ((h4 j : Nat) : Int)) := by rw [tab_at 16 h, if_pos h]

set_option maxHeartbeats 400000 in
theorem shifted_any (x : Nat) (hx : x < 2 ^ 32) (w : World) :
    Calls Try.prog 44 #[.int .u32 (x : Int)] w fun e w' => e = .returned (.int .u32 (st1 x : Nat)) ∧ w = w' := by
  have hsg : IntKind.u32.signed = false := rfl
  by_cases hb : 2147483648 ≤ x
  · have q : ((x : Int) / 2147483648 == 1) = true := by simp; omega
    go_enter Try.func44, Try.ntmps44
    go_wp2
    go_ret
    exact ⟨by rw [high_val x hx hb]; rfl, rfl⟩
  · have q : ((x : Int) / 2147483648 == 1) = false := by simp; omega
    go_enter Try.func44, Try.ntmps44
    go_wp2
    go_ret
    exact ⟨by rw [low_val x (by omega)]; rfl, rfl⟩

def z16 : Array Value := Array.replicate 16 (.int .u32 0)
theorem tab_zero : tab 0 = z16 := by kernel_rfl
theorem tab_size (k : Nat) : (tab k).size = 16 := by unfold tab; simp
theorem tab_one (k : Nat) : ∀ u ∈ (tab k).toList, u.oneCell' = true := by
  intro u hu
  unfold tab at hu
  simp only [List.mem_map] at hu
  obtain ⟨n, _, rfl⟩ := hu
  rfl
theorem index_tab (kd : IntKind) {k : Nat} (hk : k < 16) (g : Nat) (w : World) : (Instr.indexAt 75 (.pointer (some ⟨g, 0, none⟩)) (.int kd (k : Int))).run Try.prog w = .ok (.pointer (some ⟨g, k, none⟩)) w := by
  have h1 : 0 ≤ (k : Int) ∧ (k : Int) < 16 := by omega
  have := Try.underlying75
  go_simp
theorem under_tab : ∀ w, (underlying 75).run Try.prog w = .ok (.array 16 53) w := by intro w; kernel_rfl
set_option maxHeartbeats 1000000 in
theorem half_any (w : World) :
    Calls Try.prog 43 #[] w fun e w' => e = .returned (.agg (tab 16)) ∧ Below w.heap.size w w' := by
  obtain ⟨t, ht⟩ : ∃ t : TypeId, t = 75 := ⟨_, rfl⟩
  have hagg : ∀ w, (isAgg t).run Try.prog w = .ok true w := by rw [ht]; intro w; kernel_rfl
  have hund : ∀ w, (underlying t).run Try.prog w = .ok (.array 16 53) w := by rw [ht]; exact under_tab
  have hix : ∀ (k : Nat), k < 16 → ∀ (g : Nat) (w : World), (Instr.indexAt t (.pointer (some ⟨g, 0, none⟩)) (.int .i64 (k : Int))).run Try.prog w = .ok (.pointer (some ⟨g, k, none⟩)) w := by rw [ht]; exact fun _ hk => index_tab _ hk
  have Hix := Lib.hid hix
  clear hix
  obtain ⟨N, hN⟩ : ∃ N : Nat, N = 16 := ⟨_, rfl⟩
  have hsz : ∀ w, (sizeOf t).run Try.prog w = .ok N w := by rw [ht, hN]; intro w; kernel_rfl
  obtain ⟨Z, hZ⟩ : ∃ Z : Array Value, Z = z16 := ⟨_, rfl⟩
  have hz0 : ∀ w, (zeroValue t).run Try.prog w = .ok (.agg Z) w := by rw [ht, hZ]; intro w; kernel_rfl
  have hz := Lib.hid (tab_zero.trans hZ.symm)
  have HN := Lib.hid hN
  have HZ := Lib.hid hZ
  have Ht := Lib.hid ht
  clear hN hZ ht
  go_enter Try.func43, Try.ntmps43
  rw [← Ht.out]
  go_wp2_with fail
  go_loopw [4] (fun i wr => ∃ k : Nat, k ≤ 16 ∧ i = .int .i64 k ∧ Blk wr (w.heap.size + 1) t (tab k) ∧ Blk wr w.heap.size t Z ∧ Below w.heap.size w wr) (fun i _ => 16 - (intOf i).toNat)
  case atStart => exact ⟨0, by omega, rfl, by rw [hz.out, show w.heap.size + 1 = (w.alloc (.cells Z t)).heap.size by simp]; exact Blk.new _ _ _, (Blk.new w _ _).alloc _, ((Below.refl _ _).alloc (Nat.le_refl _) _).alloc (by simp) _⟩
  case round =>
    obtain ⟨k, hk, rfl, hb, hr, hbl⟩ := hrel
    by_cases hlt : k < 16
    · have fz := hb.frozen k
      have cc : wr.cell? ⟨w.heap.size + 1, k, none⟩ = some (.int .u32 0) := by rw [hb.cell, tab_at k hlt, if_neg (by omega)]; rfl
      have qd : decide ((k : Int) < 16) = true := by simp; omega
      have ix := Hix.out k hlt (w.heap.size + 1)
      go_wp2_with fail
      go_loop [3, 10] (fun r c => ∃ j : Nat, j ≤ 4 ∧ c = .int .i64 j ∧ r = .int .u32 ((stN j (k * 268435456) : Nat) : Int)) (fun _ c => 4 - (intOf c).toNat)
      case atStart => exact ⟨0, by omega, rfl, by simp [stN]⟩
      case round =>
        obtain ⟨j, hj, rfl, rfl⟩ := hrel
        by_cases hjl : j < 4
        · have hx := stN_lt (s := k * 268435456) (by omega) j
          have Hs := Lib.hid (shifted_any (stN j (k * 268435456)) hx)
          go_wp2_with (go_at_call 44; refine (Hs.out _).mono ?_; rintro e w' ⟨rfl, rfl⟩)
          go_round
          case rel => exact ⟨j + 1, by omega, by go_num, rfl⟩
          case measure => simp [intOf]; omega
        · have h4 : j = 4 := by omega
          subst h4
          go_wp2_with fail
          go_roundw
          case rel => exact ⟨k + 1, by omega, by go_num, by rw [← tab_next]; exact hb.set_ k _, hr.far (by simp) _, hbl.setCell (by simp) _⟩
          case measure => simp [intOf]; omega
    · have hk16 : k = 16 := by omega
      subst hk16
      clear hlt hk
      have qd : decide (((16 : Nat) : Int) < 16) = false := rfl
      have l1 := load_blk (N := N) (by rw [tab_size, HN.out]) hb
      obtain ⟨s1, hb2⟩ := store_blk (ds := tab 16) (by rw [tab_size, HZ.out]; simp [z16]) hr (tab_one 16)
      have l2 := load_blk (N := N) (by rw [tab_size, HN.out]) hb2
      have hbl2 := below_setCells (Nat.le_refl w.heap.size) (tab 16).toList 0 wr hbl
      clear hz hb hr hb2
      obtain ⟨T, hT⟩ : ∃ T, T = tab 16 := ⟨_, rfl⟩
      rw [← hT] at l1 s1 l2 hbl2
      have hTs : T.size = N := by rw [hT, tab_size, HN.out]
      have HT := Lib.hid hT
      have HE := Lib.hid hbl2
      clear hT hbl2
      obtain ⟨W2, hW2⟩ : ∃ W2, W2 = wr.setCells w.heap.size 0 T.toList := ⟨_, rfl⟩
      rw [← hW2] at s1 l2
      have HW := Lib.hid hW2
      clear hW2
      go_wp2_with fail
      refine bodyPost_ret (v := .agg T) ?_ rfl ⟨by rw [HT.out], by rw [HW.out]; exact HE.out⟩
      simp [results, Try.results43]
      rw [← Ht.out]
      go_simp
end Go.Proofs.Ythdmghocfngfgaa
