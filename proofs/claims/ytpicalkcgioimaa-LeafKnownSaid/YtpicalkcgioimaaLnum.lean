/- The program's Blocks, number and blank. -/
import Derived.Test.YtpicalkcgioimaaRsize
import Derived.Test.YtpicalkcgioimaaCutS
import Derived.Test.YtpicalkcgioimaaTal
namespace Go.Proofs.Ytpicalkcgioimaa
open Go.RowKit

set_option maxHeartbeats 1000000 in
theorem blocks_any (n : Int) (hn : IntKind.i64.wrap n = n) (w : World) : Calls Try.prog 12 #[.int .i64 n] w fun e w' => e = .returned (.int .i64 ((blk n : Nat) : Int)) ∧ w' = w := by
  by_cases h0 : n < 0
  · have q0 : decide (n < 0) = true := by simpa using h0
    have e : blk n = 0 := by unfold blk; rw [if_pos (.inl h0)]
    rw [e]
    clear e h0
    go_enter Try.func12, Try.ntmps12
    go_wp2_with fail
    go_ret
    exact ⟨rfl, rfl⟩
  · have q0 : decide (n < 0) = false := by simpa using h0
    by_cases h1 : 4096 < n
    · have q1 : decide (4096 < n) = true := by simpa using h1
      have e : blk n = 0 := by unfold blk; rw [if_pos (.inr h1)]
      rw [e]
      clear e h0 h1
      go_enter Try.func12, Try.ntmps12
      go_wp2_with fail
      go_ret
      exact ⟨rfl, rfl⟩
    · have q1 : decide (4096 < n) = false := by simpa using h1
      obtain ⟨m, rfl⟩ : ∃ m : Nat, n = m := ⟨n.toNat, by omega⟩
      have hm : m ≤ 4096 := by omega
      rw [blk_nat hm]
      clear h0 h1
      go_enter Try.func12, Try.ntmps12
      go_wp2_with fail
      go_ret
      exact ⟨by simp; omega, rfl⟩


theorem or_byte32 (k a b : Nat) (hk : k ≤ 24) (ha : a < 2 ^ k) (hb : b < 256) : bits BinOp.or IntKind.u32 (a : Int) ((b : Int) * ((2 ^ k : Nat) : Int)) = ((a + b * 2 ^ k : Nat) : Int) := by
  have hp : 2 ^ k ≤ 2 ^ 24 := Nat.pow_le_pow_right (by decide) hk
  have h1 : b * 2 ^ k ≤ 255 * 2 ^ 24 := Nat.mul_le_mul (by omega) hp
  rw [← Int.natCast_mul, u32_or_nat _ _ (by omega) (by omega), Nat.mul_comm b, Nat.or_comm, ← Nat.two_pow_add_eq_or_of_lt ha, Nat.add_comm]
theorem u8or {a b : Nat} (ha : a < 256) (hb : b < 256) : bits BinOp.or IntKind.u32 (a : Int) ((b : Int) * 256) = (a : Int) + (b : Int) * 256 := or_byte32 8 a b (by decide) ha hb
theorem u16or {a b c : Nat} (ha : a < 256) (hb : b < 256) (hc : c < 256) : bits BinOp.or IntKind.u32 ((a : Int) + (b : Int) * 256) ((c : Int) * 65536) = (a : Int) + (b : Int) * 256 + (c : Int) * 65536 := or_byte32 16 (a + b * 256) c (by decide) (by omega) hc
theorem u24or {a b c d : Nat} (ha : a < 256) (hb : b < 256) (hc : c < 256) (hd : d < 256) : bits BinOp.or IntKind.u32 ((a : Int) + (b : Int) * 256 + (c : Int) * 65536) ((d : Int) * 16777216) = (a : Int) + (b : Int) * 256 + (c : Int) * 65536 + (d : Int) * 16777216 := or_byte32 24 (a + b * 256 + c * 65536) d (by decide) (by omega) hd
theorem u0or {a : Nat} (ha : a < 256) : bits BinOp.or IntKind.u32 0 (a : Int) = (a : Int) := by
  have := u32_or_nat 0 a (by decide) (by omega)
  simpa using this

set_option maxHeartbeats 2000000 in
theorem number_any (A : Option Addr) (cap : Nat) (l : List Nat) (hl : ∀ x ∈ l, x < 256) (n : Nat) (hn : n = l.length) (h4 : 4 ≤ n) (hlen : n ≤ 1000000000) {w : World} {B : Nat} (hsl : Sl w B A (byts l)) :
    Calls Try.prog 25 #[.slice A n cap] w fun e w' => e = .returned (.int .u32 ((g4 l 0 : Nat) : Int)) ∧ w' = w := by
  obtain ⟨b, o, rfl, c0⟩ := sl_cell hsl (k := 0) (by omega)
  obtain ⟨b', o', e, c1⟩ := sl_cell hsl (k := 1) (by omega)
  obtain ⟨rfl, rfl⟩ : b' = b ∧ o' = o := by simpa using e.symm
  obtain ⟨b'', o'', e, c2⟩ := sl_cell hsl (k := 2) (by omega)
  obtain ⟨rfl, rfl⟩ : b'' = b' ∧ o'' = o' := by simpa using e.symm
  obtain ⟨b3, o3, e, c3⟩ := sl_cell hsl (k := 3) (by omega)
  obtain ⟨rfl, rfl⟩ : b3 = b'' ∧ o3 = o'' := by simpa using e.symm
  have h0 := getB_lt hl 0
  have h1 := getB_lt hl 1
  have h2 := getB_lt hl 2
  have h3 := getB_lt hl 3
  unfold g4
  simp only [Nat.zero_add, Nat.add_zero] at *
  generalize l.getD 0 0 = x0 at *
  generalize l.getD 1 0 = x1 at *
  generalize l.getD 2 0 = x2 at *
  generalize l.getD 3 0 = x3 at *
  clear hsl hl hn
  have o00 := u0or h0
  have o0 := u8or h0 h1
  have oo1 := u16or h0 h1 h2
  have oo2 := u24or h0 h1 h2 h3
  go_enter Try.func25, Try.ntmps25
  go_wp2_with fail
  refine wp_loop_rounds 5 ?_
  rw [rounds_succ]
  go_wp2_with fail
  rw [rounds_succ]
  go_wp2_with fail
  rw [rounds_succ]
  go_wp2_with fail
  rw [rounds_succ]
  go_wp2_with fail
  rw [rounds_succ]
  go_wp2_with fail
  go_ret
  exact ⟨by simp, rfl⟩

/-- Whether all bytes are nought. -/
def blankB (l : List Nat) : Bool := l.all (· == 0)
theorem blank_take {l : List Nat} {k : Nat} (h : k < l.length) : blankB (l.take (k + 1)) = (blankB (l.take k) && l.getD k 0 == 0) := by
  unfold blankB
  rw [List.take_add_one, List.getElem?_eq_getElem h, List.getD_eq_getElem?_getD, List.getElem?_eq_getElem h, List.all_append]
  simp
theorem blank_no {l : List Nat} {k : Nat} (h : k < l.length) (hx : l.getD k 0 ≠ 0) : blankB l = false := by
  rw [List.getD_eq_getElem?_getD, List.getElem?_eq_getElem h] at hx
  unfold blankB
  rw [List.all_eq_false]
  exact ⟨l[k], List.getElem_mem h, by simpa using hx⟩
set_option maxHeartbeats 2000000 in
theorem blank_any (A : Option Addr) (cap : Nat) (l : List Nat) (hl : ∀ x ∈ l, x < 256) (n : Nat) (hn : n = l.length) (hlen : n ≤ 1000000000) {w : World} {B : Nat} (hsl : Sl w B A (byts l)) :
    Calls Try.prog 26 #[.slice A n cap] w fun e w' => e = .returned (.bool (blankB l)) ∧ w' = w := by
  have HN := Lib.hid hn
  have Hc := Lib.hid (fun k (hk : k < l.length) => sl_cell hsl hk)
  have Hno := Lib.hid (fun k (hk : k < l.length) h => blank_no (l := l) hk h)
  have Hne := Lib.hid (fun k (hk : k < l.length) => blank_take (l := l) hk)
  have Hall := Lib.hid (List.take_length (l := l))
  clear hsl hn
  go_enter Try.func26, Try.ntmps26
  go_wp2_with fail
  go_loop [7] (fun i => ∃ k : Nat, k ≤ n ∧ i = .int .i64 k ∧ blankB (l.take k) = true) (fun i => n - (intOf i).toNat)
  case atStart => exact ⟨0, Nat.zero_le _, rfl, rfl⟩
  case round =>
    obtain ⟨k, hk, rfl, hb⟩ := hrel
    have Hb := Lib.hid hb
    clear hb
    by_cases hlt : k < n
    · have q3 : decide (k < n) = true := by simpa using hlt
      have hkl : k < l.length := by rw [← HN.out]; exact hlt
      obtain ⟨b, o, rfl, cx⟩ := Hc.out k hkl
      have hx := getB_lt hl k
      have hne := Lib.hid (Hne.out k hkl)
      have hno := Lib.hid (Hno.out k hkl)
      clear Hc Hno Hne hkl Hall hl
      generalize l.getD k 0 = x at *
      by_cases h0 : x = 0
      · subst h0
        go_wp2_with fail
        go_round
        case rel => exact ⟨k + 1, by omega, by go_num, by rw [hne.out, Hb.out]; rfl⟩
        case measure => simp [intOf]; omega
      · have p1 : ((x : Int) != 0) = true := by simp; omega
        have p2 : (x != 0) = true := by simp; omega
        go_wp2_with fail
        go_ret
        exact ⟨by rw [hno.out h0]; rfl, rfl⟩
    · have hkn : k = n := by omega
      subst hkn
      have q3 : decide (k < k) = false := by simp
      go_wp2_with fail
      go_ret
      refine ⟨?_, rfl⟩
      have := Hb.out
      rw [HN.out, Hall.out] at this
      rw [this]; rfl
end Go.Proofs.Ytpicalkcgioimaa
