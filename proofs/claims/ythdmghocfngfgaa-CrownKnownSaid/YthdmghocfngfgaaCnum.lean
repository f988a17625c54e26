/- The program's bits at four and eight bytes, number and isZero. -/
import Derived.Test.YthdmghocfngfgaaCn
namespace Go.Proofs.Ythdmghocfngfgaa
open Go.RowKit

theorem or_byte64 (k a b : Nat) (hk : k ≤ 56) (ha : a < 2 ^ k) (hb : b < 256) : bits BinOp.or IntKind.u64 (a : Int) ((b : Int) * ((2 ^ k : Nat) : Int)) = ((a + b * 2 ^ k : Nat) : Int) := by
  have hp : 2 ^ k ≤ 2 ^ 56 := Nat.pow_le_pow_right (by decide) hk
  have h1 : b * 2 ^ k ≤ 255 * 2 ^ 56 := Nat.mul_le_mul (by omega) hp
  rw [← Int.natCast_mul, u64_or_nat _ _ (by omega) (by omega), Nat.mul_comm b, Nat.or_comm, ← Nat.two_pow_add_eq_or_of_lt ha, Nat.add_comm]
theorem u64or0 {x0 : Nat} (h0 : x0 < 256) : bits BinOp.or IntKind.u64 0 (x0 : Int) = (x0 : Int) := by
  have := u64_or_nat 0 x0 (by decide) (by omega)
  simpa using this
theorem u64or1 {x0 x1 : Nat} (h0 : x0 < 256) (h1 : x1 < 256) : bits BinOp.or IntKind.u64 (x0 : Int) ((x1 : Int) * 256) = (x0 : Int) + (x1 : Int) * 256 := or_byte64 8 (x0) x1 (by decide) (by omega) h1
theorem u64or2 {x0 x1 x2 : Nat} (h0 : x0 < 256) (h1 : x1 < 256) (h2 : x2 < 256) : bits BinOp.or IntKind.u64 ((x0 : Int) + (x1 : Int) * 256) ((x2 : Int) * 65536) = (x0 : Int) + (x1 : Int) * 256 + (x2 : Int) * 65536 := or_byte64 16 (x0 + x1 * 256) x2 (by decide) (by omega) h2
theorem u64or3 {x0 x1 x2 x3 : Nat} (h0 : x0 < 256) (h1 : x1 < 256) (h2 : x2 < 256) (h3 : x3 < 256) : bits BinOp.or IntKind.u64 ((x0 : Int) + (x1 : Int) * 256 + (x2 : Int) * 65536) ((x3 : Int) * 16777216) = (x0 : Int) + (x1 : Int) * 256 + (x2 : Int) * 65536 + (x3 : Int) * 16777216 := or_byte64 24 (x0 + x1 * 256 + x2 * 65536) x3 (by decide) (by omega) h3
theorem u64or4 {x0 x1 x2 x3 x4 : Nat} (h0 : x0 < 256) (h1 : x1 < 256) (h2 : x2 < 256) (h3 : x3 < 256) (h4 : x4 < 256) : bits BinOp.or IntKind.u64 ((x0 : Int) + (x1 : Int) * 256 + (x2 : Int) * 65536 + (x3 : Int) * 16777216) ((x4 : Int) * 4294967296) = (x0 : Int) + (x1 : Int) * 256 + (x2 : Int) * 65536 + (x3 : Int) * 16777216 + (x4 : Int) * 4294967296 := or_byte64 32 (x0 + x1 * 256 + x2 * 65536 + x3 * 16777216) x4 (by decide) (by omega) h4
theorem u64or5 {x0 x1 x2 x3 x4 x5 : Nat} (h0 : x0 < 256) (h1 : x1 < 256) (h2 : x2 < 256) (h3 : x3 < 256) (h4 : x4 < 256) (h5 : x5 < 256) : bits BinOp.or IntKind.u64 ((x0 : Int) + (x1 : Int) * 256 + (x2 : Int) * 65536 + (x3 : Int) * 16777216 + (x4 : Int) * 4294967296) ((x5 : Int) * 1099511627776) = (x0 : Int) + (x1 : Int) * 256 + (x2 : Int) * 65536 + (x3 : Int) * 16777216 + (x4 : Int) * 4294967296 + (x5 : Int) * 1099511627776 := or_byte64 40 (x0 + x1 * 256 + x2 * 65536 + x3 * 16777216 + x4 * 4294967296) x5 (by decide) (by omega) h5
theorem u64or6 {x0 x1 x2 x3 x4 x5 x6 : Nat} (h0 : x0 < 256) (h1 : x1 < 256) (h2 : x2 < 256) (h3 : x3 < 256) (h4 : x4 < 256) (h5 : x5 < 256) (h6 : x6 < 256) : bits BinOp.or IntKind.u64 ((x0 : Int) + (x1 : Int) * 256 + (x2 : Int) * 65536 + (x3 : Int) * 16777216 + (x4 : Int) * 4294967296 + (x5 : Int) * 1099511627776) ((x6 : Int) * 281474976710656) = (x0 : Int) + (x1 : Int) * 256 + (x2 : Int) * 65536 + (x3 : Int) * 16777216 + (x4 : Int) * 4294967296 + (x5 : Int) * 1099511627776 + (x6 : Int) * 281474976710656 := or_byte64 48 (x0 + x1 * 256 + x2 * 65536 + x3 * 16777216 + x4 * 4294967296 + x5 * 1099511627776) x6 (by decide) (by omega) h6
theorem u64or7 {x0 x1 x2 x3 x4 x5 x6 x7 : Nat} (h0 : x0 < 256) (h1 : x1 < 256) (h2 : x2 < 256) (h3 : x3 < 256) (h4 : x4 < 256) (h5 : x5 < 256) (h6 : x6 < 256) (h7 : x7 < 256) : bits BinOp.or IntKind.u64 ((x0 : Int) + (x1 : Int) * 256 + (x2 : Int) * 65536 + (x3 : Int) * 16777216 + (x4 : Int) * 4294967296 + (x5 : Int) * 1099511627776 + (x6 : Int) * 281474976710656) ((x7 : Int) * 72057594037927936) = (x0 : Int) + (x1 : Int) * 256 + (x2 : Int) * 65536 + (x3 : Int) * 16777216 + (x4 : Int) * 4294967296 + (x5 : Int) * 1099511627776 + (x6 : Int) * 281474976710656 + (x7 : Int) * 72057594037927936 := or_byte64 56 (x0 + x1 * 256 + x2 * 65536 + x3 * 16777216 + x4 * 4294967296 + x5 * 1099511627776 + x6 * 281474976710656) x7 (by decide) (by omega) h7

set_option maxHeartbeats 4000000 in
theorem bits4_any (A : Option Addr) (cap : Nat) (l : List Nat) (hl : ∀ x ∈ l, x < 256) (k : Nat) (hk : k + 4 ≤ l.length) {w : World} {B : Nat} (hsl : Sl w B A (byts (l.drop k))) :
    Calls Try.prog 34 #[.slice A 4 cap] w fun e w' => e = .returned (.int .u64 ((g4 l k : Nat) : Int)) ∧ w' = w := by
  have hd : ∀ i, (l.drop k).getD i 0 = l.getD (k + i) 0 := fun i => by
    rw [List.getD_eq_getElem?_getD, List.getD_eq_getElem?_getD, List.getElem?_drop]
  obtain ⟨b, o, rfl, c0⟩ := sl_cell hsl (k := 0) (by rw [List.length_drop]; omega)
  obtain ⟨b1, o1, e, c1⟩ := sl_cell hsl (k := 1) (by rw [List.length_drop]; omega)
  obtain ⟨rfl, rfl⟩ : b1 = b ∧ o1 = o := by simpa using e.symm
  obtain ⟨b2, o2, e, c2⟩ := sl_cell hsl (k := 2) (by rw [List.length_drop]; omega)
  obtain ⟨rfl, rfl⟩ : b2 = b1 ∧ o2 = o1 := by simpa using e.symm
  obtain ⟨b3, o3, e, c3⟩ := sl_cell hsl (k := 3) (by rw [List.length_drop]; omega)
  obtain ⟨rfl, rfl⟩ : b3 = b2 ∧ o3 = o2 := by simpa using e.symm
  rw [hd] at c0 c1 c2 c3
  have h0 := getB_lt hl (k + 0)
  have h1 := getB_lt hl (k + 1)
  have h2 := getB_lt hl (k + 2)
  have h3 := getB_lt hl (k + 3)
  unfold g4
  simp only [Nat.add_zero] at *
  generalize l.getD k 0 = x0 at *
  generalize l.getD (k + 1) 0 = x1 at *
  generalize l.getD (k + 2) 0 = x2 at *
  generalize l.getD (k + 3) 0 = x3 at *
  clear hsl hl hd hk e
  have p0 := u64or0 h0
  have p1 := u64or1 h0 h1
  have p2 := u64or2 h0 h1 h2
  have p3 := u64or3 h0 h1 h2 h3
  go_enter Try.func34, Try.ntmps34
  go_wp2_with fail
  refine wp_loop_rounds 5 ?_
  rw [rounds_succ]
  go_wp2_with fail
  rw [rounds_succ]
  go_wp2_with fail
  rw [rounds_succ]
  go_wp2_with fail
  rw [rounds_succ]
  go_wp2_with fail
  rw [rounds_succ]
  go_wp2_with fail
  go_ret
  exact ⟨by simp, rfl⟩

set_option maxHeartbeats 4000000 in
theorem bits8_any (A : Option Addr) (cap : Nat) (l : List Nat) (hl : ∀ x ∈ l, x < 256) (k : Nat) (hk : k + 8 ≤ l.length) {w : World} {B : Nat} (hsl : Sl w B A (byts (l.drop k))) :
    Calls Try.prog 34 #[.slice A 8 cap] w fun e w' => e = .returned (.int .u64 ((Cn.g8 l k : Nat) : Int)) ∧ w' = w := by
  have hd : ∀ i, (l.drop k).getD i 0 = l.getD (k + i) 0 := fun i => by
    rw [List.getD_eq_getElem?_getD, List.getD_eq_getElem?_getD, List.getElem?_drop]
  obtain ⟨b, o, rfl, c0⟩ := sl_cell hsl (k := 0) (by rw [List.length_drop]; omega)
  obtain ⟨b1, o1, e, c1⟩ := sl_cell hsl (k := 1) (by rw [List.length_drop]; omega)
  obtain ⟨rfl, rfl⟩ : b1 = b ∧ o1 = o := by simpa using e.symm
  obtain ⟨b2, o2, e, c2⟩ := sl_cell hsl (k := 2) (by rw [List.length_drop]; omega)
  obtain ⟨rfl, rfl⟩ : b2 = b1 ∧ o2 = o1 := by simpa using e.symm
  obtain ⟨b3, o3, e, c3⟩ := sl_cell hsl (k := 3) (by rw [List.length_drop]; omega)
  obtain ⟨rfl, rfl⟩ : b3 = b2 ∧ o3 = o2 := by simpa using e.symm
  obtain ⟨b4, o4, e, c4⟩ := sl_cell hsl (k := 4) (by rw [List.length_drop]; omega)
  obtain ⟨rfl, rfl⟩ : b4 = b3 ∧ o4 = o3 := by simpa using e.symm
  obtain ⟨b5, o5, e, c5⟩ := sl_cell hsl (k := 5) (by rw [List.length_drop]; omega)
  obtain ⟨rfl, rfl⟩ : b5 = b4 ∧ o5 = o4 := by simpa using e.symm
  obtain ⟨b6, o6, e, c6⟩ := sl_cell hsl (k := 6) (by rw [List.length_drop]; omega)
  obtain ⟨rfl, rfl⟩ : b6 = b5 ∧ o6 = o5 := by simpa using e.symm
  obtain ⟨b7, o7, e, c7⟩ := sl_cell hsl (k := 7) (by rw [List.length_drop]; omega)
  obtain ⟨rfl, rfl⟩ : b7 = b6 ∧ o7 = o6 := by simpa using e.symm
  rw [hd] at c0 c1 c2 c3 c4 c5 c6 c7
  have h0 := getB_lt hl (k + 0)
  have h1 := getB_lt hl (k + 1)
  have h2 := getB_lt hl (k + 2)
  have h3 := getB_lt hl (k + 3)
  have h4 := getB_lt hl (k + 4)
  have h5 := getB_lt hl (k + 5)
  have h6 := getB_lt hl (k + 6)
  have h7 := getB_lt hl (k + 7)
  unfold Cn.g8 g4
  rw [Nat.add_assoc k 4 1, Nat.add_assoc k 4 2, Nat.add_assoc k 4 3]
  simp only [Nat.reduceAdd]
  simp only [Nat.add_zero] at *
  generalize l.getD k 0 = x0 at *
  generalize l.getD (k + 1) 0 = x1 at *
  generalize l.getD (k + 2) 0 = x2 at *
  generalize l.getD (k + 3) 0 = x3 at *
  generalize l.getD (k + 4) 0 = x4 at *
  generalize l.getD (k + 5) 0 = x5 at *
  generalize l.getD (k + 6) 0 = x6 at *
  generalize l.getD (k + 7) 0 = x7 at *
  clear hsl hl hd hk e
  have p0 := u64or0 h0
  have p1 := u64or1 h0 h1
  have p2 := u64or2 h0 h1 h2
  have p3 := u64or3 h0 h1 h2 h3
  have p4 := u64or4 h0 h1 h2 h3 h4
  have p5 := u64or5 h0 h1 h2 h3 h4 h5
  have p6 := u64or6 h0 h1 h2 h3 h4 h5 h6
  have p7 := u64or7 h0 h1 h2 h3 h4 h5 h6 h7
  go_enter Try.func34, Try.ntmps34
  go_wp2_with fail
  refine wp_loop_rounds 9 ?_
  rw [rounds_succ]
  go_wp2_with fail
  rw [rounds_succ]
  go_wp2_with fail
  rw [rounds_succ]
  go_wp2_with fail
  rw [rounds_succ]
  go_wp2_with fail
  rw [rounds_succ]
  go_wp2_with fail
  rw [rounds_succ]
  go_wp2_with fail
  rw [rounds_succ]
  go_wp2_with fail
  rw [rounds_succ]
  go_wp2_with fail
  rw [rounds_succ]
  go_wp2_with fail
  go_ret
  exact ⟨by simp; omega, rfl⟩

theorem u64_i64 {x : Nat} (h : x < 4294967296) : IntKind.i64.wrap (x : Int) = (x : Int) := IntWalk.i64_in _ (by omega)
set_option maxHeartbeats 1000000 in
theorem cnumber_any (A : Option Addr) (cap n : Nat) (l : List Nat) (hl : ∀ x ∈ l, x < 256) (k : Nat) (hk : k + 4 ≤ l.length) (hn : 4 ≤ n) (hc : n ≤ cap) {w : World} {B : Nat} (hsl : Sl w B A (byts (l.drop k))) :
    Calls Try.prog 42 #[.slice A n cap] w fun e w' => e = .returned (.int .i64 ((g4 l k : Nat) : Int)) ∧ w' = w := by
  have hb := Lib.hid (fun c => bits4_any A c l hl k hk hsl)
  have hx := g4_lt hl k
  obtain ⟨i0, hi0, hz0, hs0, hb0⟩ := byte_parts (P := Try.prog) (e := 5) (by kernel_rfl)
  have hcut : ∀ w, (Instr.slice 28 (.slice A n cap) none (some (.int .i64 4)) none).run Try.prog w = .ok (.slice A 4 cap) w := fun w =>
    run_slice_to (P := Try.prog) Try.underlying28 hi0 A n cap 4 (by omega) w
  generalize g4 l k = x at *
  clear hsl hl hk
  go_enter Try.func42, Try.ntmps42
  go_wp2_with (go_at_call 34; (with_reducible refine (hb.out _).mono ?_); rintro e w' ⟨rfl, rfl⟩)
  go_ret
  exact ⟨rfl, rfl⟩

set_option maxHeartbeats 2000000 in
theorem iszero_any (A : Option Addr) (cap : Nat) (l : List Nat) (hl : ∀ x ∈ l, x < 256) (n : Nat) (hn : n = l.length) (hlen : n ≤ 9223372036854775807) {w : World} {B : Nat} (hsl : Sl w B A (byts l)) :
    Calls Try.prog 36 #[.slice A n cap] w fun e w' => e = .returned (.bool (blankB l)) ∧ w' = w := by
  have HN := Lib.hid hn
  have Hc := Lib.hid (fun k (hk : k < l.length) => sl_cell hsl hk)
  have Hno := Lib.hid (fun k (hk : k < l.length) h => blank_no (l := l) hk h)
  have Hne := Lib.hid (fun k (hk : k < l.length) => blank_take (l := l) hk)
  have Hall := Lib.hid (List.take_length (l := l))
  clear hsl hn
  go_enter Try.func36, Try.ntmps36
  go_wp2_with fail
  go_loop [7] (fun i => ∃ k : Nat, k ≤ n ∧ i = .int .i64 k ∧ blankB (l.take k) = true) (fun i => n - (intOf i).toNat)
  case atStart => exact ⟨0, Nat.zero_le _, rfl, rfl⟩
  case round =>
    obtain ⟨k, hk, rfl, hb⟩ := hrel
    have Hb := Lib.hid hb
    clear hb
    by_cases hlt : k < n
    · have q3 : decide (k < n) = true := by simpa using hlt
      have hkl : k < l.length := by rw [← HN.out]; exact hlt
      obtain ⟨b, o, rfl, cx⟩ := Hc.out k hkl
      have hx := getB_lt hl k
      have hne := Lib.hid (Hne.out k hkl)
      have hno := Lib.hid (Hno.out k hkl)
      clear Hc Hno Hne hkl Hall hl
      generalize l.getD k 0 = x at *
      by_cases h0 : x = 0
      · subst h0
        go_wp2_with fail
        go_round
        case rel => exact ⟨k + 1, by omega, by go_num, by rw [hne.out, Hb.out]; rfl⟩
        case measure => simp [intOf]; omega
      · have p1 : ((x : Int) != 0) = true := by simp; omega
        have p2 : (x != 0) = true := by simp; omega
        go_wp2_with fail
        go_ret
        exact ⟨by rw [hno.out h0]; rfl, rfl⟩
    · have hkn : k = n := by omega
      subst hkn
      have q3 : decide (k < k) = false := by simp
      go_wp2_with fail
      go_ret
      refine ⟨?_, rfl⟩
      have := Hb.out
      rw [HN.out, Hall.out] at this
      rw [this]; rfl
end Go.Proofs.Ythdmghocfngfgaa
