/- Numbers of four bytes, the lowest first, and bytes that are nought: plain. The document's Blocks and Size. The document's checksum as a function of a list of bytes: it is linear, each step can be undone, and what follows for changed bytes. What calls of the document's own checksum do. The program's table for half bytes: what it holds, and that it serves. What calls of package tally do: they give the document's checksum; what was there in memory stays as it is. -/
import Derived.Test.YtaainefdjbmekaaSba
import Derived.Test.YtaainefdjbmekaaSbba
import Derived.BigQuiet
import Derived.WalkKit
import Derived.WalkSpells
import Derived.WalkLawsBesides
import Derived.Handy
import Derived.IntWalk
import Derived.Lib.Hide
import Derived.KernelRfl
import Derived.Test.YtaainefdjbmekaaRows
import Derived.Lib.LazyBuf
import Derived.Deep.WholeRow
namespace Go.Proofs.Ytaainefdjbmekaa
open Go.RowKit
/-- The number in four bytes from k on. -/
def g4 (l : List Nat) (k : Nat) : Nat := l.getD k 0 + l.getD (k + 1) 0 * 256 + l.getD (k + 2) 0 * 65536 + l.getD (k + 3) 0 * 16777216
/-- A number's four bytes. -/
def le4 (x : Nat) : List Nat := [x % 256, x / 256 % 256, x / 65536 % 256, x / 16777216 % 256]
theorem g4_lt {l : List Nat} (hl : ∀ x ∈ l, x < 256) (k : Nat) : g4 l k < 4294967296 := by
  have := getB_lt hl k
  have := getB_lt hl (k + 1)
  have := getB_lt hl (k + 2)
  have := getB_lt hl (k + 3)
  unfold g4
  omega
theorem le4_lt (x : Nat) : ∀ c ∈ le4 x, c < 256 := by
  intro c hc
  simp only [le4, List.mem_cons, List.not_mem_nil, or_false] at hc
  omega
theorem g4_le {x : Nat} (h : x < 4294967296) (a b : List Nat) : g4 (a ++ (le4 x ++ b)) a.length = x := by
  have e0 := getD_at (a := a) (b := le4 x ++ b) (k := 0)
  rw [Nat.add_zero] at e0
  unfold g4
  rw [e0, getD_at, getD_at, getD_at]
  simp only [le4, List.cons_append, List.nil_append, List.getD_cons_zero, List.getD_cons_succ]
  omega
/-- Whether all bytes are nought. -/
def blankB (l : List Nat) : Bool := l.all (· == 0)
theorem blank_take {l : List Nat} {k : Nat} (h : k < l.length) : blankB (l.take (k + 1)) = (blankB (l.take k) && l.getD k 0 == 0) := by
  unfold blankB
  rw [List.take_add_one, List.getElem?_eq_getElem h, List.getD_eq_getElem?_getD, List.getElem?_eq_getElem h, List.all_append]
  simp
theorem blank_no {l : List Nat} {k : Nat} (h : k < l.length) (hx : l.getD k 0 ≠ 0) : blankB l = false := by
  rw [List.getD_eq_getElem?_getD, List.getElem?_eq_getElem h] at hx
  unfold blankB
  rw [List.all_eq_false]
  exact ⟨l[k], List.getElem_mem h, by simpa using hx⟩
end Go.Proofs.Ytaainefdjbmekaa
namespace Go.Proofs.Ytaainefdjbmekaa
open Go.RowKit
/-- Blocks. -/
def blk (n : Int) : Nat := if n < 0 ∨ 4096 < n then 0 else (n.toNat + 79) / 64
theorem blk_nat {n : Nat} (h : n ≤ 4096) : blk (n : Int) = (n + 79) / 64 := by
  unfold blk
  rw [if_neg (by omega), Int.toNat_natCast]
/-- The head says no form. -/
def badHead (l : List Nat) : Prop := l.getD 0 0 ≠ 197 ∨ l.getD 1 0 ≠ 126 ∨ l.getD 3 0 ≠ 0 ∨ 4096 < g4 l 8 ∨ 2147483647 < g4 l 4
instance (l : List Nat) : Decidable (badHead l) := by unfold badHead; exact inferInstance
/-- Size's error. -/
def sizeE (l : List Nat) : Nat := if l.length < 16 then 2 else if badHead l then 4 else 0
end Go.Proofs.Ytaainefdjbmekaa
namespace Go.Proofs.Ytaainefdjbmekaa
namespace Crc
def poly : Nat := 0x741b8cd7
def full : Nat := 4294967295
/-- One bit. -/
def st1 (s : Nat) : Nat := (2 * s % 2 ^ 32) ^^^ (if s.testBit 31 then poly else 0)
def st8 (s : Nat) : Nat := st1 (st1 (st1 (st1 (st1 (st1 (st1 (st1 s)))))))
def stN : Nat → Nat → Nat
  | 0, s => s
  | n + 1, s => st1 (stN n s)
/-- One byte. -/
def stB (s c : Nat) : Nat := st8 (s ^^^ c * 2 ^ 24)
def crc (s : Nat) (l : List Nat) : Nat := l.foldl stB s
def more (s : Nat) (l : List Nat) : Nat := crc (s ^^^ full) l ^^^ full
def sum (l : List Nat) : Nat := more 0 l
theorem xor_lt {a b : Nat} (ha : a < 2 ^ 32) (hb : b < 2 ^ 32) : a ^^^ b < 2 ^ 32 := Nat.xor_lt_two_pow ha hb
theorem poly_lt : poly < 2 ^ 32 := by decide
theorem full_lt : full < 2 ^ 32 := by decide
theorem st1_lt (s : Nat) : st1 s < 2 ^ 32 := by
  unfold st1
  refine xor_lt (Nat.mod_lt _ (by decide)) ?_
  split
  · exact poly_lt
  · decide
theorem st8_lt (s : Nat) : st8 s < 2 ^ 32 := st1_lt _
theorem stB_lt (s c : Nat) : stB s c < 2 ^ 32 := st8_lt _
theorem crc_lt {s : Nat} (hs : s < 2 ^ 32) : ∀ l : List Nat, crc s l < 2 ^ 32
  | [] => hs
  | c :: l => crc_lt (stB_lt s c) l
theorem more_lt {s : Nat} (hs : s < 2 ^ 32) (l : List Nat) : more s l < 2 ^ 32 := xor_lt (crc_lt (xor_lt hs full_lt) l) full_lt
theorem xor4 (a b c d : Nat) : (a ^^^ b) ^^^ (c ^^^ d) = (a ^^^ c) ^^^ (b ^^^ d) := by
  rw [Nat.xor_assoc, Nat.xor_assoc, ← Nat.xor_assoc b, Nat.xor_comm b c, Nat.xor_assoc c]
theorem xor_back (a b : Nat) : (a ^^^ b) ^^^ b = a := by rw [Nat.xor_assoc, Nat.xor_self, Nat.xor_zero]
theorem double_xor (a b : Nat) : 2 * (a ^^^ b) % 2 ^ 32 = (2 * a % 2 ^ 32) ^^^ (2 * b % 2 ^ 32) := by
  rw [← Nat.xor_mod_two_pow]
  congr 1
  have h := Nat.shiftLeft_xor_distrib (a := a) (b := b) (i := 1)
  simpa [Nat.shiftLeft_eq, Nat.mul_comm] using h
theorem st1_xor (a b : Nat) : st1 (a ^^^ b) = st1 a ^^^ st1 b := by
  unfold st1
  rw [double_xor, xor4, Nat.testBit_xor]
  congr 1
  cases a.testBit 31 <;> cases b.testBit 31 <;> simp
theorem st8_xor (a b : Nat) : st8 (a ^^^ b) = st8 a ^^^ st8 b := by
  unfold st8; simp only [st1_xor]
theorem eq_of_xor {a b : Nat} (h : a ^^^ b = 0) : a = b := by
  rw [← xor_back a b, h, Nat.zero_xor]
theorem stN_lt {s : Nat} (hs : s < 2 ^ 32) : ∀ n, stN n s < 2 ^ 32
  | 0 => hs
  | _ + 1 => st1_lt _
theorem high (s : Nat) (h : s < 2 ^ 32) : s.testBit 31 = decide (2 ^ 31 ≤ s) := by
  rw [Nat.testBit_eq_decide_div_mod_eq, decide_eq_decide]
  omega
theorem st1_zero {s : Nat} (hs : s < 2 ^ 32) (h : st1 s = 0) : s = 0 := by
  unfold st1 at h
  rw [high s hs] at h
  have e := eq_of_xor h
  by_cases c : 2 ^ 31 ≤ s
  · rw [decide_eq_true c] at e
    simp only [if_true, poly] at e
    omega
  · rw [decide_eq_false c] at e
    simp at e
    omega
theorem st8_zero {s : Nat} (hs : s < 2 ^ 32) (h : st8 s = 0) : s = 0 := by
  unfold st8 at h
  exact st1_zero hs (st1_zero (st1_lt _) (st1_zero (st1_lt _) (st1_zero (st1_lt _) (st1_zero (st1_lt _) (st1_zero (st1_lt _) (st1_zero (st1_lt _) (st1_zero (st1_lt _) h)))))))
theorem st8_inj {a b : Nat} (ha : a < 2 ^ 32) (hb : b < 2 ^ 32) (h : st8 a = st8 b) : a = b := by
  refine eq_of_xor (st8_zero (xor_lt ha hb) ?_)
  rw [st8_xor, h, Nat.xor_self]
theorem byte_lt {c : Nat} (h : c < 256) : c * 2 ^ 24 < 2 ^ 32 := by omega
theorem stB_inj {a b c : Nat} (ha : a < 2 ^ 32) (hb : b < 2 ^ 32) (hc : c < 256) (h : stB a c = stB b c) : a = b := by
  have := st8_inj (xor_lt ha (byte_lt hc)) (xor_lt hb (byte_lt hc)) h
  rw [← xor_back a (c * 2 ^ 24), this, xor_back]
theorem crc_inj : ∀ {l : List Nat} {a b : Nat}, (∀ c ∈ l, c < 256) → a < 2 ^ 32 → b < 2 ^ 32 → crc a l = crc b l → a = b
  | [], _, _, _, _, _, h => h
  | c :: l, a, b, hl, ha, hb, h => stB_inj ha hb (hl c (by simp)) (crc_inj (l := l) (fun x hx => hl x (by simp [hx])) (stB_lt _ _) (stB_lt _ _) h)
theorem crc_append (s : Nat) (a b : List Nat) : crc s (a ++ b) = crc (crc s a) b := by simp [crc]
theorem more_append (s : Nat) (a b : List Nat) : more s (a ++ b) = more (more s a) b := by
  unfold more; rw [crc_append, xor_back]
theorem sum_append (a b : List Nat) : sum (a ++ b) = more (sum a) b := more_append 0 a b
theorem mul_xor (a b k : Nat) : (a ^^^ b) * 2 ^ k = (a * 2 ^ k) ^^^ (b * 2 ^ k) := by
  have h := Nat.shiftLeft_xor_distrib (a := a) (b := b) (i := k)
  simpa [Nat.shiftLeft_eq] using h
theorem stB_xor (a b x y : Nat) : stB (a ^^^ b) (x ^^^ y) = stB a x ^^^ stB b y := by
  unfold stB
  rw [mul_xor, xor4, st8_xor]
theorem st1_high {s : Nat} (h : s < 2 ^ 32) (h1 : 2 ^ 31 ≤ s) : st1 s = (s * 2 % 4294967296) ^^^ 1947962583 := by
  unfold st1
  rw [high s h, decide_eq_true h1, Nat.mul_comm]
  rfl
theorem st1_no {s : Nat} (h : s < 2 ^ 31) : st1 s = s * 2 % 4294967296 := by
  unfold st1
  rw [high s (by omega), decide_eq_false (by omega), Nat.mul_comm]
  simp
/-- Eight bits of a small number go straight up. -/
theorem st1_low {s : Nat} (h : s < 2 ^ 31) : st1 s = 2 * s := by
  unfold st1
  rw [high s (by omega), decide_eq_false (by omega)]
  simp
  omega
theorem st8_low {s : Nat} (h : s < 2 ^ 24) : st8 s = s * 2 ^ 8 := by
  unfold st8
  rw [st1_low (s := s) (by omega), st1_low (s := 2 * s) (by omega), st1_low (s := 2 * (2 * s)) (by omega), st1_low (s := 2 * (2 * (2 * s))) (by omega), st1_low (s := 2 * (2 * (2 * (2 * s)))) (by omega),
    st1_low (s := 2 * (2 * (2 * (2 * (2 * s))))) (by omega), st1_low (s := 2 * (2 * (2 * (2 * (2 * (2 * s)))))) (by omega), st1_low (s := 2 * (2 * (2 * (2 * (2 * (2 * (2 * s))))))) (by omega)]
  omega
theorem add_xor (a b k : Nat) (h : b < 2 ^ k) : a * 2 ^ k ^^^ b = a * 2 ^ k + b := by
  rw [Nat.mul_comm]
  refine Nat.eq_of_testBit_eq fun i => ?_
  rw [Nat.testBit_xor, Nat.testBit_two_pow_mul_add _ h, Nat.testBit_two_pow_mul]
  by_cases hi : i < k
  · simp [hi, Nat.not_le.2 hi]
  · rw [Nat.testBit_lt_two_pow (Nat.lt_of_lt_of_le h (Nat.pow_le_pow_right (by omega) (by omega : k ≤ i)))]
    simp [hi, Nat.le_of_not_lt hi]
theorem back_step {s c t : Nat} (hs : s < 2 ^ 32) (hc : c < 256) (ht : t < 2 ^ 24) (h : stB s c = t * 2 ^ 8) : s = c * 2 ^ 24 + t := by
  have e : s ^^^ c * 2 ^ 24 = t := by
    refine st8_inj (xor_lt hs (byte_lt hc)) (by omega) ?_
    rw [st8_low ht]; exact h
  rw [← xor_back s (c * 2 ^ 24), e, Nat.xor_comm, add_xor _ _ 24 ht]
/-- From a cleared state four bytes that are not all 0 lead to a state that is not cleared. -/
theorem four_zero {m0 m1 m2 m3 : Nat} (h0 : m0 < 256) (h1 : m1 < 256) (h2 : m2 < 256) (h3 : m3 < 256) (h : stB (stB (stB (stB 0 m0) m1) m2) m3 = 0) : m0 = 0 ∧ m1 = 0 ∧ m2 = 0 ∧ m3 = 0 := by
  have a3 := back_step (t := 0) (stB_lt _ _) h3 (by decide) h
  have a2 := back_step (t := m3 * 2 ^ 16) (stB_lt _ _) h2 (by omega) (a3.trans (by omega))
  have a1 := back_step (t := m2 * 2 ^ 16 + m3 * 2 ^ 8) (stB_lt _ _) h1 (by omega) (a2.trans (by omega))
  have a0 := back_step (t := m1 * 2 ^ 16 + m2 * 2 ^ 8 + m3) (by decide) h0 (by omega) (a1.trans (by omega))
  omega
/-- Changed bits within four adjacent bytes change the sum. -/
theorem tells {pre post : List Nat} {x0 x1 x2 x3 m0 m1 m2 m3 : Nat} (h0 : m0 < 256) (h1 : m1 < 256) (h2 : m2 < 256) (h3 : m3 < 256) (hp : ∀ c ∈ post, c < 256) (hm : ¬ (m0 = 0 ∧ m1 = 0 ∧ m2 = 0 ∧ m3 = 0)) :
    sum (pre ++ ([x0, x1, x2, x3] ++ post)) ≠ sum (pre ++ ([x0 ^^^ m0, x1 ^^^ m1, x2 ^^^ m2, x3 ^^^ m3] ++ post)) := by
  intro h
  unfold sum more at h
  have h' : crc (0 ^^^ full) (pre ++ ([x0, x1, x2, x3] ++ post)) = crc (0 ^^^ full) (pre ++ ([x0 ^^^ m0, x1 ^^^ m1, x2 ^^^ m2, x3 ^^^ m3] ++ post)) := by
    rw [← xor_back (crc _ (pre ++ ([x0, x1, x2, x3] ++ post))) full, h, xor_back]
  rw [crc_append, crc_append, crc_append, crc_append] at h'
  generalize crc (0 ^^^ full) pre = s at h'
  have h4 := crc_inj hp (stB_lt _ _) (stB_lt _ _) h'
  refine hm (four_zero h0 h1 h2 h3 ?_)
  have back (x m : Nat) : x ^^^ (x ^^^ m) = m := by rw [← Nat.xor_assoc, Nat.xor_self, Nat.zero_xor]
  have e0 := stB_xor s s x0 (x0 ^^^ m0)
  have e1 := stB_xor (stB s x0) (stB s (x0 ^^^ m0)) x1 (x1 ^^^ m1)
  have e2 := stB_xor (stB (stB s x0) x1) (stB (stB s (x0 ^^^ m0)) (x1 ^^^ m1)) x2 (x2 ^^^ m2)
  have e3 := stB_xor (stB (stB (stB s x0) x1) x2) (stB (stB (stB s (x0 ^^^ m0)) (x1 ^^^ m1)) (x2 ^^^ m2)) x3 (x3 ^^^ m3)
  rw [back, Nat.xor_self] at e0
  rw [back] at e1 e2 e3
  have h5 : stB (stB (stB (stB s x0) x1) x2) x3 = stB (stB (stB (stB s (x0 ^^^ m0)) (x1 ^^^ m1)) (x2 ^^^ m2)) (x3 ^^^ m3) := h4
  rw [h5, Nat.xor_self, ← e2, ← e1, ← e0] at e3
  exact e3
/-- Sums of zero bytes, up to 255 of them, differ. -/
def zs (s n : Nat) : Nat := n.rec s fun _ t => stB t 0
end Crc
end Go.Proofs.Ytaainefdjbmekaa
namespace Go.Proofs.Ytaainefdjbmekaa
open Go.RowKit Crc
theorem start_val (s : Nat) (hs : s < 2 ^ 32) : bits BinOp.xor IntKind.u32 IntKind.u32.max (s : Int) = ((s ^^^ full : Nat) : Int) := by
  rw [show IntKind.u32.max = ((full : Nat) : Int) by rfl, u32_xor_nat _ _ (by decide) hs, Nat.xor_comm]
theorem byte_val (t c : Nat) (ht : t < 2 ^ 32) (hc : c < 256) : bits BinOp.xor IntKind.u32 (t : Int) ((c : Int) * 16777216) = ((t ^^^ c * 2 ^ 24 : Nat) : Int) := by
  rw [show (c : Int) * 16777216 = ((c * 2 ^ 24 : Nat) : Int) by omega, u32_xor_nat _ _ ht (by omega)]
theorem high_val (x : Nat) (hx : x < 2 ^ 32) (h : 2 ^ 31 ≤ x) : bits BinOp.xor IntKind.u32 ((x : Int) * 2 % 4294967296) 1947962583 = ((st1 x : Nat) : Int) := by
  rw [show (x : Int) * 2 % 4294967296 = ((x * 2 % 4294967296 : Nat) : Int) by omega, show (1947962583 : Int) = ((1947962583 : Nat) : Int) by rfl, u32_xor_nat _ _ (by omega) (by decide), st1_high hx h]
theorem low_val (x : Nat) (h : x < 2 ^ 31) : (x : Int) * 2 = ((st1 x : Nat) : Int) := by
  rw [st1_no h]; omega
theorem take_next {l : List Nat} {k : Nat} (h : k < l.length) (s : Nat) : crc s (l.take (k + 1)) = stB (crc s (l.take k)) l[k] := by
  rw [List.take_succ_eq_append_getElem h, crc_append]; rfl
end Go.Proofs.Ytaainefdjbmekaa
namespace Go.Proofs.Ytaainefdjbmekaa
open Go.RowKit Crc
theorem stN_xor (a b : Nat) : ∀ n, stN n (a ^^^ b) = stN n a ^^^ stN n b
  | 0 => rfl
  | n + 1 => by rw [stN, stN_xor a b n, st1_xor]; rfl
/-- What the highest four bits become. -/
def h4 (v : Nat) : Nat := stN 4 (v * 268435456)
theorem h4_lt (v : Nat) : h4 v < 2 ^ 32 := st1_lt _
theorem low4 {s : Nat} (h : s < 2 ^ 28) : stN 4 s = s * 16 := by
  have e1 : st1 s = 2 * s := st1_low (by omega)
  have e2 : st1 (2 * s) = 2 * (2 * s) := st1_low (by omega)
  have e3 : st1 (2 * (2 * s)) = 2 * (2 * (2 * s)) := st1_low (by omega)
  have e4 : st1 (2 * (2 * (2 * s))) = 2 * (2 * (2 * (2 * s))) := st1_low (by omega)
  show st1 (st1 (st1 (st1 s))) = s * 16
  rw [e1, e2, e3, e4]
  omega
theorem parts_xor (x : Nat) : (x % 268435456) ^^^ (x / 268435456 * 268435456) = x := by
  refine Nat.eq_of_testBit_eq fun i => ?_
  rw [Nat.testBit_xor, show (268435456 : Nat) = 2 ^ 28 by rfl, Nat.testBit_mod_two_pow, Nat.testBit_mul_two_pow]
  by_cases hi : i < 28
  · simp [hi, Nat.not_le.2 hi]
  · have h28 : 28 ≤ i := Nat.le_of_not_lt hi
    rw [Nat.testBit_div_two_pow]
    simp [hi, h28]
theorem half_step (x : Nat) : (x * 16 % 4294967296) ^^^ h4 (x / 268435456) = stN 4 x := by
  have e : x * 16 % 4294967296 = x % 268435456 * 16 := by omega
  rw [e, ← low4 (Nat.mod_lt _ (by decide)), h4, ← stN_xor, parts_xor]
/-- The table, its first k rows written. -/
def tab (k : Nat) : Array Value := ((List.range 16).map fun j => Value.int .u32 ((if j < k then h4 j else 0 : Nat) : Int)).toArray
theorem tab_at (k : Nat) {j : Nat} (h : j < 16) : (tab k)[j]? = some (.int .u32 ((if j < k then h4 j else 0 : Nat) : Int)) := by
  unfold tab
  simp [h]
theorem tab_next (k : Nat) : (tab k).setIfInBounds k (.int .u32 ((h4 k : Nat) : Int)) = tab (k + 1) := by
  apply Array.ext_getElem?
  intro j
  rcases Nat.lt_or_ge j 16 with hj | hj
  · rw [Array.getElem?_setIfInBounds, tab_at k hj, tab_at (k + 1) hj]
    by_cases e : k = j
    · subst e
      simp [tab, hj]
    · rw [if_neg e]
      by_cases hjk : j < k
      · rw [if_pos hjk, if_pos (by omega)]
      · rw [if_neg hjk, if_neg (by omega)]
  · rw [Array.getElem?_eq_none (by simp [tab]; omega), Array.getElem?_eq_none (by simp [tab]; omega)]
theorem tab_whole {j : Nat} (h : j < 16) : (tab 16)[j]? = some (.int .u32 ((h4 j : Nat) : Int)) := by rw [tab_at 16 h, if_pos h]
set_option maxHeartbeats 400000 in
theorem shifted_any (x : Nat) (hx : x < 2 ^ 32) (w : World) :
    Calls Try.prog 103 #[.int .u32 (x : Int)] w fun e w' => e = .returned (.int .u32 (st1 x : Nat)) ∧ w = w' := by
  have hsg : IntKind.u32.signed = false := rfl
  by_cases hb : 2147483648 ≤ x
  · have q : ((x : Int) / 2147483648 == 1) = true := by simp; omega
    go_enter Try.func103, Try.ntmps103
    go_wp2
    go_ret
    exact ⟨by rw [high_val x hx hb]; rfl, rfl⟩
  · have q : ((x : Int) / 2147483648 == 1) = false := by simp; omega
    go_enter Try.func103, Try.ntmps103
    go_wp2
    go_ret
    exact ⟨by rw [low_val x (by omega)]; rfl, rfl⟩
def z16 : Array Value := Array.replicate 16 (.int .u32 0)
theorem tab_zero : tab 0 = z16 := by kernel_rfl
theorem tab_size (k : Nat) : (tab k).size = 16 := by unfold tab; simp
theorem tab_one (k : Nat) : ∀ u ∈ (tab k).toList, u.oneCell' = true := by
  intro u hu
  unfold tab at hu
  simp only [List.mem_map] at hu
  obtain ⟨n, _, rfl⟩ := hu
  rfl
theorem index_tab (kd : IntKind) {k : Nat} (hk : k < 16) (g : Nat) (w : World) : (Instr.indexAt 162 (.pointer (some ⟨g, 0, none⟩)) (.int kd (k : Int))).run Try.prog w = .ok (.pointer (some ⟨g, k, none⟩)) w := by
  have h1 : 0 ≤ (k : Int) ∧ (k : Int) < 16 := by omega
  have := Try.underlying162
  go_simp
theorem under_tab : ∀ w, (underlying 162).run Try.prog w = .ok (.array 16 130) w := by intro w; kernel_rfl
set_option maxHeartbeats 1000000 in
theorem half_any (w : World) :
    Calls Try.prog 100 #[] w fun e w' => e = .returned (.agg (tab 16)) ∧ Below w.heap.size w w' := by
  obtain ⟨t, ht⟩ : ∃ t : TypeId, t = 162 := ⟨_, rfl⟩
  have hagg : ∀ w, (isAgg t).run Try.prog w = .ok true w := by rw [ht]; intro w; kernel_rfl
  have hund : ∀ w, (underlying t).run Try.prog w = .ok (.array 16 130) w := by rw [ht]; exact under_tab
  have hix : ∀ (k : Nat), k < 16 → ∀ (g : Nat) (w : World), (Instr.indexAt t (.pointer (some ⟨g, 0, none⟩)) (.int .i64 (k : Int))).run Try.prog w = .ok (.pointer (some ⟨g, k, none⟩)) w := by rw [ht]; exact fun _ hk => index_tab _ hk
  have Hix := Lib.hid hix
  clear hix
  obtain ⟨N, hN⟩ : ∃ N : Nat, N = 16 := ⟨_, rfl⟩
  have hsz : ∀ w, (sizeOf t).run Try.prog w = .ok N w := by rw [ht, hN]; intro w; kernel_rfl
  obtain ⟨Z, hZ⟩ : ∃ Z : Array Value, Z = z16 := ⟨_, rfl⟩
  have hz0 : ∀ w, (zeroValue t).run Try.prog w = .ok (.agg Z) w := by rw [ht, hZ]; intro w; kernel_rfl
  have hz := Lib.hid (tab_zero.trans hZ.symm)
  have HN := Lib.hid hN
  have HZ := Lib.hid hZ
  have Ht := Lib.hid ht
  clear hN hZ ht
  go_enter Try.func100, Try.ntmps100
  rw [← Ht.out]
  go_wp2_with fail
  go_loopw [4] (fun i wr => ∃ k : Nat, k ≤ 16 ∧ i = .int .i64 k ∧ Blk wr (w.heap.size + 1) t (tab k) ∧ Blk wr w.heap.size t Z ∧ Below w.heap.size w wr) (fun i _ => 16 - (intOf i).toNat)
  case atStart => exact ⟨0, by omega, rfl, by rw [hz.out, show w.heap.size + 1 = (w.alloc (.cells Z t)).heap.size by simp]; exact Blk.new _ _ _, (Blk.new w _ _).alloc _, ((Below.refl _ _).alloc (Nat.le_refl _) _).alloc (by simp) _⟩
  case round =>
    obtain ⟨k, hk, rfl, hb, hr, hbl⟩ := hrel
    by_cases hlt : k < 16
    · have fz := hb.frozen k
      have cc : wr.cell? ⟨w.heap.size + 1, k, none⟩ = some (.int .u32 0) := by rw [hb.cell, tab_at k hlt, if_neg (by omega)]; rfl
      have qd : decide ((k : Int) < 16) = true := by simp; omega
      have ix := Hix.out k hlt (w.heap.size + 1)
      go_wp2_with fail
      go_loop [3, 10] (fun r c => ∃ j : Nat, j ≤ 4 ∧ c = .int .i64 j ∧ r = .int .u32 ((stN j (k * 268435456) : Nat) : Int)) (fun _ c => 4 - (intOf c).toNat)
      case atStart => exact ⟨0, by omega, rfl, by simp [stN]⟩
      case round =>
        obtain ⟨j, hj, rfl, rfl⟩ := hrel
        by_cases hjl : j < 4
        · have hx := stN_lt (s := k * 268435456) (by omega) j
          have Hs := Lib.hid (shifted_any (stN j (k * 268435456)) hx)
          go_wp2_with (go_at_call 103; refine (Hs.out _).mono ?_; rintro e w' ⟨rfl, rfl⟩)
          go_round
          case rel => exact ⟨j + 1, by omega, by go_num, rfl⟩
          case measure => simp [intOf]; omega
        · have h4 : j = 4 := by omega
          subst h4
          go_wp2_with fail
          go_roundw
          case rel => exact ⟨k + 1, by omega, by go_num, by rw [← tab_next]; exact hb.set_ k _, hr.far (by simp) _, hbl.setCell (by simp) _⟩
          case measure => simp [intOf]; omega
    · have hk16 : k = 16 := by omega
      subst hk16
      clear hlt hk
      have qd : decide (((16 : Nat) : Int) < 16) = false := rfl
      have l1 := load_blk (N := N) (by rw [tab_size, HN.out]) hb
      obtain ⟨s1, hb2⟩ := store_blk (ds := tab 16) (by rw [tab_size, HZ.out]; simp [z16]) hr (tab_one 16)
      have l2 := load_blk (N := N) (by rw [tab_size, HN.out]) hb2
      have hbl2 := below_setCells (Nat.le_refl w.heap.size) (tab 16).toList 0 wr hbl
      clear hz hb hr hb2
      obtain ⟨T, hT⟩ : ∃ T, T = tab 16 := ⟨_, rfl⟩
      rw [← hT] at l1 s1 l2 hbl2
      have hTs : T.size = N := by rw [hT, tab_size, HN.out]
      have HT := Lib.hid hT
      have HE := Lib.hid hbl2
      clear hT hbl2
      obtain ⟨W2, hW2⟩ : ∃ W2, W2 = wr.setCells w.heap.size 0 T.toList := ⟨_, rfl⟩
      rw [← hW2] at s1 l2
      have HW := Lib.hid hW2
      clear hW2
      go_wp2_with fail
      refine bodyPost_ret (v := .agg T) ?_ rfl ⟨by rw [HT.out], by rw [HW.out]; exact HE.out⟩
      simp [results, Try.results100]
      rw [← Ht.out]
      go_simp
end Go.Proofs.Ytaainefdjbmekaa
namespace Go.Proofs.Ytaainefdjbmekaa
open Go.RowKit Crc
theorem half_val (y : Nat) : bits BinOp.xor IntKind.u32 ((y : Int) * 16 % 4294967296) ((h4 (y / 268435456) : Nat) : Int) = ((stN 4 y : Nat) : Int) := by
  rw [show (y : Int) * 16 % 4294967296 = ((y * 16 % 4294967296 : Nat) : Int) by omega, u32_xor_nat _ _ (by omega) (h4_lt _), half_step]
set_option maxHeartbeats 1000000 in
theorem more_any (s : Nat) (hs : s < 2 ^ 32) (A : Option Addr) (cap : Nat) (l : List Nat) (hl : ∀ x ∈ l, x < 256) (hlen : l.length ≤ 9223372036854775807) (w : World) (hsl : Sl w w.heap.size A (byts l)) :
    Calls Try.prog 87 #[.int .u32 (s : Int), .slice A l.length cap] w fun e w' => e = .returned (.int .u32 (more s l : Nat)) ∧ Below w.heap.size w w' := by
  have hsg : IntKind.u32.signed = false := rfl
  obtain ⟨t, ht⟩ : ∃ t : TypeId, t = 162 := ⟨_, rfl⟩
  have hagg : ∀ w, (isAgg t).run Try.prog w = .ok true w := by rw [ht]; intro w; kernel_rfl
  have hund : ∀ w, (underlying t).run Try.prog w = .ok (.array 16 130) w := by rw [ht]; exact under_tab
  have hix : ∀ (k : Nat), k < 16 → ∀ (g : Nat) (w : World), (Instr.indexAt t (.pointer (some ⟨g, 0, none⟩)) (.int .u32 (k : Int))).run Try.prog w = .ok (.pointer (some ⟨g, k, none⟩)) w := by rw [ht]; exact fun _ hk => index_tab _ hk
  have Hix := Lib.hid hix
  have hi16 : (Try.prog.info? t).map (·.size) = some 16 := by rw [ht]; kernel_rfl
  obtain ⟨N, hN⟩ : ∃ N : Nat, N = 16 := ⟨_, rfl⟩
  have hsz : ∀ w, (sizeOf t).run Try.prog w = .ok N w := by rw [ht, hN]; intro w; kernel_rfl
  obtain ⟨Z, hZ⟩ : ∃ Z : Array Value, Z = z16 := ⟨_, rfl⟩
  have hz0 : ∀ w, (zeroValue t).run Try.prog w = .ok (.agg Z) w := by rw [ht, hZ]; intro w; kernel_rfl
  obtain ⟨T, hT⟩ : ∃ T, T = tab 16 := ⟨_, rfl⟩
  have hTs : T.size = N := by rw [hT, tab_size, hN]
  have store : ∀ w1 : World, (storeCells ⟨w1.heap.size, 0, none⟩ T.toList 0).run Try.prog (w1.alloc (.cells Z t)) = .ok () (w1.alloc (.cells T t)) := fun w1 =>
    run_storeCells_new w1 t Z T (by rw [hi16, hT, tab_size]) (by rw [hT, hZ, tab_size]; simp [z16]) (by rw [Array.all_eq_true_iff_forall_mem, hT]; intro u hu; exact tab_one 16 u (by simpa using hu))
  have Hst := Lib.hid store
  have Hh := Lib.hid (half_any w)
  rw [← hT] at Hh
  have HT := Lib.hid hT
  have E1 : Op.alloc 162 = Op.alloc t := by rw [ht]
  have E2 : ∀ a b, Op.store 162 a b = Op.store t a b := by rw [ht]; exact fun _ _ => rfl
  have E3 : ∀ a b, Op.indexAddr 162 a b = Op.indexAddr t a b := by rw [ht]; exact fun _ _ => rfl
  clear hN hZ ht hix hi16 store hT
  go_enter Try.func87, Try.ntmps87
  simp only [E1, E2, E3]
  clear E1 E2 E3
  go_wp2_with fail
  refine Hh.out.mono ?_
  rintro e w1 ⟨rfl, hb1⟩
  have st1 := Hst.out w1
  go_wp2_with fail
  have hblk : Blk (w1.alloc (.cells T t)) w1.heap.size t T := Blk.new _ _ _
  have hsl1 := (hsl.below hb1).below ((Below.refl _ _).alloc hb1.size (.cells T t))
  have HB := Lib.hid (hb1.alloc hb1.size (.cells T t))
  generalize hW : w1.alloc (.cells T t) = W at *
  clear hW
  generalize w1.heap.size = g at *
  rw [HT.out] at hblk
  have Hb := Lib.hid hblk
  clear hblk hz0 st1
  go_loop [6, 14] (fun t i => ∃ k : Nat, k ≤ l.length ∧ i = .int .i64 k ∧ t = .int .u32 (crc (s ^^^ full) (l.take k) : Nat)) (fun _ i => l.length - (intOf i).toNat)
  case atStart => exact ⟨0, Nat.zero_le _, rfl, by rw [start_val s hs]; rfl⟩
  case round =>
    obtain ⟨k, hk, rfl, rfl⟩ := hrel
    by_cases hlt : k < l.length
    · obtain ⟨b, o, rfl, hB, hc⟩ := hsl1.at_ (i := k) (by simpa [byts] using hlt)
      have hcell : W.cell? ⟨b, o + k, none⟩ = some (.int .u8 (l[k] : Int)) := by
        have := hc k (by simpa [byts] using hlt)
        simpa [byts] using this
      clear hc hsl1
      have ht := crc_lt (xor_lt hs full_lt) (l.take k)
      have Hn := Lib.hid (take_next hlt (s ^^^ full))
      have hbyte := hl l[k] (List.getElem_mem _)
      generalize crc (s ^^^ full) (l.take k) = t0 at *
      have hy := xor_lt ht (byte_lt hbyte)
      have q1 := byte_val t0 _ ht hbyte
      have He : Hid (stB t0 l[k] = stN 4 (stN 4 (t0 ^^^ l[k] * 2 ^ 24))) := Lib.hid rfl
      generalize t0 ^^^ l[k] * 2 ^ 24 = y at *
      have q2 := half_val y
      have q3 := half_val (stN 4 y)
      have hy4 := stN_lt hy 4
      have i1 := Hix.out (y / 268435456) (by omega) g
      have i2 := Hix.out (stN 4 y / 268435456) (by omega) g
      have c1 : W.cell? ⟨g, y / 268435456, none⟩ = some (.int .u32 ((h4 (y / 268435456) : Nat) : Int)) := by rw [Hb.out.cell, tab_whole (by omega)]
      have c2 : W.cell? ⟨g, stN 4 y / 268435456, none⟩ = some (.int .u32 ((h4 (stN 4 y / 268435456) : Nat) : Int)) := by rw [Hb.out.cell, tab_whole (by omega)]
      have e1 : ((y / 268435456 : Nat) : Int) = (y : Int) / 268435456 := by omega
      have e2 : ((stN 4 y / 268435456 : Nat) : Int) = ((stN 4 y : Nat) : Int) / 268435456 := by omega
      rw [e1] at i1
      rw [e2] at i2
      clear e1 e2
      generalize stN 4 y = y2 at *
      generalize stN 4 y2 = y3 at *
      generalize h4 (y / 268435456) = v1 at *
      generalize h4 (y2 / 268435456) = v2 at *
      go_wp2_with fail
      go_round
      case rel => exact ⟨k + 1, by omega, by go_num, by rw [Hn.out, He.out]⟩
      case measure => simp [intOf]; omega
    · have hkl : k = l.length := by omega
      subst hkl
      go_wp2_with fail
      go_ret
      refine ⟨?_, HB.out⟩
      show Ending.returned (.int .u32 (bits BinOp.xor IntKind.u32 IntKind.u32.max ((crc (s ^^^ full) l : Nat) : Int))) = _
      rw [start_val _ (crc_lt (xor_lt hs full_lt) l)]
      rfl
/-- The same, told of a world before. -/
theorem more_rel (s : Nat) (hs : s < 2 ^ 32) (A : Option Addr) (cap : Nat) (l : List Nat) (hl : ∀ x ∈ l, x < 256) (hlen : l.length ≤ 9223372036854775807) {w w1 : World} (hb : Below w.heap.size w w1) (hsl : Sl w1 w1.heap.size A (byts l)) :
    Calls Try.prog 87 #[.int .u32 (s : Int), .slice A l.length cap] w1 fun e w' => e = .returned (.int .u32 (more s l : Nat)) ∧ Below w.heap.size w w' :=
  (more_any s hs A cap l hl hlen w1 hsl).mono fun _ _ ⟨e, h⟩ => ⟨e, hb.trans (h.mono hb.size)⟩
set_option maxHeartbeats 400000 in
theorem sum_any (A : Option Addr) (cap : Nat) (l : List Nat) (hl : ∀ x ∈ l, x < 256) (hlen : l.length ≤ 9223372036854775807) (w : World) (hsl : Sl w w.heap.size A (byts l)) :
    Calls Try.prog 88 #[.slice A l.length cap] w fun e w' => e = .returned (.int .u32 (sum l : Nat)) ∧ Below w.heap.size w w' := by
  have c := more_any 0 (by decide) A cap l hl hlen w hsl
  have C := Lib.hid c
  clear c
  go_enter Try.func88, Try.ntmps88
  go_wp2_with (go_at_call 87; refine Calls.mono C.out ?_; rintro e w' ⟨rfl, hb⟩)
  go_ret
  exact ⟨rfl, hb⟩
theorem sum_rel (A : Option Addr) (cap : Nat) (l : List Nat) (hl : ∀ x ∈ l, x < 256) (hlen : l.length ≤ 9223372036854775807) {w w1 : World} (hb : Below w.heap.size w w1) (hsl : Sl w1 w1.heap.size A (byts l)) :
    Calls Try.prog 88 #[.slice A l.length cap] w1 fun e w' => e = .returned (.int .u32 (sum l : Nat)) ∧ Below w.heap.size w w' :=
  (sum_any A cap l hl hlen w1 hsl).mono fun _ _ ⟨e, h⟩ => ⟨e, hb.trans (h.mono hb.size)⟩
end Go.Proofs.Ytaainefdjbmekaa
