/- The document's checksum as a function of a list of bytes: it is linear, each step can be undone, and what follows for changed bytes. -/
import Derived.KernelRfl
namespace Go.Proofs.Ythdmghocfngfgaa
namespace Crc

def poly : Nat := 0x741b8cd7
def full : Nat := 4294967295
/-- One bit. -/
def st1 (s : Nat) : Nat := (2 * s % 2 ^ 32) ^^^ (if s.testBit 31 then poly else 0)
def st8 (s : Nat) : Nat := st1 (st1 (st1 (st1 (st1 (st1 (st1 (st1 s)))))))
def stN : Nat → Nat → Nat
  | 0, s => s
  | n + 1, s => st1 (stN n s)
theorem st8_eq (s : Nat) : st8 s = stN 8 s := rfl
/-- One byte. -/
def stB (s c : Nat) : Nat := st8 (s ^^^ c * 2 ^ 24)
def crc (s : Nat) (l : List Nat) : Nat := l.foldl stB s
def more (s : Nat) (l : List Nat) : Nat := crc (s ^^^ full) l ^^^ full
def sum (l : List Nat) : Nat := more 0 l

theorem xor_lt {a b : Nat} (ha : a < 2 ^ 32) (hb : b < 2 ^ 32) : a ^^^ b < 2 ^ 32 := Nat.xor_lt_two_pow ha hb
theorem poly_lt : poly < 2 ^ 32 := by decide
theorem full_lt : full < 2 ^ 32 := by decide
theorem st1_lt (s : Nat) : st1 s < 2 ^ 32 := by
  unfold st1
  refine xor_lt (Nat.mod_lt _ (by decide)) ?_
  split
  · exact poly_lt
  · decide
theorem st8_lt (s : Nat) : st8 s < 2 ^ 32 := st1_lt _
theorem stB_lt (s c : Nat) : stB s c < 2 ^ 32 := st8_lt _
theorem crc_lt {s : Nat} (hs : s < 2 ^ 32) : ∀ l : List Nat, crc s l < 2 ^ 32
  | [] => hs
  | c :: l => crc_lt (stB_lt s c) l
theorem more_lt {s : Nat} (hs : s < 2 ^ 32) (l : List Nat) : more s l < 2 ^ 32 := xor_lt (crc_lt (xor_lt hs full_lt) l) full_lt

theorem xor4 (a b c d : Nat) : (a ^^^ b) ^^^ (c ^^^ d) = (a ^^^ c) ^^^ (b ^^^ d) := by
  rw [Nat.xor_assoc, Nat.xor_assoc, ← Nat.xor_assoc b, Nat.xor_comm b c, Nat.xor_assoc c]
theorem xor_back (a b : Nat) : (a ^^^ b) ^^^ b = a := by rw [Nat.xor_assoc, Nat.xor_self, Nat.xor_zero]

theorem double_xor (a b : Nat) : 2 * (a ^^^ b) % 2 ^ 32 = (2 * a % 2 ^ 32) ^^^ (2 * b % 2 ^ 32) := by
  rw [← Nat.xor_mod_two_pow]
  congr 1
  have h := Nat.shiftLeft_xor_distrib (a := a) (b := b) (i := 1)
  simpa [Nat.shiftLeft_eq, Nat.mul_comm] using h

theorem st1_xor (a b : Nat) : st1 (a ^^^ b) = st1 a ^^^ st1 b := by
  unfold st1
  rw [double_xor, xor4, Nat.testBit_xor]
  congr 1
  cases a.testBit 31 <;> cases b.testBit 31 <;> simp
theorem st8_xor (a b : Nat) : st8 (a ^^^ b) = st8 a ^^^ st8 b := by
  unfold st8; simp only [st1_xor]

theorem eq_of_xor {a b : Nat} (h : a ^^^ b = 0) : a = b := by
  rw [← xor_back a b, h, Nat.zero_xor]

theorem stN_lt {s : Nat} (hs : s < 2 ^ 32) : ∀ n, stN n s < 2 ^ 32
  | 0 => hs
  | _ + 1 => st1_lt _
theorem high (s : Nat) (h : s < 2 ^ 32) : s.testBit 31 = decide (2 ^ 31 ≤ s) := by
  rw [Nat.testBit_eq_decide_div_mod_eq, decide_eq_decide]
  omega

theorem st1_zero {s : Nat} (hs : s < 2 ^ 32) (h : st1 s = 0) : s = 0 := by
  unfold st1 at h
  rw [high s hs] at h
  have e := eq_of_xor h
  by_cases c : 2 ^ 31 ≤ s
  · rw [decide_eq_true c] at e
    simp only [if_true, poly] at e
    omega
  · rw [decide_eq_false c] at e
    simp at e
    omega
theorem st8_zero {s : Nat} (hs : s < 2 ^ 32) (h : st8 s = 0) : s = 0 := by
  unfold st8 at h
  exact st1_zero hs (st1_zero (st1_lt _) (st1_zero (st1_lt _) (st1_zero (st1_lt _) (st1_zero (st1_lt _) (st1_zero (st1_lt _) (st1_zero (st1_lt _) (st1_zero (st1_lt _) h)))))))
theorem st8_inj {a b : Nat} (ha : a < 2 ^ 32) (hb : b < 2 ^ 32) (h : st8 a = st8 b) : a = b := by
  refine eq_of_xor (st8_zero (xor_lt ha hb) ?_)
  rw [st8_xor, h, Nat.xor_self]

theorem byte_lt {c : Nat} (h : c < 256) : c * 2 ^ 24 < 2 ^ 32 := by omega
theorem stB_inj {a b c : Nat} (ha : a < 2 ^ 32) (hb : b < 2 ^ 32) (hc : c < 256) (h : stB a c = stB b c) : a = b := by
  have := st8_inj (xor_lt ha (byte_lt hc)) (xor_lt hb (byte_lt hc)) h
  rw [← xor_back a (c * 2 ^ 24), this, xor_back]
theorem crc_inj : ∀ {l : List Nat} {a b : Nat}, (∀ c ∈ l, c < 256) → a < 2 ^ 32 → b < 2 ^ 32 → crc a l = crc b l → a = b
  | [], _, _, _, _, _, h => h
  | c :: l, a, b, hl, ha, hb, h => stB_inj ha hb (hl c (by simp)) (crc_inj (l := l) (fun x hx => hl x (by simp [hx])) (stB_lt _ _) (stB_lt _ _) h)

theorem crc_append (s : Nat) (a b : List Nat) : crc s (a ++ b) = crc (crc s a) b := by simp [crc]
theorem more_append (s : Nat) (a b : List Nat) : more s (a ++ b) = more (more s a) b := by
  unfold more; rw [crc_append, xor_back]
theorem more_nil (s : Nat) : more s [] = s := xor_back s full
theorem sum_append (a b : List Nat) : sum (a ++ b) = more (sum a) b := more_append 0 a b

theorem mul_xor (a b k : Nat) : (a ^^^ b) * 2 ^ k = (a * 2 ^ k) ^^^ (b * 2 ^ k) := by
  have h := Nat.shiftLeft_xor_distrib (a := a) (b := b) (i := k)
  simpa [Nat.shiftLeft_eq] using h
theorem stB_xor (a b x y : Nat) : stB (a ^^^ b) (x ^^^ y) = stB a x ^^^ stB b y := by
  unfold stB
  rw [mul_xor, xor4, st8_xor]
/-- The sum of rows put together. -/
theorem crc_xor : ∀ (l m : List Nat) (a b : Nat), l.length = m.length → crc (a ^^^ b) (List.zipWith (· ^^^ ·) l m) = crc a l ^^^ crc b m
  | [], [], _, _, _ => rfl
  | x :: l, y :: m, a, b, h => by
    show crc (stB (a ^^^ b) (x ^^^ y)) (List.zipWith (· ^^^ ·) l m) = crc (stB a x) l ^^^ crc (stB b y) m
    rw [stB_xor]
    exact crc_xor l m _ _ (by simpa using h)

theorem zip_zero : ∀ (l : List Nat), List.zipWith (· ^^^ ·) l (List.replicate l.length 0) = l
  | [] => rfl
  | x :: l => by simp [List.replicate_succ, zip_zero l]

theorem sum_xor {l m : List Nat} (h : l.length = m.length) : sum l ^^^ sum m = sum (List.zipWith (· ^^^ ·) l m) ^^^ sum (List.replicate l.length 0) := by
  have hz : (List.zipWith (· ^^^ ·) l m).length = l.length := by simp [h]
  have e1 := crc_xor l m (0 ^^^ full) (0 ^^^ full) h
  have e2 := crc_xor (List.zipWith (· ^^^ ·) l m) (List.replicate l.length 0) (0 ^^^ full) (0 ^^^ full) (by simp [h])
  unfold sum more
  rw [xor4, xor4 _ full, ← e1, ← e2]
  have := zip_zero (List.zipWith (· ^^^ ·) l m)
  rw [hz] at this
  rw [this]

theorem st1_high {s : Nat} (h : s < 2 ^ 32) (h1 : 2 ^ 31 ≤ s) : st1 s = (s * 2 % 4294967296) ^^^ 1947962583 := by
  unfold st1
  rw [high s h, decide_eq_true h1, Nat.mul_comm]
  rfl
theorem st1_no {s : Nat} (h : s < 2 ^ 31) : st1 s = s * 2 % 4294967296 := by
  unfold st1
  rw [high s (by omega), decide_eq_false (by omega), Nat.mul_comm]
  simp
/-- Eight bits of a small number go straight up. -/
theorem st1_low {s : Nat} (h : s < 2 ^ 31) : st1 s = 2 * s := by
  unfold st1
  rw [high s (by omega), decide_eq_false (by omega)]
  simp
  omega
theorem st8_low {s : Nat} (h : s < 2 ^ 24) : st8 s = s * 2 ^ 8 := by
  unfold st8
  rw [st1_low (s := s) (by omega), st1_low (s := 2 * s) (by omega), st1_low (s := 2 * (2 * s)) (by omega), st1_low (s := 2 * (2 * (2 * s))) (by omega), st1_low (s := 2 * (2 * (2 * (2 * s)))) (by omega),
    st1_low (s := 2 * (2 * (2 * (2 * (2 * s))))) (by omega), st1_low (s := 2 * (2 * (2 * (2 * (2 * (2 * s)))))) (by omega), st1_low (s := 2 * (2 * (2 * (2 * (2 * (2 * (2 * s))))))) (by omega)]
  omega

theorem add_xor (a b k : Nat) (h : b < 2 ^ k) : a * 2 ^ k ^^^ b = a * 2 ^ k + b := by
  rw [Nat.mul_comm]
  refine Nat.eq_of_testBit_eq fun i => ?_
  rw [Nat.testBit_xor, Nat.testBit_two_pow_mul_add _ h, Nat.testBit_two_pow_mul]
  by_cases hi : i < k
  · simp [hi, Nat.not_le.2 hi]
  · rw [Nat.testBit_lt_two_pow (Nat.lt_of_lt_of_le h (Nat.pow_le_pow_right (by omega) (by omega : k ≤ i)))]
    simp [hi, Nat.le_of_not_lt hi]

theorem back_step {s c t : Nat} (hs : s < 2 ^ 32) (hc : c < 256) (ht : t < 2 ^ 24) (h : stB s c = t * 2 ^ 8) : s = c * 2 ^ 24 + t := by
  have e : s ^^^ c * 2 ^ 24 = t := by
    refine st8_inj (xor_lt hs (byte_lt hc)) (by omega) ?_
    rw [st8_low ht]; exact h
  rw [← xor_back s (c * 2 ^ 24), e, Nat.xor_comm, add_xor _ _ 24 ht]

/-- From a cleared state four bytes that are not all 0 lead to a state that is not cleared. -/
theorem four_zero {m0 m1 m2 m3 : Nat} (h0 : m0 < 256) (h1 : m1 < 256) (h2 : m2 < 256) (h3 : m3 < 256) (h : stB (stB (stB (stB 0 m0) m1) m2) m3 = 0) : m0 = 0 ∧ m1 = 0 ∧ m2 = 0 ∧ m3 = 0 := by
  have a3 := back_step (t := 0) (stB_lt _ _) h3 (by decide) h
  have a2 := back_step (t := m3 * 2 ^ 16) (stB_lt _ _) h2 (by omega) (a3.trans (by omega))
  have a1 := back_step (t := m2 * 2 ^ 16 + m3 * 2 ^ 8) (stB_lt _ _) h1 (by omega) (a2.trans (by omega))
  have a0 := back_step (t := m1 * 2 ^ 16 + m2 * 2 ^ 8 + m3) (by decide) h0 (by omega) (a1.trans (by omega))
  omega

/-- Changed bits within four adjacent bytes change the sum. -/
theorem tells {pre post : List Nat} {x0 x1 x2 x3 m0 m1 m2 m3 : Nat} (h0 : m0 < 256) (h1 : m1 < 256) (h2 : m2 < 256) (h3 : m3 < 256) (hp : ∀ c ∈ post, c < 256) (hm : ¬ (m0 = 0 ∧ m1 = 0 ∧ m2 = 0 ∧ m3 = 0)) :
    sum (pre ++ ([x0, x1, x2, x3] ++ post)) ≠ sum (pre ++ ([x0 ^^^ m0, x1 ^^^ m1, x2 ^^^ m2, x3 ^^^ m3] ++ post)) := by
  intro h
  unfold sum more at h
  have h' : crc (0 ^^^ full) (pre ++ ([x0, x1, x2, x3] ++ post)) = crc (0 ^^^ full) (pre ++ ([x0 ^^^ m0, x1 ^^^ m1, x2 ^^^ m2, x3 ^^^ m3] ++ post)) := by
    rw [← xor_back (crc _ (pre ++ ([x0, x1, x2, x3] ++ post))) full, h, xor_back]
  rw [crc_append, crc_append, crc_append, crc_append] at h'
  generalize crc (0 ^^^ full) pre = s at h'
  have h4 := crc_inj hp (stB_lt _ _) (stB_lt _ _) h'
  refine hm (four_zero h0 h1 h2 h3 ?_)
  have back (x m : Nat) : x ^^^ (x ^^^ m) = m := by rw [← Nat.xor_assoc, Nat.xor_self, Nat.zero_xor]
  have e0 := stB_xor s s x0 (x0 ^^^ m0)
  have e1 := stB_xor (stB s x0) (stB s (x0 ^^^ m0)) x1 (x1 ^^^ m1)
  have e2 := stB_xor (stB (stB s x0) x1) (stB (stB s (x0 ^^^ m0)) (x1 ^^^ m1)) x2 (x2 ^^^ m2)
  have e3 := stB_xor (stB (stB (stB s x0) x1) x2) (stB (stB (stB s (x0 ^^^ m0)) (x1 ^^^ m1)) (x2 ^^^ m2)) x3 (x3 ^^^ m3)
  rw [back, Nat.xor_self] at e0
  rw [back] at e1 e2 e3
  have h5 : stB (stB (stB (stB s x0) x1) x2) x3 = stB (stB (stB (stB s (x0 ^^^ m0)) (x1 ^^^ m1)) (x2 ^^^ m2)) (x3 ^^^ m3) := h4
  rw [h5, Nat.xor_self, ← e2, ← e1, ← e0] at e3
  exact e3

/-- Sums of zero bytes, up to 255 of them, differ. -/
def zs (s n : Nat) : Nat := n.rec s fun _ t => stB t 0
theorem crc_zeros (s : Nat) : ∀ n, crc s (List.replicate n 0) = zs s n
  | 0 => rfl
  | n + 1 => by
    rw [List.replicate_succ', crc_append, crc_zeros s n]; rfl
theorem zs_add (s a : Nat) : ∀ b, zs s (a + b) = zs (zs s a) b
  | 0 => rfl
  | b + 1 => by
    show stB (zs s (a + b)) 0 = stB (zs (zs s a) b) 0
    rw [zs_add s a b]
theorem zs_lt {s : Nat} (hs : s < 2 ^ 32) : ∀ n, zs s n < 2 ^ 32
  | 0 => hs
  | _ + 1 => stB_lt _ _
theorem zs_inj {a b : Nat} (ha : a < 2 ^ 32) (hb : b < 2 ^ 32) : ∀ n, zs a n = zs b n → a = b
  | 0, h => h
  | n + 1, h => zs_inj ha hb n (stB_inj (zs_lt ha n) (zs_lt hb n) (by decide) h)
theorem no_return : ∀ d, d < 256 → 0 < d → zs full d ≠ full := by decide +kernel
theorem zeros_differ {n m : Nat} (hn : n < 256) (hm : m < 256) (h : sum (List.replicate n 0) = sum (List.replicate m 0)) : n = m := by
  have h' : zs full n = zs full m := by
    unfold sum more at h
    rw [Nat.zero_xor, crc_zeros, crc_zeros] at h
    rw [← xor_back (zs full n) full, h, xor_back]
  have key : ∀ a b, a < b → b < 256 → zs full a = zs full b → False := by
    intro a b hab hb e
    have : b = (b - a) + a := by omega
    rw [this, zs_add] at e
    have := zs_inj full_lt (zs_lt full_lt _) a e
    exact no_return (b - a) (by omega) (by omega) this.symm
  rcases Nat.lt_trichotomy n m with c | c | c
  · exact (key n m c hm h').elim
  · exact c
  · exact (key m n c hn h'.symm).elim

end Crc
end Go.Proofs.Ythdmghocfngfgaa
