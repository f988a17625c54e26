/- Numbers of four bytes, the lowest first: the document's get and le. -/
import Derived.Test.YtpicalkcgioimaaApp
import Derived.Test.YtpicalkcgioimaaBits
import Derived.Test.YtpicalkcgioimaaHeap
import Derived.Test.YtpicalkcgioimaaBclone
import Derived.BigQuiet
import Derived.WalkKit
import Derived.WalkSpells
import Derived.WalkLawsBesides
import Derived.Handy
import Derived.IntWalk
import Derived.Lib.Hide
namespace Go.Proofs.Ytpicalkcgioimaa
open Go.RowKit

/-- The number in four bytes from k on. -/
def g4 (l : List Nat) (k : Nat) : Nat := l.getD k 0 + l.getD (k + 1) 0 * 256 + l.getD (k + 2) 0 * 65536 + l.getD (k + 3) 0 * 16777216
/-- A number's four bytes. -/
def le4 (x : Nat) : List Nat := [x % 256, x / 256 % 256, x / 65536 % 256, x / 16777216 % 256]
theorem getB_lt {l : List Nat} (hl : ∀ x ∈ l, x < 256) (k : Nat) : l.getD k 0 < 256 := by
  rw [List.getD_eq_getElem?_getD]
  rcases Nat.lt_or_ge k l.length with h | h
  · rw [List.getElem?_eq_getElem h]; exact hl _ (List.getElem_mem h)
  · rw [List.getElem?_eq_none h]; decide
theorem g4_lt {l : List Nat} (hl : ∀ x ∈ l, x < 256) (k : Nat) : g4 l k < 4294967296 := by
  have := getB_lt hl k
  have := getB_lt hl (k + 1)
  have := getB_lt hl (k + 2)
  have := getB_lt hl (k + 3)
  unfold g4
  omega
theorem le4_lt (x : Nat) : ∀ c ∈ le4 x, c < 256 := by
  intro c hc
  simp only [le4, List.mem_cons, List.not_mem_nil, or_false] at hc
  omega
theorem le4_len (x : Nat) : (le4 x).length = 4 := rfl
theorem getD_at {a b : List Nat} {k : Nat} : (a ++ b).getD (a.length + k) 0 = b.getD k 0 := by
  rw [List.getD_eq_getElem?_getD, List.getElem?_append_right (Nat.le_add_right _ _), Nat.add_sub_cancel_left, ← List.getD_eq_getElem?_getD]
theorem g4_le {x : Nat} (h : x < 4294967296) (a b : List Nat) : g4 (a ++ (le4 x ++ b)) a.length = x := by
  have e0 := getD_at (a := a) (b := le4 x ++ b) (k := 0)
  rw [Nat.add_zero] at e0
  unfold g4
  rw [e0, getD_at, getD_at, getD_at]
  simp only [le4, List.cons_append, List.nil_append, List.getD_cons_zero, List.getD_cons_succ]
  omega

theorem or_byte (k a b : Nat) (hk : k ≤ 24) (ha : a < 2 ^ k) (hb : b < 256) : bits BinOp.or IntKind.i64 (a : Int) ((b : Int) * ((2 ^ k : Nat) : Int)) = ((a + b * 2 ^ k : Nat) : Int) := by
  have hp : 2 ^ k ≤ 2 ^ 24 := Nat.pow_le_pow_right (by decide) hk
  have h1 : b * 2 ^ k ≤ 255 * 2 ^ 24 := Nat.mul_le_mul (by omega) hp
  rw [← Int.natCast_mul, i64_or_nat _ _ (by omega) (by omega), Nat.mul_comm b, Nat.or_comm, ← Nat.two_pow_add_eq_or_of_lt ha, Nat.add_comm]
theorem or8 {a b : Nat} (ha : a < 256) (hb : b < 256) : bits BinOp.or IntKind.i64 (a : Int) ((b : Int) * 256) = (a : Int) + (b : Int) * 256 := or_byte 8 a b (by decide) ha hb
theorem or16 {a b c : Nat} (ha : a < 256) (hb : b < 256) (hc : c < 256) : bits BinOp.or IntKind.i64 ((a : Int) + (b : Int) * 256) ((c : Int) * 65536) = (a : Int) + (b : Int) * 256 + (c : Int) * 65536 := or_byte 16 (a + b * 256) c (by decide) (by omega) hc
theorem or24 {a b c d : Nat} (ha : a < 256) (hb : b < 256) (hc : c < 256) (hd : d < 256) : bits BinOp.or IntKind.i64 ((a : Int) + (b : Int) * 256 + (c : Int) * 65536) ((d : Int) * 16777216) = (a : Int) + (b : Int) * 256 + (c : Int) * 65536 + (d : Int) * 16777216 := or_byte 24 (a + b * 256 + c * 65536) d (by decide) (by omega) hd

theorem sl_cell {w : World} {B : Nat} {A : Option Addr} {l : List Nat} (h : Sl w B A (byts l)) {k : Nat} (hk : k < l.length) : ∃ b o, A = some ⟨b, o, none⟩ ∧ w.cell? ⟨b, o + k, none⟩ = some (.int .u8 ((l.getD k 0 : Nat) : Int)) := by
  rcases h with h0 | ⟨b, o, e, _, hi⟩
  · have := congrArg List.length h0
    rw [byts_length, List.length_nil] at this
    omega
  · refine ⟨b, o, e, ?_⟩
    rw [hi k (by rw [byts_length]; exact hk)]
    simp [byts, List.getD_eq_getElem?_getD, List.getElem?_eq_getElem hk]

set_option maxHeartbeats 2000000 in
theorem get_any (A : Option Addr) (cap : Nat) (l : List Nat) (hl : ∀ x ∈ l, x < 256) (k : Nat) (hk : k + 3 < l.length) (hlen : l.length ≤ 1000000000) {w : World} {B : Nat} (hsl : Sl w B A (byts l)) (n : Nat) :
    Calls Try.prog 28 #[.slice A l.length cap, .int .i64 (k : Int)] (w.drewN n) fun e w' => e = .returned (.int .i64 ((g4 l k : Nat) : Int)) ∧ ∃ n', w' = w.drewN n' := by
  obtain ⟨b, o, rfl, c0⟩ := sl_cell hsl (k := k) (by omega)
  obtain ⟨b', o', e, c1⟩ := sl_cell hsl (k := k + 1) (by omega)
  obtain ⟨rfl, rfl⟩ : b' = b ∧ o' = o := by simpa using e.symm
  obtain ⟨b'', o'', e, c2⟩ := sl_cell hsl (k := k + 2) (by omega)
  obtain ⟨rfl, rfl⟩ : b'' = b' ∧ o'' = o' := by simpa using e.symm
  obtain ⟨b3, o3, e, c3⟩ := sl_cell hsl (k := k + 3) (by omega)
  obtain ⟨rfl, rfl⟩ : b3 = b'' ∧ o3 = o'' := by simpa using e.symm
  have h0 := getB_lt hl k
  have h1 := getB_lt hl (k + 1)
  have h2 := getB_lt hl (k + 2)
  have h3 := getB_lt hl (k + 3)
  unfold g4
  generalize l.getD k 0 = x0 at *
  generalize l.getD (k + 1) 0 = x1 at *
  generalize l.getD (k + 2) 0 = x2 at *
  generalize l.getD (k + 3) 0 = x3 at *
  generalize l.length = m at *
  clear hsl hl
  have o0 := or8 h0 h1
  have oo1 := or16 h0 h1 h2
  have oo2 := or24 h0 h1 h2 h3
  go_enter Try.func28, Try.ntmps28
  go_wp2_with fail
  go_quiet (fail)
  go_wp2_with fail
  go_ret
  exact ⟨by simp, n + nq, by simp [World.drewN, Nat.add_assoc]⟩
theorem get_any2 (A : Option Addr) (cap : Nat) (l : List Nat) (hl : ∀ x ∈ l, x < 256) (k : Nat) (hk : k + 3 < l.length) (hlen : l.length ≤ 1000000000) {w : World} {B : Nat} (hsl : Sl w B A (byts l)) (a n : Nat) :
    Calls Try.prog 28 #[.slice A l.length cap, .int .i64 (k : Int)] (w.drewN (a + n)) fun e w' => e = .returned (.int .i64 ((g4 l k : Nat) : Int)) ∧ ∃ n', w' = w.drewN (a + n') := by
  have h : Sl (w.drewN a) B A (byts l) := hsl
  refine Calls.mono (show Calls Try.prog _ _ (w.drewN (a + n)) _ from by
    have := get_any A cap l hl k hk hlen h n
    simpa only [World.drewN, Nat.add_assoc] using this) ?_
  rintro e w' ⟨rfl, n', rfl⟩
  exact ⟨rfl, n', by simp [World.drewN]⟩

theorem drewN_zero (w : World) : w.drewN 0 = w := by cases w; rfl
/-- The same, with the place spelled as a literal, and with what the walk keeps. -/
theorem get_lit (A : Option Addr) (cap : Nat) (l : List Nat) (hl : ∀ x ∈ l, x < 256) (k : Nat) (z : Int) (hz : z = (k : Int)) (hk : k + 3 < l.length) (hlen : l.length ≤ 1000000000) {w : World} {B : Nat} (hsl : Sl w B A (byts l)) {W : World} (hW : ∃ n, W = w.drewN n) :
    Calls Try.prog 28 #[.slice A l.length cap, .int .i64 z] W fun e w' => e = .returned (.int .i64 ((g4 l k : Nat) : Int)) ∧ ∃ n', w' = w.drewN n' := by
  obtain ⟨n, rfl⟩ := hW
  subst hz
  exact get_any A cap l hl k hk hlen hsl n

/-- Bytes that a call built in new memory. -/
def Built (w : World) (n : Nat) (l : List Nat) (e : Ending) (w' : World) : Prop :=
  ∃ A c, e = .returned (.slice A n c) ∧ w'.ownsRow w.heap.size 5 1 (.slice A n c) n (byts l) ∧ Below w.heap.size w w'
set_option maxHeartbeats 1000000 in
theorem le_any (x : Nat) (hx : x < 4294967296) (w : World) : Calls Try.prog 21 #[.int .i64 (x : Int)] w (Built w 4 (le4 x)) := by
  go_enter Try.func21, Try.ntmps21
  go_wp2_with fail
  go_ret
  have h := World.ownsRow_lit (base := w.heap.size) (e := 5) (size := 1) w #[.int .u8 ((x : Int) % 256), .int .u8 ((x : Int) / 256 % 256), .int .u8 ((x : Int) / 65536 % 256), .int .u8 ((x : Int) / 16777216)] 4 (Nat.le_refl _) (by decide) rfl
  refine ⟨some ⟨w.heap.size, 0, none⟩, 4, rfl, ?_, (Below.refl _ _).alloc (Nat.le_refl _) _⟩
  have e : byts (le4 x) = (#[.int .u8 ((x : Int) % 256), .int .u8 ((x : Int) / 256 % 256), .int .u8 ((x : Int) / 65536 % 256), .int .u8 ((x : Int) / 16777216)] : Array Value).toList := by
    simp [byts, le4]
    omega
  rw [e]
  exact h
end Go.Proofs.Ytpicalkcgioimaa
