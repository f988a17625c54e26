/- The program's finder: how it lies in memory; four, hash. -/
import Derived.Test.YtpfhkbagapodoaaBy
import Derived.Test.YtpfhkbagapodoaaCells
import Derived.Test.YtpfhkbagapodoaaLzpk
import Derived.LoopTactic
namespace Go.Proofs.Ytpfhkbagapodoaa
open Go.RowKit
/-- The cells of a finder that has seen nothing. -/
def fin0 (v : Value) : Array Value := (v :: (List.replicate 4096 (.int .i64 0) ++ [.int .i64 0])).toArray
theorem fin_zero : ∀ w, (zeroValue 47).run Try.prog w = .ok (.agg (fin0 (.slice none 0 0))) w := fun w => by kernel_rfl
theorem fin_size : ∀ w, (sizeOf 47).run Try.prog w = .ok 4098 w := fun w => by kernel_rfl

/-- Block g is a finder of the bytes l that has seen the places before n; the bytes lie in memory older than B. -/
structure Fin (w : World) (B g : Nat) (A : Option Addr) (c : Nat) (l : List Nat) (n : Nat) : Prop where
  bg : B ≤ g
  sl : Sl w B A (byts l)
  ex : ∃ cs : Array Value, Blk w g 47 cs ∧ cs.size = 4098 ∧ cs[0]? = some (.slice A l.length c) ∧ (∀ h, h < 4096 → cs[1 + h]? = some (.int .i64 ((Lz.seenV l n h : Nat) : Int))) ∧ cs[4097]? = some (.int .i64 (n : Int))
section
variable {w w' : World} {B g c n : Nat} {A : Option Addr} {l : List Nat}
theorem Fin.keep (h : Fin w B g A c l n) (hg : w'.heap[g]? = w.heap[g]?) (hb : Below B w w') : Fin w' B g A c l n := by
  obtain ⟨cs, h0, h1⟩ := h.ex
  exact ⟨h.bg, h.sl.below hb, cs, h0.keep hg, h1⟩
theorem Fin.lt (h : Fin w B g A c l n) : g < w.heap.size := by
  obtain ⟨cs, h0, h1⟩ := h.ex
  exact h0.lt
theorem Fin.data (h : Fin w B g A c l n) : w.cell? ⟨g, 0, none⟩ = some (.slice A l.length c) := by
  obtain ⟨cs, h0, _, h1, _⟩ := h.ex
  rw [h0.cell]; exact h1
theorem Fin.seen (h : Fin w B g A c l n) {k : Nat} (hk : k < 4096) : w.cell? ⟨g, 1 + k, none⟩ = some (.int .i64 ((Lz.seenV l n k : Nat) : Int)) := by
  obtain ⟨cs, h0, _, _, h1, _⟩ := h.ex
  rw [h0.cell]; exact h1 k hk
theorem Fin.next (h : Fin w B g A c l n) : w.cell? ⟨g, 4097, none⟩ = some (.int .i64 (n : Int)) := by
  obtain ⟨cs, h0, _, _, _, h1⟩ := h.ex
  rw [h0.cell]; exact h1
theorem Fin.frozen (h : Fin w B g A c l n) (k : Nat) : w.frozen? ⟨g, k, none⟩ = false := by
  obtain ⟨cs, h0, _⟩ := h.ex
  exact h0.frozen k
theorem Fin.drewN (h : Fin w B g A c l n) (k : Nat) : Fin (w.drewN k) B g A c l n := h.keep rfl ⟨rfl, rfl, rfl, Nat.le_refl _, fun _ _ => rfl⟩
/-- One place more is seen. -/
theorem Fin.step (h : Fin w B g A c l n) {k : Nat} (hk : Lz.hash (Lz.four l n) = k) : Fin ((w.setCell ⟨g, 1 + k, none⟩ (.int .i64 ((n + 1 : Nat) : Int))).setCell ⟨g, 4097, none⟩ (.int .i64 ((n + 1 : Nat) : Int))) B g A c l (n + 1) := by
  obtain ⟨cs, h0, h1, h2, h3, h4⟩ := h.ex
  have hk4 : k < 4096 := by rw [← hk]; exact Lz.hash_lt _
  refine ⟨h.bg, h.sl.below (((Below.refl B w).setCell (p := ⟨g, 1 + k, none⟩) h.bg _).setCell (p := ⟨g, 4097, none⟩) h.bg _), _, (h0.set_ (1 + k) _).set_ 4097 _, by simpa using h1, ?_, fun j hj => ?_, ?_⟩
  · rw [Array.getElem?_setIfInBounds_ne (by omega), Array.getElem?_setIfInBounds_ne (by omega)]; exact h2
  · rw [Array.getElem?_setIfInBounds_ne (by omega)]
    unfold Lz.seenV
    rw [hk]
    by_cases hkj : k = j
    · subst hkj
      rw [Array.getElem?_setIfInBounds_self_of_lt (by omega), if_pos rfl]
    · rw [Array.getElem?_setIfInBounds_ne (by omega), if_neg hkj]; exact h3 j hj
  · rw [Array.getElem?_setIfInBounds_self_of_lt (by simp; omega)]
end
theorem u32_or (a b : Nat) (ha : a < 4294967296) (hb : b < 4294967296) : bits .or .u32 (a : Int) (b : Int) = ((a ||| b : Nat) : Int) := by
  have hx : a ||| b < 2 ^ 32 := Nat.or_lt_two_pow (by omega) (by omega)
  show IntKind.u32.wrap ((BitVec.ofInt 32 (a : Int) ||| BitVec.ofInt 32 (b : Int)).toNat : Int) = _
  rw [BitVec.toNat_or, BitVec.ofInt_natCast, BitVec.ofInt_natCast, BitVec.toNat_ofNat, BitVec.toNat_ofNat, Nat.mod_eq_of_lt (by omega), Nat.mod_eq_of_lt (by omega), IntKind.wrap_u32]
  omega
theorem or_b32 (k a b : Nat) (hk : k ≤ 24) (ha : a < 2 ^ k) (hb : b < 256) : bits BinOp.or IntKind.u32 (a : Int) ((b : Int) * ((2 ^ k : Nat) : Int)) = ((a + b * 2 ^ k : Nat) : Int) := by
  have hp : 2 ^ k ≤ 2 ^ 24 := Nat.pow_le_pow_right (by decide) hk
  have h1 : b * 2 ^ k ≤ 255 * 2 ^ 24 := Nat.mul_le_mul (by omega) hp
  rw [← Int.natCast_mul, u32_or _ _ (by omega) (by omega), Nat.mul_comm b, Nat.or_comm, ← Nat.two_pow_add_eq_or_of_lt ha, Nat.add_comm]
theorem f8or {a b : Nat} (ha : a < 256) (hb : b < 256) : bits BinOp.or IntKind.u32 (a : Int) ((b : Int) * 256) = (a : Int) + (b : Int) * 256 := or_b32 8 a b (by decide) ha hb
theorem f16or {a b c : Nat} (ha : a < 256) (hb : b < 256) (hc : c < 256) : bits BinOp.or IntKind.u32 ((a : Int) + (b : Int) * 256) ((c : Int) * 65536) = (a : Int) + (b : Int) * 256 + (c : Int) * 65536 := or_b32 16 (a + b * 256) c (by decide) (by omega) hc
theorem f24or {a b c d : Nat} (ha : a < 256) (hb : b < 256) (hc : c < 256) (hd : d < 256) : bits BinOp.or IntKind.u32 ((a : Int) + (b : Int) * 256 + (c : Int) * 65536) ((d : Int) * 16777216) = (a : Int) + (b : Int) * 256 + (c : Int) * 65536 + (d : Int) * 16777216 := or_b32 24 (a + b * 256 + c * 65536) d (by decide) (by omega) hd
theorem f0or {a : Nat} (ha : a < 256) : bits BinOp.or IntKind.u32 0 (a : Int) = (a : Int) := by
  have := u32_or 0 a (by decide) (by omega)
  simpa using this

set_option maxRecDepth 4000 in
set_option maxHeartbeats 4000000 in
theorem four_any {w : World} {B g c n : Nat} {A : Option Addr} {l : List Nat} (h : Fin w B g A c l n) (hl : ∀ x ∈ l, x < 256) (hlc : l.length ≤ c) (a : Nat) (z : Int) (hz : z = (a : Int)) (ha : a + 4 ≤ l.length) (hlen : l.length ≤ 4096) :
    Calls Try.prog 26 #[.pointer (some ⟨g, 0, none⟩), .int .i64 z] w fun e w' => e = .returned (.int .u32 ((Lz.four l a : Nat) : Int)) ∧ w' = w := by
  subst hz
  obtain ⟨i0, hi0, _, hs0, _⟩ := byte_parts (P := Try.prog) (e := 5) (by kernel_rfl)
  obtain ⟨b, o, rfl, c0⟩ := sl_cell h.sl (k := a) (by omega)
  obtain ⟨b', o', e, c1⟩ := sl_cell h.sl (k := a + 1) (by omega)
  obtain ⟨rfl, rfl⟩ : b' = b ∧ o' = o := by simpa using e.symm
  obtain ⟨b'', o'', e, c2⟩ := sl_cell h.sl (k := a + 2) (by omega)
  obtain ⟨rfl, rfl⟩ : b'' = b' ∧ o'' = o' := by simpa using e.symm
  obtain ⟨b3, o3, e, c3⟩ := sl_cell h.sl (k := a + 3) (by omega)
  obtain ⟨rfl, rfl⟩ : b3 = b'' ∧ o3 = o'' := by simpa using e.symm
  have hcut : ∀ w, (Instr.slice 22 (.slice (some ⟨b3, o3, none⟩) l.length c) (some (.int .i64 (a : Int))) (some (.int .i64 ((a : Int) + 4))) none).run Try.prog w = .ok (.slice (some ⟨b3, o3 + a, none⟩) 4 (c - a)) w := fun w => by
    have := run_slice_mid (P := Try.prog) Try.underlying22 hi0 hs0 (some ⟨b3, o3, none⟩) l.length c a (a + 4) (by omega) (by omega) w
    rw [Int.natCast_add, show a + 4 - a = 4 by omega] at this
    unfold cutA at this
    rw [if_neg (by omega)] at this
    simpa [Addr.add_lit] using this
  have d0 := h.data
  have h0 := getB_lt hl a
  have h1 := getB_lt hl (a + 1)
  have h2 := getB_lt hl (a + 2)
  have h3 := getB_lt hl (a + 3)
  rw [← Nat.add_assoc] at c1 c2 c3
  unfold Lz.four
  generalize l.getD a 0 = x0 at *
  generalize l.getD (a + 1) 0 = x1 at *
  generalize l.getD (a + 2) 0 = x2 at *
  generalize l.getD (a + 3) 0 = x3 at *
  have haI : -9223372036854775808 ≤ (a : Int) + 4 ∧ (a : Int) + 4 ≤ 9223372036854775807 := by omega
  generalize l.length = N at *
  clear h hl
  have o00 := f0or h0
  have o0 := f8or h0 h1
  have oo1 := f16or h0 h1 h2
  have oo2 := f24or h0 h1 h2 h3
  go_enter Try.func26, Try.ntmps26
  go_wp2_with fail
  refine wp_loop_rounds 5 ?_
  rw [rounds_succ]
  go_wp2_with fail
  rw [rounds_succ]
  go_wp2_with fail
  rw [rounds_succ]
  go_wp2_with fail
  rw [rounds_succ]
  go_wp2_with fail
  rw [rounds_succ]
  go_wp2_with fail
  go_ret
  exact ⟨by simp, rfl⟩

set_option maxHeartbeats 1000000 in
theorem hash_any (x : Nat) (z : Int) (hz : z = (x : Int)) (w : World) :
    Calls Try.prog 25 #[.int .u32 z] w fun e w' => e = .returned (.int .u32 ((Lz.hash x : Nat) : Int)) ∧ w' = w := by
  subst hz
  have hw : IntKind.u32.wrap ((x : Int) * 2654435761) = ((x * 2654435761 % 4294967296 : Nat) : Int) := by rw [IntKind.wrap_u32]; omega
  have hd : ((x * 2654435761 % 4294967296 : Nat) : Int) / 1048576 = ((Lz.hash x : Nat) : Int) := by unfold Lz.hash; omega
  generalize x * 2654435761 % 4294967296 = y at *
  generalize Lz.hash x = hv at *
  go_enter Try.func25, Try.ntmps25
  go_wp2_with fail
  go_ret
  exact ⟨rfl, rfl⟩
end Go.Proofs.Ytpfhkbagapodoaa
