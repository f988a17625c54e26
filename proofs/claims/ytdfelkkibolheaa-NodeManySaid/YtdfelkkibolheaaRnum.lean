/- The program's number: it reads as the document says. -/
import Derived.Test.YtdfelkkibolheaaLaw
import Derived.Test.YtdfelkkibolheaaVint
import Derived.Test.YtdfelkkibolheaaChecked
import Derived.WalkKit
import Derived.Lib.Hide
import Derived.LoopTactic
import Derived.Laws.BitsAllLaws
namespace Go.Proofs.Ytdfelkkibolheaa
open Go.RowKit Vint

theorem numF_next {r k x : Nat} {l : List Nat} (h : k < l.length) (hd : 128 ≤ l[k]) : numF (r + 1) k x (l.drop k) = numF r (k + 1) (x + l[k] % 128 * 2 ^ (7 * k)) (l.drop (k + 1)) := by
  rw [List.drop_eq_getElem_cons h, numF, if_pos hd]
theorem numF_last {r k x : Nat} {l : List Nat} (h : k < l.length) (hd : l[k] < 128) (h0 : ¬ (l[k] = 0 ∧ 0 < k)) : numF (r + 1) k x (l.drop k) = (x + l[k] % 128 * 2 ^ (7 * k), k + 1, 0) := by
  rw [List.drop_eq_getElem_cons h, numF, if_neg (by omega), if_neg h0]
theorem numF_nought {r k x : Nat} {l : List Nat} (h : k < l.length) (h0 : l[k] = 0 ∧ 0 < k) : numF (r + 1) k x (l.drop k) = (0, 0, 4) := by
  rw [List.drop_eq_getElem_cons h, numF, if_neg (by omega), if_pos h0]
theorem numF_short {r k x : Nat} {l : List Nat} (h : k = l.length) : numF (r + 1) k x (l.drop k) = (0, 0, 2) := by
  rw [List.drop_eq_nil_of_le (by omega), numF]

theorem andNot_byte {d : Nat} (h : d < 256) : bits BinOp.andNot IntKind.u8 (d : Int) 128 = ((d % 128 : Nat) : Int) := by
  have h' : ∀ z : Nat, z < 256 → bits BinOp.andNot IntKind.u8 (z : Int) 128 = ((z % 128 : Nat) : Int) := by decide +kernel
  exact h' d h
theorem and_byte_hi {d : Nat} (h : d < 256) (h1 : 128 ≤ d) : bits BinOp.and IntKind.u8 (d : Int) 128 = 128 := by
  have h' : ∀ z : Nat, z < 256 → 128 ≤ z → bits BinOp.and IntKind.u8 (z : Int) 128 = 128 := by decide +kernel
  exact h' d h h1
theorem and_byte_lo {d : Nat} (h1 : d < 128) : bits BinOp.and IntKind.u8 (d : Int) 128 = 0 := by
  have h' : ∀ z : Nat, z < 128 → bits BinOp.and IntKind.u8 (z : Int) 128 = 0 := by decide +kernel
  exact h' d h1
/-- A group is joined to those before it. -/
theorem or_group (k x q : Nat) (hk : k < 4) (hx : x < 2 ^ (7 * k)) (hq : q < 128) : bits BinOp.or IntKind.i64 (x : Int) ((q * 2 ^ (7 * k) : Nat) : Int) = ((x + q * 2 ^ (7 * k) : Nat) : Int) := by
  have hp : 2 ^ (7 * k) ≤ 2 ^ 21 := Nat.pow_le_pow_right (by decide) (by omega)
  have h1 : q * 2 ^ (7 * k) ≤ 127 * 2 ^ 21 := Nat.mul_le_mul (by omega) hp
  rw [i64_or_nat _ _ (by omega) (by omega), Nat.mul_comm q, Nat.or_comm, ← Nat.two_pow_add_eq_or_of_lt hx, Nat.add_comm]

theorem or_groupw (k x q : Nat) (hk : k < 4) (hx : x < 2 ^ (7 * k)) (hq : q < 128) : bits BinOp.or IntKind.i64 (x : Int) (wrap64 ((q : Int) * 2 ^ (7 * k))) = ((x + q * 2 ^ (7 * k) : Nat) : Int) := by
  have hp : 2 ^ (7 * k) ≤ 2 ^ 21 := Nat.pow_le_pow_right (by decide) (by omega)
  have h1 : q * 2 ^ (7 * k) ≤ 127 * 2 ^ 21 := Nat.mul_le_mul (by omega) hp
  have e : (q : Int) * 2 ^ (7 * k) = ((q * 2 ^ (7 * k) : Nat) : Int) := by rw [Int.natCast_mul, Int.natCast_pow]; rfl
  rw [← or_group k x q hk hx hq, e]
  congr 1
  unfold wrap64
  omega
def numV (p : Nat × Nat × Nat) : Value := .tuple #[.int .i64 (p.1 : Int), .int .i64 (p.2.1 : Int), .int .i64 (p.2.2 : Int)]

set_option maxRecDepth 4000 in
set_option maxHeartbeats 4000000 in
theorem number_any (A : Option Addr) (cap : Nat) (l : List Nat) (hl : ∀ x ∈ l, x < 256) (w : World) (hsl : Sl w w.heap.size A (byts l)) (hlen : l.length ≤ 1000000000000) :
    Calls Try.prog 57 #[.slice A l.length cap] w fun e w' => e = .returned (numV (num l)) ∧ w' = w := by
  go_enter Try.func57, Try.ntmps57
  go_wp2_with fail
  go_loop [5, 7] (fun v i => ∃ (k x : Nat), k ≤ 4 ∧ k ≤ l.length ∧ i = .int .i64 k ∧ v = .int .i64 x ∧ x < 2 ^ (7 * k) ∧ num l = numF (4 - k) k x (l.drop k)) (fun _ i => 4 - (intOf i).toNat)
  case atStart => exact ⟨0, 0, by omega, by omega, rfl, rfl, by decide, rfl⟩
  case round =>
    obtain ⟨k, x, hk, hkn, rfl, rfl, hx, he⟩ := hrel
    by_cases h4 : k = 4
    · subst h4
      have Hn : Hid (num l = (0, 0, 4)) := Lib.hid he
      clear he
      go_wp2_with fail
      go_ret3
      rw [Hn.out]
      exact ⟨rfl, rfl⟩
    obtain ⟨r, hr⟩ : ∃ r, 4 - k = r + 1 := ⟨3 - k, by omega⟩
    rw [hr] at he
    have q1 : decide ((k : Int) < 4) = true := by simp; omega
    by_cases hkl : k = l.length
    · have Hn : Hid (num l = (0, 0, 2)) := Lib.hid (he.trans (numF_short hkl))
      have q2 : (k == l.length) = true := by simpa using hkl
      clear he hkl
      go_wp2_with fail
      go_ret3
      rw [Hn.out]
      exact ⟨rfl, rfl⟩
    have hlt : k < l.length := by omega
    obtain ⟨b, o, rfl, hB, hc⟩ := hsl.at_ (i := k) (by simpa [byts] using hlt)
    have hcell : w.cell? ⟨b, o + k, none⟩ = some (.int .u8 (l[k] : Int)) := by
      have := hc k (by simpa [byts] using hlt)
      simpa [byts] using this
    have hd := hl l[k] (List.getElem_mem _)
    have hnx := numF_next (r := r) (x := x) hlt
    have hls := numF_last (r := r) (x := x) hlt
    have hno := numF_nought (r := r) (x := x) hlt
    generalize l[k] = d at *
    have a1 := andNot_byte hd
    have hq : d % 128 < 128 := Nat.mod_lt _ (by decide)
    generalize d % 128 = q at *
    have hX : x + q * 2 ^ (7 * k) < 2 ^ (7 * (k + 1)) := by
      rw [show 7 * (k + 1) = 7 * k + 7 by omega, Nat.pow_add]
      have : q * 2 ^ (7 * k) ≤ 127 * 2 ^ (7 * k) := Nat.mul_le_mul_right _ (by omega)
      omega
    have a2 := or_groupw k x q (by omega) hx hq
    generalize x + q * 2 ^ (7 * k) = X at *
    have q2 : (k == l.length) = false := by simpa using hkl
    have Hnx := Lib.hid hnx
    have Hls := Lib.hid hls
    have Hno := Lib.hid hno
    have He := Lib.hid he
    clear hnx hls hno he hc hsl hkl
    by_cases h128 : 128 ≤ d
    · have b1 := and_byte_hi hd h128
      go_wp2_with fail
      refine ⟨⟨k + 1, X, by omega, by omega, by go_num, rfl, hX, ?_⟩, by simp [intOf]; omega⟩
      rw [He.out, Hnx.out h128, show 4 - (k + 1) = r by omega]
    have b1 := and_byte_lo (d := d) (by omega)
    by_cases h0 : d = 0 ∧ 0 < k
    · obtain ⟨h0, h00⟩ := h0
      have Hn : Hid (num l = (0, 0, 4)) := Lib.hid (He.out.trans (Hno.out ⟨h0, h00⟩))
      subst h0
      clear Hno Hls Hnx He
      go_wp2_with fail
      go_ret3
      rw [Hn.out]
      exact ⟨rfl, rfl⟩
    · have Hn : Hid (num l = (X, k + 1, 0)) := Lib.hid (He.out.trans (Hls.out (by omega) h0))
      clear Hno Hls Hnx He
      have e3 : Hid (((k + 1 : Nat) : Int) = (k : Int) + 1) := Lib.hid (by omega)
      by_cases hd0 : d = 0
      · have hk0 : ¬ 0 < k := fun h => h0 ⟨hd0, h⟩
        have z1 : ((d : Int) == 0) = true := by rw [hd0]; rfl
        have z2 : decide (0 < k) = false := by simpa using hk0
        clear hd0 hk0 h0
        go_wp2_with fail
        go_ret3
        rw [Hn.out]
        exact ⟨by unfold numV; rw [e3.out]; rfl, rfl⟩
      · have z1 : ((d : Int) == 0) = false := by simp; omega
        clear hd0 h0
        go_wp2_with fail
        go_ret3
        rw [Hn.out]
        exact ⟨by unfold numV; rw [e3.out]; rfl, rfl⟩
end Go.Proofs.Ytdfelkkibolheaa
