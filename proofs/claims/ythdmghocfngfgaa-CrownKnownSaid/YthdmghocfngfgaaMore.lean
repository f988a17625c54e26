/- What calls of the document's own checksum do. -/
import Derived.Test.YthdmghocfngfgaaRows
import Derived.Test.YthdmghocfngfgaaCrc
import Derived.Test.YthdmghocfngfgaaLaw
import Derived.WalkKit
import Derived.WalkSpells
import Derived.WalkLawsBesides
import Derived.Handy
import Derived.Lib.Hide
namespace Go.Proofs.Ythdmghocfngfgaa
open Go.RowKit Crc

theorem start_val (s : Nat) (hs : s < 2 ^ 32) : bits BinOp.xor IntKind.u32 IntKind.u32.max (s : Int) = ((s ^^^ full : Nat) : Int) := by
  rw [show IntKind.u32.max = ((full : Nat) : Int) by rfl, u32_xor_nat _ _ (by decide) hs, Nat.xor_comm]
theorem byte_val (t c : Nat) (ht : t < 2 ^ 32) (hc : c < 256) : bits BinOp.xor IntKind.u32 (t : Int) ((c : Int) * 16777216) = ((t ^^^ c * 2 ^ 24 : Nat) : Int) := by
  rw [show (c : Int) * 16777216 = ((c * 2 ^ 24 : Nat) : Int) by omega, u32_xor_nat _ _ ht (by omega)]
theorem high_val (x : Nat) (hx : x < 2 ^ 32) (h : 2 ^ 31 ≤ x) : bits BinOp.xor IntKind.u32 ((x : Int) * 2 % 4294967296) 1947962583 = ((st1 x : Nat) : Int) := by
  rw [show (x : Int) * 2 % 4294967296 = ((x * 2 % 4294967296 : Nat) : Int) by omega, show (1947962583 : Int) = ((1947962583 : Nat) : Int) by rfl, u32_xor_nat _ _ (by omega) (by decide), st1_high hx h]
theorem low_val (x : Nat) (h : x < 2 ^ 31) : (x : Int) * 2 = ((st1 x : Nat) : Int) := by
  rw [st1_no h]; omega
theorem take_next {l : List Nat} {k : Nat} (h : k < l.length) (s : Nat) : crc s (l.take (k + 1)) = stB (crc s (l.take k)) l[k] := by
  rw [List.take_succ_eq_append_getElem h, crc_append]; rfl

set_option maxHeartbeats 400000 in
theorem rmore_any (s : Nat) (hs : s < 2 ^ 32) (A : Option Addr) (cap : Nat) (l : List Nat) (hl : ∀ x ∈ l, x < 256) (hlen : l.length ≤ 9223372036854775807) (w : World) (hsl : Sl w w.heap.size A (byts l)) :
    Calls Try.prog 41 #[.int .u32 (s : Int), .slice A l.length cap] w fun e w' => e = .returned (.int .u32 (more s l : Nat)) ∧ w = w' := by
  have hsg : IntKind.u32.signed = false := rfl
  go_enter Try.func41, Try.ntmps41
  go_wp2
  go_loop [0, 5] (fun t i => ∃ k : Nat, k ≤ l.length ∧ i = .int .i64 k ∧ t = .int .u32 (crc (s ^^^ full) (l.take k) : Nat)) (fun _ i => l.length - (intOf i).toNat)
  case atStart => exact ⟨0, Nat.zero_le _, rfl, by rw [start_val s hs]; rfl⟩
  case round =>
    obtain ⟨k, hk, rfl, rfl⟩ := hrel
    by_cases hlt : k < l.length
    · obtain ⟨b, o, rfl, hB, hc⟩ := hsl.at_ (i := k) (by simpa [byts] using hlt)
      have hcell : w.cell? ⟨b, o + k, none⟩ = some (.int .u8 (l[k] : Int)) := by
        have := hc k (by simpa [byts] using hlt)
        simpa [byts] using this
      clear hc
      have ht := crc_lt (xor_lt hs full_lt) (l.take k)
      have Hn := Lib.hid (take_next hlt (s ^^^ full))
      have hbyte := hl l[k] (List.getElem_mem _)
      generalize crc (s ^^^ full) (l.take k) = t at *
      go_wp2
      go_loop [0, 6] (fun t' i => ∃ j x : Nat, j ≤ 8 ∧ i = .int .i64 j ∧ x < 2 ^ 32 ∧ x = stN j (t ^^^ l[k] * 2 ^ 24) ∧ t' = .int .u32 x) (fun _ i => 8 - (intOf i).toNat)
      case atStart => exact ⟨0, _, Nat.zero_le _, rfl, xor_lt ht (byte_lt hbyte), rfl, by rw [byte_val t _ ht hbyte]⟩
      case round =>
        obtain ⟨j, x, hj, rfl, hx, hxe, rfl⟩ := hrel
        have Hxe := Lib.hid hxe
        clear hxe
        by_cases hjlt : j < 8
        · by_cases hb : 2147483648 ≤ x
          · have q : ((x : Int) / 2147483648 == 1) = true := by simp; omega
            go_wp2
            go_round
            case rel => exact ⟨j + 1, st1 x, by omega, by go_num, st1_lt x, by rw [Hxe.out]; rfl, by rw [high_val x hx hb]⟩
            case measure => simp [intOf]; omega
          · go_wp2
            go_round
            case rel => exact ⟨j + 1, st1 x, by omega, by go_num, st1_lt x, by rw [Hxe.out]; rfl, by rw [low_val x (by omega)]⟩
            case measure => simp [intOf]; omega
        · have h8 : j = 8 := by omega
          subst h8
          go_wp2
          go_round
          case rel => exact ⟨k + 1, by omega, by go_num, by rw [Hn.out, Hxe.out]; rfl⟩
          case measure => simp [intOf]; omega
    · have hkl : k = l.length := by omega
      subst hkl
      go_wp2
      go_ret
      refine ⟨?_, rfl⟩
      show Ending.returned (.int .u32 (bits BinOp.xor IntKind.u32 IntKind.u32.max ((crc (s ^^^ full) l : Nat) : Int))) = _
      rw [start_val _ (crc_lt (xor_lt hs full_lt) l)]
      rfl

end Go.Proofs.Ythdmghocfngfgaa
