/- TallySums returns true for all arguments; the memory that was there stays as it is. -/
import Derived.Test.YthopckljhmommaaTawake
import Derived.Test.YthopckljhmommaaCutS
import Derived.Deep.RegionHeldLaw
import Derived.IntWalk
namespace Go.Proofs.Ythopckljhmommaa
open Go.RowKit Crc

theorem sum_to_rel (A : Option Addr) (cap : Nat) (l : List Nat) (hl : ∀ x ∈ l, x < 256) (hlen : l.length ≤ 9223372036854775807) (k : Nat) (hk : k ≤ l.length) {W w : World} (hb : Below W.heap.size W w) (hsl : Sl w w.heap.size A (byts l)) :
    Calls Try.prog 10 #[.slice A k cap] w fun e w' => e = .returned (.int .u32 ((sum (l.take k) : Nat) : Int)) ∧ Below W.heap.size W w' := by
  have h := sum_rel A cap (l.take k) (fun x hx => hl x (List.mem_of_mem_take hx)) (by rw [List.length_take]; omega) hb (by rw [← byts_take]; exact hsl.to k)
  rwa [List.length_take, Nat.min_eq_left hk] at h
theorem more_from_rel (A : Option Addr) (cap : Nat) (l : List Nat) (hl : ∀ x ∈ l, x < 256) (hlen : l.length ≤ 9223372036854775807) (k : Nat) (hk : k ≤ l.length) (hcap : l.length ≤ cap) {W w : World} (hb : Below W.heap.size W w) (hsl : Sl w w.heap.size A (byts l)) :
    Calls Try.prog 12 #[.int .u32 ((sum (l.take k) : Nat) : Int), .slice (cutA A cap k) (l.length - k) (cap - k)] w fun e w' => e = .returned (.int .u32 ((sum l : Nat) : Int)) ∧ Below W.heap.size W w' := by
  have h := more_rel (sum (l.take k)) (more_lt (by decide) _) (cutA A cap k) (cap - k) (l.drop k) (fun x hx => hl x (List.mem_of_mem_drop hx)) (by rw [List.length_drop]; omega) hb (by rw [← byts_drop]; exact hsl.from (by rw [byts_length]; exact hcap))
  rwa [List.length_drop, ← sum_append, List.take_append_drop] at h
theorem u8_wrap (x : Int) (_ : 0 ≤ x) : IntKind.u8.wrap x = x % 256 := by
  simp [IntKind.wrap, IntKind.signed, IntKind.bits]
theorem eq_word (a b c d : Int) (w : World) : (Op.equalIn 10000 26 (.agg #[.int .u8 a, .int .u8 b, .int .u8 c, .int .u8 d]) (.agg #[.int .u8 a, .int .u8 b, .int .u8 c, .int .u8 d])).run Try.prog w = .ok true w := by
  have u3 := Try.underlying5
  have a3 := Try.isAgg5
  have z3 := Try.sizeOf5
  rw [show (10000 : Nat) = 9999 + 1 from rfl, Op.equalIn]
  simp only [Sem.run_bind, run_underlying Try.underlying26, Result.andThen_ok]
  simp only [Std.Legacy.Range.forIn_eq_forIn_range', Std.Legacy.Range.size, Nat.sub_zero, Nat.add_sub_cancel, Nat.div_one, List.range'_succ, List.range'_zero, List.forIn_cons, List.forIn_nil]
  go_simp

set_option maxHeartbeats 2000000 in
theorem sums_any (A : Option Addr) (cap : Nat) (l : List Nat) (hl : ∀ x ∈ l, x < 256) (hcap : l.length ≤ cap) (w : World) (hsl : Sl w w.heap.size A (byts l)) (s c : Nat) (hs : s < 2 ^ 32) (hc : c < 65536) :
    Calls Try.prog 3 #[.slice A l.length cap, .int .u32 (s : Int), .int .u16 (c : Int)] w fun e w' => e = .returned (.bool true) ∧ Below w.heap.size w w' := by
  by_cases h5000 : l.length ≤ 5000
  · obtain ⟨k, hk, hkl⟩ : ∃ k : Nat, (c : Int) % ((l.length : Int) + 1) = k ∧ k ≤ l.length := by
      refine ⟨((c : Int) % ((l.length : Int) + 1)).toNat, ?_, ?_⟩
      · have := Int.emod_nonneg (c : Int) (b := (l.length : Int) + 1) (by omega); omega
      · have := Int.emod_lt_of_pos (c : Int) (b := (l.length : Int) + 1) (by omega); omega
    go_enter Try.func3, Try.ntmps3
    go_wp2_with fail
    refine (awake_any _).mono ?_
    rintro e w1 ⟨rfl, hb⟩
    go_wp2_with (go_at_call 9; refine (word_any s hs _).mono ?_; rintro e w2 ⟨rfl, _, hb2⟩)
    have hs0 : w1.heap.size ≤ w2.heap.size := hb2.size
    have hw2 : Below w.heap.size w w2 := hb.trans (hb2.mono hb.size)
    have HB := Lib.hid (hw2.alloc hw2.size (.cells #[.int .u8 ((s : Int) / 16777216), .int .u8 ((s : Int) / 65536 % 256), .int .u8 ((s : Int) / 256 % 256), .int .u8 ((s : Int) % 256)] 26))
    have Hs := sl_keep hsl HB.out
    obtain ⟨i0, hi0, hs1⟩ := byte_size
    have cut1 := run_slice_to Try.underlying22 hi0 A l.length cap k (by omega)
    have cut2 := run_slice_from Try.underlying22 hi0 hs1 A l.length cap k hkl
    have c0 : (w2.alloc (.cells #[.int .u8 ((s : Int) / 16777216), .int .u8 ((s : Int) / 65536 % 256), .int .u8 ((s : Int) / 256 % 256), .int .u8 ((s : Int) % 256)] 26)).cell? ⟨w2.heap.size, 0, none⟩ = some (.int .u8 ((s : Int) / 16777216)) := (cell_fresh rfl).trans rfl
    have c1 : (w2.alloc (.cells #[.int .u8 ((s : Int) / 16777216), .int .u8 ((s : Int) / 65536 % 256), .int .u8 ((s : Int) / 256 % 256), .int .u8 ((s : Int) % 256)] 26)).cell? ⟨w2.heap.size, 1, none⟩ = some (.int .u8 ((s : Int) / 65536 % 256)) := (cell_fresh rfl).trans rfl
    have c2 : (w2.alloc (.cells #[.int .u8 ((s : Int) / 16777216), .int .u8 ((s : Int) / 65536 % 256), .int .u8 ((s : Int) / 256 % 256), .int .u8 ((s : Int) % 256)] 26)).cell? ⟨w2.heap.size, 2, none⟩ = some (.int .u8 ((s : Int) / 256 % 256)) := (cell_fresh rfl).trans rfl
    have c3 : (w2.alloc (.cells #[.int .u8 ((s : Int) / 16777216), .int .u8 ((s : Int) / 65536 % 256), .int .u8 ((s : Int) / 256 % 256), .int .u8 ((s : Int) % 256)] 26)).cell? ⟨w2.heap.size, 3, none⟩ = some (.int .u8 ((s : Int) % 256)) := (cell_fresh rfl).trans rfl
    have hg : w2.heap.size < (w2.alloc (.cells #[.int .u8 ((s : Int) / 16777216), .int .u8 ((s : Int) / 65536 % 256), .int .u8 ((s : Int) / 256 % 256), .int .u8 ((s : Int) % 256)] 26)).heap.size := by simp
    generalize w2.alloc (.cells #[.int .u8 ((s : Int) / 16777216), .int .u8 ((s : Int) / 65536 % 256), .int .u8 ((s : Int) / 256 % 256), .int .u8 ((s : Int) % 256)] 26) = W at *
    generalize w2.heap.size = g at *
    have eqw := eq_word ((s : Int) / 16777216) ((s : Int) / 65536 % 256) ((s : Int) / 256 % 256) ((s : Int) % 256)
    have u0 : IntKind.u8.wrap ((s : Int) / 16777216) = (s : Int) / 16777216 := u8_wrap _ (by omega) |>.trans (by omega)
    have u1 : IntKind.u8.wrap ((s : Int) / 65536) = (s : Int) / 65536 % 256 := u8_wrap _ (by omega)
    have u2 : IntKind.u8.wrap ((s : Int) / 256) = (s : Int) / 256 % 256 := u8_wrap _ (by omega)
    have u3 : IntKind.u8.wrap (s : Int) = (s : Int) % 256 := u8_wrap _ (by omega)
    have keep : ∀ w', Below W.heap.size W w' → w'.cell? ⟨g, 0, none⟩ = some (.int .u8 ((s : Int) / 16777216)) ∧ w'.cell? ⟨g, 1, none⟩ = some (.int .u8 ((s : Int) / 65536 % 256)) ∧ w'.cell? ⟨g, 2, none⟩ = some (.int .u8 ((s : Int) / 256 % 256)) ∧ w'.cell? ⟨g, 3, none⟩ = some (.int .u8 ((s : Int) % 256)) := fun w' h =>
      ⟨(h.cell (p := ⟨g, 0, none⟩) hg).trans c0, (h.cell (p := ⟨g, 1, none⟩) hg).trans c1, (h.cell (p := ⟨g, 2, none⟩) hg).trans c2, (h.cell (p := ⟨g, 3, none⟩) hg).trans c3⟩
    have Kp := Lib.hid keep
    have Hsl := Lib.hid Hs
    have hbc : Below W.heap.size W W.drew := (Below.refl _ _).drew
    clear keep Hs c0 c1 c2 c3 hb2 hw2 hb hs0
    go_region_held_law (fun w' => w'.cell? ⟨g, 0, none⟩ = some (.int .u8 ((s : Int) / 16777216)) ∧ w'.cell? ⟨g, 1, none⟩ = some (.int .u8 ((s : Int) / 65536 % 256)) ∧ w'.cell? ⟨g, 2, none⟩ = some (.int .u8 ((s : Int) / 256 % 256)) ∧ w'.cell? ⟨g, 3, none⟩ = some (.int .u8 ((s : Int) % 256))) (exact Kp.out _ hbc) (first
      | (go_at_call 10; ((with_reducible refine (sum_rel A cap l hl (by omega) hbc (sl_keep Hsl.out hbc)).mono ?_); rintro e w' ⟨rfl, hbc⟩))
      | (go_at_call 11; ((with_reducible refine (rsum_any A cap l hl (by omega) _ (sl_keep Hsl.out hbc)).mono ?_); rintro e w' ⟨rfl, rfl⟩))
      | (go_at_call 10; ((with_reducible refine (sum_to_rel A cap l hl (by omega) k hkl hbc (sl_keep Hsl.out hbc)).mono ?_); rintro e w' ⟨rfl, hbc⟩))
      | (go_at_call 12; ((with_reducible refine (more_from_rel A cap l hl (by omega) k hkl hcap hbc (sl_keep Hsl.out hbc)).mono ?_); rintro e w' ⟨rfl, hbc⟩))
      | (go_at_call 12; ((with_reducible refine (more_rel s hs A cap l hl (by omega) hbc (sl_keep Hsl.out hbc)).mono ?_); rintro e w' ⟨rfl, hbc⟩))
      | (go_at_call 13; ((with_reducible refine (rmore_any s hs A cap l hl (by omega) _ (sl_keep Hsl.out hbc)).mono ?_); rintro e w' ⟨rfl, rfl⟩)))
    all_goals (go_wp2_with fail; go_ret; exact ⟨rfl, HB.out.trans (hbc.mono HB.out.size)⟩)
  · go_enter Try.func3, Try.ntmps3
    go_wp2_with fail
    refine (awake_any _).mono ?_
    rintro e w1 ⟨rfl, hb⟩
    go_wp2_with fail
    go_ret
    exact ⟨rfl, hb⟩

end Go.Proofs.Ythopckljhmommaa
