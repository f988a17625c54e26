/- The document's own number: its bytes, in new memory. -/
import Derived.Test.YtdfelkkibolheaaWr
import Derived.Test.YtdfelkkibolheaaBy
namespace Go.Proofs.Ytdfelkkibolheaa
open Go.RowKit Vint

set_option maxHeartbeats 1000000 in
theorem refnum_bad (x : Int) (hx : x < 0 ∨ 268435456 ≤ x) (w : World) :
    Calls Try.prog 16 #[.int .i64 x] w fun e w' => e = .returned (.tuple #[.slice none 0 0, .bool false]) ∧ w' = w := by
  have bad : ∀ (a b : Bool), decide (x < 0) = a → decide (268435456 ≤ x) = b → (a = true ∨ b = true) →
      Calls Try.prog 16 #[.int .i64 x] w fun e w' => e = .returned (.tuple #[.slice none 0 0, .bool false]) ∧ w' = w := by
    intro a b h1 h2 h
    clear hx
    cases a <;> cases b <;> first
      | (simp at h; done)
      | (go_enter Try.func16, Try.ntmps16
         go_wp2_with fail
         go_ret2
         exact ⟨rfl, rfl⟩)
  exact bad _ _ rfl rfl (by simpa using hx)

/-- New bytes and true. -/
def NewNum (w : World) (l : List Nat) (e : Ending) (w' : World) : Prop :=
  ∃ A c, e = .returned (.tuple #[.slice A l.length c, .bool true]) ∧ w'.ownsRow w.heap.size 5 1 (.slice A l.length c) l.length (byts l) ∧ Below w.heap.size w w'

set_option maxRecDepth 4000 in
set_option maxHeartbeats 4000000 in
theorem refnum_any (x : Nat) (hx : x < 268435456) (w : World) :
    Calls Try.prog 16 #[.int .i64 (x : Int)] w (NewNum w (vint x)) := by
  have h1 : decide ((x : Int) < 0) = false := by simp
  have h2 : decide (268435456 ≤ (x : Int)) = false := by simp; omega
  obtain ⟨i0, hi0, hz0, hs0, hb0⟩ := byte_parts (P := Try.prog) (e := 5) (by kernel_rfl)
  go_enter Try.func16, Try.ntmps16
  go_wp2_with fail
  go_loopw [0, 4] (fun v s wr => ∃ (y : Nat) (p : List Nat), v = .int .i64 y ∧ y < 268435456 ∧ p ++ vint y = vint x ∧ wr.ownsRow w.heap.size 5 1 s p.length (byts p) ∧ Below w.heap.size w wr) (fun v _ _ => (intOf v).toNat)
  case atStart => exact ⟨x, [], rfl, hx, rfl, World.ownsRow_nil _ _ _ _, Below.refl _ _⟩
  case round =>
    obtain ⟨y, p, rfl, hy, hp, hown, hb⟩ := hrel
    obtain ⟨A, c, rfl⟩ := own_slice hown
    have hlp : p.length + 4 ≤ 20 := by
      have h1 := congrArg List.length hp
      have h2 := vint_len hx
      rw [List.length_append] at h1
      omega
    have Hp := Lib.hid hp
    have hz := hb.size
    clear hp
    by_cases h128 : 128 ≤ y
    · have q1 : decide (128 ≤ (y : Int)) = true := by simp; omega
      have ho := or_byte7 y
      have hn : Hid (vint y = (y % 128 + 128) :: vint (y / 128)) := Lib.hid (vint_high h128)
      generalize y % 128 + 128 = d at *
      have Ho := Lib.hid (own_keep (w' := wr.alloc (.cells #[.int .u8 (d : Int)] 5)) hown fun b hb hlt => Below.heap_alloc _ _ _ hlt)
      have HB := Lib.hid (hb.alloc hz (.cells #[.int .u8 (d : Int)] 5))
      have Hsl := Lib.hid (sl_cells (w := wr) (cs := #[.int .u8 (d : Int)]) (l := [d]) rfl)
      clear hown hb
      go_wp2_with (at_builtin; refine wpList_append_sl (base := w.heap.size) _ rfl (.tmp 13) (.tmp 17) _ rfl Try.underlying24 hi0 hz0 hs0 hb0 rfl (v := .slice A p.length c) rfl Ho.out rfl (byts_length [d]).symm (by simp) Hsl.out (byts_one _) (by rw [byts_length]; exact Nat.le_refl _) (by rw [byts_length]; unfold maxLen; simp; omega) (by rw [byts_length]; simp; omega) HB.out.size ?_; intro v2 w2 hown2 hgr hbl; have b2 := Lib.hid (HB.out.grown hgr HB.out.size (fun g hg => (Ho.out.lt g hg).1)); rw [byts_join, byts_length] at hown2; obtain ⟨A2, c2, rfl⟩ := own_slice hown2; have Ho2 := Lib.hid hown2; clear hown2 hgr hbl)
      refine ⟨⟨y / 128, p ++ [d], by go_num, by omega, ?_, ?_, b2.out⟩, by simp [intOf]; omega⟩
      · rw [List.append_assoc, ← Hp.out, hn.out]; rfl
      · rw [List.length_append]; exact Ho2.out
    · have q1 : decide (128 ≤ (y : Int)) = false := by simp; omega
      have hn : Hid (vint y = [y]) := Lib.hid (vint_low (by omega))
      have hcv : (y : Int) % 256 = (y : Int) := by omega
      have Ho := Lib.hid (own_keep (w' := wr.alloc (.cells #[.int .u8 (y : Int)] 5)) hown fun b hb hlt => Below.heap_alloc _ _ _ hlt)
      have HB := Lib.hid (hb.alloc hz (.cells #[.int .u8 (y : Int)] 5))
      have Hsl := Lib.hid (sl_cells (w := wr) (cs := #[.int .u8 (y : Int)]) (l := [y]) rfl)
      clear hown hb
      go_wp2_with (at_builtin; refine wpList_append_sl (base := w.heap.size) _ rfl (.tmp 21) (.tmp 24) _ rfl Try.underlying24 hi0 hz0 hs0 hb0 rfl (v := .slice A p.length c) rfl Ho.out rfl (byts_length [y]).symm (by simp) Hsl.out (byts_one _) (by rw [byts_length]; exact Nat.le_refl _) (by rw [byts_length]; unfold maxLen; simp; omega) (by rw [byts_length]; simp; omega) HB.out.size ?_; intro v2 w2 hown2 hgr hbl; have b2 := Lib.hid (HB.out.grown hgr HB.out.size (fun g hg => (Ho.out.lt g hg).1)); rw [byts_join, byts_length] at hown2; obtain ⟨A2, c2, rfl⟩ := own_slice hown2; have Ho2 := Lib.hid hown2; clear hown2 hgr hbl)
      go_ret2
      have e : p ++ [y] = vint x := by rw [← Hp.out, hn.out]
      have e2 : p.length + [y].length = (vint x).length := by rw [← e, List.length_append]
      rw [e, e2] at Ho2
      exact ⟨A2, c2, by rw [← e2]; rfl, Ho2.out, b2.out⟩
end Go.Proofs.Ytdfelkkibolheaa
