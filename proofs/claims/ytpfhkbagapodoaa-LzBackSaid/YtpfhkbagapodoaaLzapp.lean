/- The program's writer of sequences: appendLength, appendLiterals, appendMatch. -/
import Derived.Test.YtpfhkbagapodoaaLzdec
import Derived.Test.YtpfhkbagapodoaaLzpk
namespace Go.Proofs.Ytpfhkbagapodoaa
open Go.RowKit

/-- The block that a slice of one's own lies in. -/
def bk (A : Option Addr) : Option Nat := (Value.slice A 0 0).ownBlock
theorem bk_own (A : Option Addr) (n c : Nat) : (Value.slice A n c).ownBlock = bk A := by cases A <;> rfl
/-- A row has been appended to: only its own block has changed; it may lie in a new one. -/
structure Ap (B : Nat) (w w' : World) (A A' : Option Addr) : Prop where
  chg : Chg (fun b => bk A = some b) w w'
  new : ∀ b, bk A' = some b → bk A = some b ∨ w.heap.size ≤ b
  bel : Below B w w'
section
variable {B n c : Nat} {w w1 w2 : World} {A A1 A2 : Option Addr} {l : List Nat}
theorem Ap.trans (h : Ap B w w1 A A1) (k : Ap B w1 w2 A1 A2) : Ap B w w2 A A2 := by
  have hs := h.chg.size
  refine ⟨⟨k.chg.os.trans h.chg.os, k.chg.tape.trans h.chg.tape, k.chg.output.trans h.chg.output, Nat.le_trans hs k.chg.size, fun b hb hne => ?_⟩, fun b hb => ?_, h.bel.trans k.bel⟩
  · refine (k.chg.block b (by omega) fun hk => ?_).trans (h.chg.block b hb hne)
    rcases h.new b hk with h' | h'
    · exact hne h'
    · omega
  · rcases k.new b hb with h' | h'
    · exact h.new b h'
    · exact .inr (by omega)
theorem Ap.refl (B : Nat) (w : World) (A : Option Addr) : Ap B w w A A := ⟨Chg.refl _ _, fun _ h => .inl h, Below.refl _ _⟩
theorem Ap.alloc (h : Ap B w w1 A A1) (hB : B ≤ w.heap.size) (o : Obj) : Ap B w (w1.alloc o) A A1 := ⟨h.chg.alloc o, h.new, h.bel.alloc (Nat.le_trans hB h.chg.size) o⟩
theorem ownB_alloc (h : OwnB w B A n c l) (o : Obj) : OwnB (w.alloc o) B A n c l := own_keep h fun _ _ hlt => Below.heap_alloc _ _ _ hlt
theorem ap_app (h : OwnB w B A n c l) (hB : B ≤ w.heap.size) {w' : World} {v' : Value} {m n' : Nat} {r : List Nat} (hr : r.length = m) (hn : n + m = n') (h1 : w'.ownsRow B 5 1 v' (n + (byts r).length) (byts l ++ byts r)) (h2 : w.grownBy w' (Value.slice A n c).ownBlock)
    (h3 : v'.ownBlock = (Value.slice A n c).ownBlock ∨ v'.ownBlock = some w.heap.size) : ∃ A' c', v' = .slice A' n' c' ∧ OwnB w' B A' n' c' (l ++ r) ∧ Ap B w w' A A' := by
  obtain ⟨A', c', rfl, ho, hb⟩ := ownB_app h hB hr hn h1 h2
  rw [bk_own] at h2
  rw [bk_own, bk_own] at h3
  refine ⟨A', c', rfl, ho, (Chg.refl _ w).grown h2 (fun k hk => .inl hk), fun b hb => ?_, hb⟩
  rcases h3 with h3 | h3
  · exact .inl (by rw [← h3]; exact hb)
  · rw [h3] at hb; injection hb with hb; exact .inr (by omega)
end
/-- A row with r appended is returned. -/
def AppR (B : Nat) (A : Option Addr) (n : Nat) (o r : List Nat) (w : World) (e : Ending) (w' : World) : Prop :=
  ∃ A' c', e = .returned (.slice A' (n + r.length) c') ∧ OwnB w' B A' (n + r.length) c' (o ++ r) ∧ Ap B w w' A A'

set_option maxRecDepth 4000 in
set_option maxHeartbeats 4000000 in
theorem alen_any {w : World} {B n c : Nat} {A : Option Addr} {o : List Nat} (h : OwnB w B A n c o) (hB : B ≤ w.heap.size) (hn : n ≤ 100000) (k : Nat) (z : Int) (hz : z = (k : Int)) (hk : k ≤ 100000) :
    Calls Try.prog 27 #[.slice A n c, .int .i64 z] w (AppR B A n o (Lz.ext k) w) := by
  subst hz
  obtain ⟨i0, hi0, hz0, hs0, hb0⟩ := byte_parts (P := Try.prog) (e := 5) (by kernel_rfl)
  have H := Lib.hid h
  clear h
  by_cases h15 : k < 15
  · have q1 : decide ((k : Int) < 15) = true := by rw [decide_eq_true_eq]; omega
    have q1' : decide (k < 15) = true := by rw [decide_eq_true_eq]; omega
    have He : Lz.ext k = [] := by unfold Lz.ext; rw [if_pos h15]
    rw [He]
    clear h15 He
    go_enter Try.func27, Try.ntmps27
    go_wp2_with fail
    go_ret
    exact ⟨A, c, rfl, by rw [List.append_nil]; exact H.out, Ap.refl _ _ _⟩
  have q1 : decide ((k : Int) < 15) = false := by rw [decide_eq_false_iff_not]; omega
  have q1' : decide (k < 15) = false := by rw [decide_eq_false_iff_not]; omega
  obtain ⟨K, hK⟩ : ∃ K, k = K + 15 := ⟨k - 15, by omega⟩
  have hkI : (k : Int) - 15 = (K : Int) := by omega
  have HK := Lib.hid hK
  have hKb : K ≤ 100000 := by omega
  clear h15 hk hK
  go_enter Try.func27, Try.ntmps27
  go_wp2_with fail
  go_loopw [0, 1] (fun v i wr => ∃ (j r : Nat) (A' : Option Addr) (c' : Nat), r + 255 * j = K ∧ i = .int .i64 r ∧ v = .slice A' (n + j) c' ∧ OwnB wr B A' (n + j) c' (o ++ List.replicate j 255) ∧ Ap B w wr A A') (fun _ i _ => (intOf i).toNat)
  case atStart => exact ⟨0, K, A, c, by omega, rfl, rfl, by rw [List.replicate_zero, List.append_nil]; exact H.out, Ap.refl _ _ _⟩
  case round =>
    obtain ⟨j, r, A5, c5, hr, rfl, rfl, hm5, hp5⟩ := hrel
    have hwB : B ≤ wr.heap.size := Nat.le_trans hB hp5.chg.size
    by_cases h255 : 255 ≤ r
    · have q2 : decide (255 ≤ (r : Int)) = true := by rw [decide_eq_true_eq]; omega
      have q2' : decide (255 ≤ r) = true := by rw [decide_eq_true_eq]; omega
      obtain ⟨r', hr'⟩ : ∃ r', r = r' + 255 := ⟨r - 255, by omega⟩
      have hrI : (r : Int) - 255 = (r' : Int) := by omega
      have Mz := Lib.hid (ownB_alloc hm5 (.cells #[.int .u8 255] 5))
      have Pz := Lib.hid (hp5.alloc hB (.cells #[.int .u8 255] 5))
      have Sz := Lib.hid (sl_cells (w := wr) (cs := #[.int .u8 255]) (l := [255]) rfl)
      have hwB2 : B ≤ (wr.alloc (.cells #[.int .u8 255] 5)).heap.size := Nat.le_trans hwB (by simp)
      have Hr' := Lib.hid hr'
      clear hm5 hp5 hr'
      go_wp2_with (at_builtin; refine wpList_append_sl (base := B) _ rfl (.tmp 14) (.tmp 15) _ rfl Try.underlying22 hi0 hz0 hs0 hb0 rfl rfl Mz.out rfl (byts_length [255]).symm (by simp) Sz.out (byts_one _) (by rw [byts_length]; exact Nat.le_refl _) (by rw [byts_length]; unfold maxLen; simp; omega) (by rw [byts_length]; simp; omega) hwB2 ?_; intro v6 w6 h1 h2 h3; obtain ⟨A6, c6, rfl, m6, p6⟩ := ap_app Mz.out hwB2 (r := [255]) rfl (show n + j + 1 = n + (j + 1) from rfl) h1 h2 h3; have M6 := Lib.hid m6; have P6 := Lib.hid (Pz.out.trans p6); clear h1 h2 h3 m6 p6)
      go_roundw
      case rel => exact ⟨j + 1, r', A6, c6, by have := Hr'.out; omega, by go_num, rfl, by rw [List.replicate_succ', ← List.append_assoc]; exact M6.out, P6.out⟩
      case measure => simp [intOf]; have := Hr'.out; omega
    · have q2 : decide (255 ≤ (r : Int)) = false := by rw [decide_eq_false_iff_not]; omega
      have q2' : decide (255 ≤ r) = false := by rw [decide_eq_false_iff_not]; omega
      have hw8 : IntKind.u8.wrap (r : Int) = (r : Int) := by rw [IntKind.wrap_u8]; omega
      have Mz := Lib.hid (ownB_alloc hm5 (.cells #[.int .u8 (r : Int)] 5))
      have Pz := Lib.hid (hp5.alloc hB (.cells #[.int .u8 (r : Int)] 5))
      have Sz := Lib.hid (sl_cells (w := wr) (cs := #[.int .u8 (r : Int)]) (l := [r]) rfl)
      have hwB2 : B ≤ (wr.alloc (.cells #[.int .u8 (r : Int)] 5)).heap.size := Nat.le_trans hwB (by simp)
      have He : Lz.ext k = List.replicate j 255 ++ [r] := by
        unfold Lz.ext
        have := HK.out
        rw [if_neg (by omega), show (k - 15) / 255 = j by omega, show (k - 15) % 255 = r by omega]
      have hl : (Lz.ext k).length = j + 1 := by rw [He]; simp
      have HE := Lib.hid He
      have Hl := Lib.hid hl
      clear hm5 hp5 He hl h255
      go_wp2_with (at_builtin; refine wpList_append_sl (base := B) _ rfl (.tmp 17) (.tmp 20) _ rfl Try.underlying22 hi0 hz0 hs0 hb0 rfl rfl Mz.out rfl (byts_length [r]).symm (by simp) Sz.out (byts_one _) (by rw [byts_length]; exact Nat.le_refl _) (by rw [byts_length]; unfold maxLen; simp; omega) (by rw [byts_length]; simp; omega) hwB2 ?_; intro v6 w6 h1 h2 h3; obtain ⟨A6, c6, rfl, m6, p6⟩ := ap_app Mz.out hwB2 (r := [r]) rfl (show n + j + 1 = n + (j + 1) from rfl) h1 h2 h3; have M6 := Lib.hid m6; have P6 := Lib.hid (Pz.out.trans p6); clear h1 h2 h3 m6 p6)
      go_ret
      exact ⟨A6, c6, by rw [Hl.out]; rfl, by rw [Hl.out, HE.out, ← List.append_assoc]; exact M6.out, P6.out⟩
end Go.Proofs.Ytpfhkbagapodoaa
