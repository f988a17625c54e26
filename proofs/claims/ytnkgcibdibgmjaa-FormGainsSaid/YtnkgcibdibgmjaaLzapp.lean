/- The program's writer of sequences: appendLength, appendLiterals, appendMatch. The program's writer of sequences: appendLiterals, appendMatch. -/
import Derived.Test.YtnkgcibdibgmjaaLzdec
import Derived.Test.YtnkgcibdibgmjaaLzpk
namespace Go.Proofs.Ytnkgcibdibgmjaa
open Go.RowKit

set_option maxRecDepth 4000 in
set_option maxHeartbeats 4000000 in
theorem alen_any {w : World} {B n c : Nat} {A : Option Addr} {o : List Nat} (h : OwnB w B A n c o) (hB : B ≤ w.heap.size) (hn : n ≤ 100000) (k : Nat) (z : Int) (hz : z = (k : Int)) (hk : k ≤ 100000) :
    Calls Try.prog 40 #[.slice A n c, .int .i64 z] w (AppR B A n o (Lz.ext k) w) := by
  subst hz
  obtain ⟨i0, hi0, hz0, hs0, hb0⟩ := byte_parts (P := Try.prog) (e := 5) (by kernel_rfl)
  have H := Lib.hid h
  clear h
  by_cases h15 : k < 15
  · have q1 : decide ((k : Int) < 15) = true := by rw [decide_eq_true_eq]; omega
    have q1' : decide (k < 15) = true := by rw [decide_eq_true_eq]; omega
    have He : Lz.ext k = [] := by unfold Lz.ext; rw [if_pos h15]
    rw [He]
    clear h15 He
    go_enter Try.func40, Try.ntmps40
    go_wp2_with fail
    go_ret
    exact ⟨A, c, rfl, by rw [List.append_nil]; exact H.out, Ap.refl _ _ _⟩
  have q1 : decide ((k : Int) < 15) = false := by rw [decide_eq_false_iff_not]; omega
  have q1' : decide (k < 15) = false := by rw [decide_eq_false_iff_not]; omega
  obtain ⟨K, hK⟩ : ∃ K, k = K + 15 := ⟨k - 15, by omega⟩
  have hkI : (k : Int) - 15 = (K : Int) := by omega
  have HK := Lib.hid hK
  have hKb : K ≤ 100000 := by omega
  clear h15 hk hK
  go_enter Try.func40, Try.ntmps40
  go_wp2_with fail
  go_loopw [0, 1] (fun v i wr => ∃ (j r : Nat) (A' : Option Addr) (c' : Nat), r + 255 * j = K ∧ i = .int .i64 r ∧ v = .slice A' (n + j) c' ∧ OwnB wr B A' (n + j) c' (o ++ List.replicate j 255) ∧ Ap B w wr A A') (fun _ i _ => (intOf i).toNat)
  case atStart => exact ⟨0, K, A, c, by omega, rfl, rfl, by rw [List.replicate_zero, List.append_nil]; exact H.out, Ap.refl _ _ _⟩
  case round =>
    obtain ⟨j, r, A5, c5, hr, rfl, rfl, hm5, hp5⟩ := hrel
    have hwB : B ≤ wr.heap.size := Nat.le_trans hB hp5.chg.size
    by_cases h255 : 255 ≤ r
    · have q2 : decide (255 ≤ (r : Int)) = true := by rw [decide_eq_true_eq]; omega
      have q2' : decide (255 ≤ r) = true := by rw [decide_eq_true_eq]; omega
      obtain ⟨r', hr'⟩ : ∃ r', r = r' + 255 := ⟨r - 255, by omega⟩
      have hrI : (r : Int) - 255 = (r' : Int) := by omega
      have Mz := Lib.hid (ownB_alloc hm5 (.cells #[.int .u8 255] 5))
      have Pz := Lib.hid (hp5.alloc hB (.cells #[.int .u8 255] 5))
      have Sz := Lib.hid (sl_cells (w := wr) (cs := #[.int .u8 255]) (l := [255]) rfl)
      have hwB2 : B ≤ (wr.alloc (.cells #[.int .u8 255] 5)).heap.size := Nat.le_trans hwB (by simp)
      have Hr' := Lib.hid hr'
      clear hm5 hp5 hr'
      go_wp2_with (at_builtin; refine wpList_append_sl (base := B) _ rfl (.tmp 14) (.tmp 15) _ rfl Try.underlying22 hi0 hz0 hs0 hb0 rfl rfl Mz.out rfl (byts_length [255]).symm (by simp) Sz.out (byts_one _) (by rw [byts_length]; exact Nat.le_refl _) (by rw [byts_length]; unfold maxLen; simp; omega) (by rw [byts_length]; simp; omega) hwB2 ?_; intro v6 w6 h1 h2 h3; obtain ⟨A6, c6, rfl, m6, p6⟩ := ap_app Mz.out hwB2 (r := [255]) rfl (show n + j + 1 = n + (j + 1) from rfl) h1 h2 h3; have M6 := Lib.hid m6; have P6 := Lib.hid (Pz.out.trans p6); clear h1 h2 h3 m6 p6)
      go_roundw
      case rel => exact ⟨j + 1, r', A6, c6, by have := Hr'.out; omega, by go_num, rfl, by rw [List.replicate_succ', ← List.append_assoc]; exact M6.out, P6.out⟩
      case measure => simp [intOf]; have := Hr'.out; omega
    · have q2 : decide (255 ≤ (r : Int)) = false := by rw [decide_eq_false_iff_not]; omega
      have q2' : decide (255 ≤ r) = false := by rw [decide_eq_false_iff_not]; omega
      have hw8 : IntKind.u8.wrap (r : Int) = (r : Int) := by rw [IntKind.wrap_u8]; omega
      have Mz := Lib.hid (ownB_alloc hm5 (.cells #[.int .u8 (r : Int)] 5))
      have Pz := Lib.hid (hp5.alloc hB (.cells #[.int .u8 (r : Int)] 5))
      have Sz := Lib.hid (sl_cells (w := wr) (cs := #[.int .u8 (r : Int)]) (l := [r]) rfl)
      have hwB2 : B ≤ (wr.alloc (.cells #[.int .u8 (r : Int)] 5)).heap.size := Nat.le_trans hwB (by simp)
      have He : Lz.ext k = List.replicate j 255 ++ [r] := by
        unfold Lz.ext
        have := HK.out
        rw [if_neg (by omega), show (k - 15) / 255 = j by omega, show (k - 15) % 255 = r by omega]
      have hl : (Lz.ext k).length = j + 1 := by rw [He]; simp
      have HE := Lib.hid He
      have Hl := Lib.hid hl
      clear hm5 hp5 He hl h255
      go_wp2_with (at_builtin; refine wpList_append_sl (base := B) _ rfl (.tmp 17) (.tmp 20) _ rfl Try.underlying22 hi0 hz0 hs0 hb0 rfl rfl Mz.out rfl (byts_length [r]).symm (by simp) Sz.out (byts_one _) (by rw [byts_length]; exact Nat.le_refl _) (by rw [byts_length]; unfold maxLen; simp; omega) (by rw [byts_length]; simp; omega) hwB2 ?_; intro v6 w6 h1 h2 h3; obtain ⟨A6, c6, rfl, m6, p6⟩ := ap_app Mz.out hwB2 (r := [r]) rfl (show n + j + 1 = n + (j + 1) from rfl) h1 h2 h3; have M6 := Lib.hid m6; have P6 := Lib.hid (Pz.out.trans p6); clear h1 h2 h3 m6 p6)
      go_ret
      exact ⟨A6, c6, by rw [Hl.out]; rfl, by rw [Hl.out, HE.out, ← List.append_assoc]; exact M6.out, P6.out⟩
end Go.Proofs.Ytnkgcibdibgmjaa

namespace Go.Proofs.Ytnkgcibdibgmjaa
open Go.RowKit

theorem or_nibs {a b : Nat} (ha : a < 16) (hb : b < 16) : bits BinOp.or IntKind.i64 ((a : Int) * 16) (b : Int) = ((a * 16 + b : Nat) : Int) := by
  have e : (a : Int) * 16 = ((a * 16 : Nat) : Int) := by omega
  rw [e, i64_or_nat _ _ (by omega) (by omega)]
  have := Nat.two_pow_add_eq_or_of_lt (i := 4) (b := b) (by omega) a
  rw [show a * 16 = 2 ^ 4 * a by omega, this]
theorem nib_lt (n : Nat) : Lz.nib n < 16 := by unfold Lz.nib; omega
/-- The token and the literals. -/
def litB (ls : List Nat) (k : Nat) : List Nat := (Lz.nib ls.length * 16 + Lz.nib k) :: (Lz.ext ls.length ++ ls)

set_option maxRecDepth 4000 in
set_option maxHeartbeats 4000000 in
theorem alit_any {w : World} {B n c : Nat} {A : Option Addr} {o : List Nat} (h : OwnB w B A n c o) (hB : B ≤ w.heap.size) (hn : n ≤ 50000) {A2 : Option Addr} {c2 : Nat} {ls : List Nat} (hsl : Sl w B A2 (byts ls)) (hc2 : ls.length ≤ c2) (hA2 : A2 = none → c2 = 0) (L : Nat) (hL : L = ls.length) (hLb : L ≤ 10000) (k : Nat) (z : Int) (hz : z = (k : Int)) (hk : k ≤ 10000) :
    Calls Try.prog 24 #[.slice A n c, .slice A2 L c2, .int .i64 z] w (AppR B A n o (litB ls k) w) := by
  subst hz
  obtain ⟨i0, hi0, hz0, hs0, hb0⟩ := byte_parts (P := Try.prog) (e := 5) (by kernel_rfl)
  have hLI := nib_lt L
  have hkI := nib_lt k
  have hmin1 : ∀ (ts : Array TypeId) (t : TypeId) (W : World), (Builtin.min_ ts t #[.int .i64 (L : Int), .int .i64 15]).run Try.prog W = .ok (.int .i64 ((Lz.nib L : Nat) : Int)) W := fun ts t W => by
    rw [run_min_int2, show (if (15 : Int) < (L : Int) then (15 : Int) else (L : Int)) = ((Lz.nib L : Nat) : Int) by unfold Lz.nib; split <;> omega]
  have hmin2 : ∀ (ts : Array TypeId) (t : TypeId) (W : World), (Builtin.min_ ts t #[.int .i64 (k : Int), .int .i64 15]).run Try.prog W = .ok (.int .i64 ((Lz.nib k : Nat) : Int)) W := fun ts t W => by
    rw [run_min_int2, show (if (15 : Int) < (k : Int) then (15 : Int) else (k : Int)) = ((Lz.nib k : Nat) : Int) by unfold Lz.nib; split <;> omega]
  have hor := or_nibs hLI hkI
  have HR := Lib.hid (show litB ls k = (Lz.nib L * 16 + Lz.nib k) :: (Lz.ext L ++ ls) by unfold litB; rw [hL])
  obtain ⟨T, hT⟩ : ∃ T, T = Lz.nib L * 16 + Lz.nib k := ⟨_, rfl⟩
  rw [← hT] at hor HR
  have hT256 : T < 256 := by omega
  have hw8 : IntKind.u8.wrap (T : Int) = (T : Int) := by rw [IntKind.wrap_u8]; omega
  have hwa : IntKind.i64.wrap (((Lz.nib L : Nat) : Int) * 16) = ((Lz.nib L : Nat) : Int) * 16 := by rw [IntKind.wrap_i64]; omega
  generalize Lz.nib L = nL at *
  generalize Lz.nib k = nk at *
  have Mz := Lib.hid (ownB_alloc h (.cells #[.int .u8 (T : Int)] 5))
  have Pz := Lib.hid ((Ap.refl B w A).alloc hB (.cells #[.int .u8 (T : Int)] 5))
  have Sz := Lib.hid (sl_cells (w := w) (cs := #[.int .u8 (T : Int)]) (l := [T]) rfl)
  have hwB2 : B ≤ (w.alloc (.cells #[.int .u8 (T : Int)] 5)).heap.size := Nat.le_trans hB (by simp)
  have HS := Lib.hid (fun w' (hb : Below B w w') => hsl.below hb)
  have HL := Lib.hid hL
  have HA2 := Lib.hid hA2
  have Lq := Lib.hid (show (byts ls).length = L by rw [byts_length]; exact hL.symm)
  rw [← hL] at hc2
  clear h hsl hT hL hA2 hkI hLI
  go_enter Try.func24, Try.ntmps24
  go_wp2_with (at_builtin; refine wpList_append_sl (base := B) _ rfl (.tmp 7) (.tmp 16) _ rfl Try.underlying22 hi0 hz0 hs0 hb0 rfl rfl Mz.out rfl (byts_length [T]).symm (by simp) Sz.out (byts_one _) (by rw [byts_length]; exact Nat.le_refl _) (by rw [byts_length]; unfold maxLen; simp; omega) (by rw [byts_length]; simp; omega) hwB2 ?_; intro v6 w6 h1 h2 h3; obtain ⟨A6, c6, rfl, m6, p6⟩ := ap_app Mz.out hwB2 (r := [T]) rfl (show n + 1 = n + 1 from rfl) h1 h2 h3; have M6 := Lib.hid m6; have P6 := Lib.hid (Pz.out.trans p6); clear h1 h2 h3 m6 p6)
  have hB6 : B ≤ w6.heap.size := Nat.le_trans hB P6.out.chg.size
  have N6 := Lib.hid (alen_any M6.out hB6 (by omega) L (L : Int) rfl (by omega))
  refine N6.out.mono ?_
  rintro e w7 ⟨A7, c7, rfl, m7, p7⟩
  have hel : (Lz.ext L).length ≤ 20000 := by rw [Lz.ext_len]; split <;> omega
  have M7 := Lib.hid m7
  have P7 := Lib.hid (P6.out.trans p7)
  have hB7 : B ≤ w7.heap.size := Nat.le_trans hB P7.out.chg.size
  have Sl7 := Lib.hid (HS.out _ P7.out.bel)
  have HF := Lib.hid (show (litB ls k).length = 1 + (Lz.ext L).length + L by rw [HR.out, List.length_cons, List.length_append, ← HL.out]; omega)
  clear m7 p7 N6 M6 P6 Mz Pz Sz HS hor hmin1 hmin2
  generalize hE : (Lz.ext L).length = E at *
  go_wp2_with (at_builtin; refine wpList_append_sl (base := B) _ rfl (.tmp 22) (.tmp 23) _ rfl Try.underlying22 hi0 hz0 hs0 hb0 rfl rfl M7.out rfl Lq.out.symm HA2.out Sl7.out (byts_one _) (by rw [Lq.out]; exact hc2) (by rw [Lq.out]; unfold maxLen; omega) (by rw [Lq.out]; omega) hB7 ?_; intro v8 w8 h1 h2 h3; obtain ⟨A8, c8, rfl, m8, p8⟩ := ap_app M7.out hB7 HL.out.symm (show n + 1 + E + L = n + 1 + E + L from rfl) h1 h2 h3; have M8 := Lib.hid m8; have P8 := Lib.hid (P7.out.trans p8); clear h1 h2 h3 m8 p8)
  go_ret
  refine ⟨A8, c8, ?_, ?_, P8.out⟩
  · rw [HF.out, show n + (1 + E + L) = n + 1 + E + L by omega]; rfl
  · rw [HF.out, show n + (1 + E + L) = n + 1 + E + L by omega, HR.out, List.append_cons, ← List.append_assoc]; exact M8.out

set_option maxRecDepth 4000 in
set_option maxHeartbeats 4000000 in
theorem amatch_any {w : World} {B n c : Nat} {A : Option Addr} {o : List Nat} (h : OwnB w B A n c o) (hB : B ≤ w.heap.size) (hn : n ≤ 40000) {A2 : Option Addr} {c2 : Nat} {ls : List Nat} (hsl : Sl w B A2 (byts ls)) (hc2 : ls.length ≤ c2) (hA2 : A2 = none → c2 = 0) (L : Nat) (hL : L = ls.length) (hLb : L ≤ 4096) (back k : Nat) (zb z : Int) (hzb : zb = (back : Int)) (hz : z = ((k + 4 : Nat) : Int)) (hk : k ≤ 4096) (hb : back ≤ 4096) :
    Calls Try.prog 23 #[.slice A n c, .slice A2 L c2, .int .i64 zb, .int .i64 z] w (AppR B A n o (Lz.Seq.mk ls back k).enc w) := by
  subst hzb
  obtain ⟨i0, hi0, hz0, hs0, hb0⟩ := byte_parts (P := Try.prog) (e := 5) (by kernel_rfl)
  have hzk : z - 4 = (k : Int) := by omega
  have HE := Lib.hid (show (Lz.Seq.mk ls back k).enc = litB ls k ++ ([back % 256, back / 256] ++ Lz.ext k) by unfold Lz.Seq.enc litB; simp)
  have N1 := Lib.hid (alit_any h hB (by omega) hsl hc2 hA2 L hL (by omega) k (k : Int) rfl (by omega))
  have hll : (litB ls k).length ≤ 10000 := by unfold litB; rw [List.length_cons, List.length_append, Lz.ext_len, ← hL]; split <;> omega
  have hzw : -9223372036854775808 ≤ z ∧ z ≤ 9223372036854775807 := by omega
  clear h hsl hL hA2 hc2
  generalize litB ls k = R1 at *
  have hw1 : IntKind.u8.wrap (back : Int) = ((back % 256 : Nat) : Int) := by rw [IntKind.wrap_u8]; omega
  have hw2 : IntKind.u8.wrap ((back : Int) / 256) = ((back / 256 : Nat) : Int) := by rw [IntKind.wrap_u8]; omega
  have hx0 : back % 256 < 256 := by omega
  have hx1 : back / 256 < 256 := by omega
  have HXX := Lib.hid (show True from trivial)
  generalize hX0 : back % 256 = x0 at *
  generalize hX1 : back / 256 = x1 at *
  subst hz
  go_enter Try.func23, Try.ntmps23
  go_wp2_with fail
  refine N1.out.mono ?_
  rintro e w6 ⟨A6, c6, rfl, m6, p6⟩
  have hB6 : B ≤ w6.heap.size := Nat.le_trans hB p6.chg.size
  generalize hl1 : R1.length = l1 at *
  have Mz := Lib.hid (ownB_alloc m6 (.cells #[.int .u8 (x0 : Int), .int .u8 (x1 : Int)] 5))
  have Pz := Lib.hid (p6.alloc hB (.cells #[.int .u8 (x0 : Int), .int .u8 (x1 : Int)] 5))
  have Sz := Lib.hid (sl_cells (w := w6) (cs := #[.int .u8 (x0 : Int), .int .u8 (x1 : Int)]) (l := [x0, x1]) rfl)
  have hwB2 : B ≤ (w6.alloc (.cells #[.int .u8 (x0 : Int), .int .u8 (x1 : Int)] 5)).heap.size := Nat.le_trans hB6 (by simp)
  have Hl1 := Lib.hid hl1
  clear m6 p6 N1 hl1
  go_wp2_with (at_builtin; refine wpList_append_sl (base := B) _ rfl (.tmp 14) (.tmp 20) _ rfl Try.underlying22 hi0 hz0 hs0 hb0 rfl rfl Mz.out rfl (byts_length [x0, x1]).symm (by simp) Sz.out (byts_one _) (by rw [byts_length]; exact Nat.le_refl _) (by rw [byts_length]; unfold maxLen; simp; omega) (by rw [byts_length]; simp; omega) hwB2 ?_; intro v7 w7 h1 h2 h3; obtain ⟨A7, c7, rfl, m7, p7⟩ := ap_app Mz.out hwB2 (r := [x0, x1]) rfl (show n + l1 + 2 = n + l1 + 2 from rfl) h1 h2 h3; have M7 := Lib.hid m7; have P7 := Lib.hid (Pz.out.trans p7); clear h1 h2 h3 m7 p7)
  have hB7 : B ≤ w7.heap.size := Nat.le_trans hB P7.out.chg.size
  have N7 := Lib.hid (alen_any M7.out hB7 (by omega) k (k : Int) rfl (by omega))
  refine N7.out.mono ?_
  rintro e w8 ⟨A8, c8, rfl, m8, p8⟩
  have M8 := Lib.hid m8
  have P8 := Lib.hid (P7.out.trans p8)
  have HF := Lib.hid (show (Lz.Seq.mk ls back k).enc.length = l1 + 2 + (Lz.ext k).length by rw [HE.out, List.length_append, List.length_append, Hl1.out]; simp; omega)
  clear m8 p8
  generalize hE : (Lz.ext k).length = E at *
  go_wp2_with fail
  go_ret
  refine ⟨A8, c8, ?_, ?_, P8.out⟩
  · rw [HF.out, show n + (l1 + 2 + E) = n + l1 + 2 + E by omega]; rfl
  · rw [HF.out, show n + (l1 + 2 + E) = n + l1 + 2 + E by omega, HE.out, ← List.append_assoc, ← List.append_assoc]; exact M8.out
end Go.Proofs.Ytnkgcibdibgmjaa
