/- The document's Table, walked: the lengths as runs. -/
import Derived.Test.YtpaefpjggglmaaaWpl
import Derived.Test.YtpaefpjggglmaaaRunpw2
namespace Go.Proofs.Ytpaefpjggglmaaa
open Go.RowKit

/-- The runs of the lengths up to i. -/
structure Runs (l : List Int) (i : Nat) (rs : List (Nat × Nat)) : Prop where
  fits : ∀ r ∈ rs, r.1 ≤ 11 ∧ 1 ≤ r.2 ∧ r.2 ≤ 16
  are : Wd.runsL rs = l.take i
theorem Runs.next {l : List Int} {i x n : Nat} {rs : List (Nat × Nat)} (h : Runs l i rs) (hx : x ≤ 11) (h1 : 1 ≤ n) (h16 : n ≤ 16) (hl : i + n ≤ l.length) (ha : ∀ j, j < n → l.getD (i + j) 0 = (x : Int)) : Runs l (i + n) (rs ++ [(x, n)]) := by
  refine ⟨fun r hr => ?_, ?_⟩
  · rcases List.mem_append.mp hr with hr | hr
    · exact h.fits r hr
    · rw [List.mem_singleton] at hr; subst hr; exact ⟨hx, h1, h16⟩
  · have e : Wd.runsL (rs ++ [(x, n)]) = Wd.runsL rs ++ List.replicate n (x : Int) := by unfold Wd.runsL; rw [List.flatMap_append]; simp
    rw [e, h.are, List.take_add]
    congr 1
    refine List.ext_getElem (by rw [List.length_replicate, List.length_take, List.length_drop]; omega) fun j hj1 hj2 => ?_
    rw [List.length_replicate] at hj1
    have := ha j hj1
    rw [List.getD_eq_getElem?_getD, List.getElem?_eq_getElem (by omega)] at this
    rw [List.getElem_replicate, List.getElem_take, List.getElem_drop]
    exact this.symm
theorem runsB_snoc (rs : List (Nat × Nat)) (x n : Nat) : Wd.runsB (rs ++ [(x, n)]) = Wd.runsB rs ++ [x * 16 + (n - 1)] := by unfold Wd.runsB; rw [List.map_append]; rfl
theorem ortbl {x n : Nat} (hx : x ≤ 11) (h1 : 1 ≤ n) (h16 : n ≤ 16) : bits BinOp.or IntKind.i64 ((x : Int) * 16) ((n : Int) - 1) = ((x * 16 + (n - 1) : Nat) : Int) := by
  have e1 : (x : Int) * 16 = ((x * 16 : Nat) : Int) := by omega
  have e2 : (n : Int) - 1 = ((n - 1 : Nat) : Int) := by omega
  rw [e1, e2]
  obtain ⟨m, hm⟩ : ∃ m, n - 1 = m := ⟨_, rfl⟩
  have hm16 : m < 16 := by omega
  rw [hm]
  have h : ∀ x, x < 12 → ∀ m, m < 16 → bits BinOp.or IntKind.i64 ((x * 16 : Nat) : Int) ((m : Nat) : Int) = ((x * 16 + m : Nat) : Int) := by decide +kernel
  exact h x (by omega) m hm16

set_option maxRecDepth 8000 in
set_option maxHeartbeats 8000000 in
theorem rtbl_any (l : List Int) (hl : l.length = 256) (hr : ∀ x ∈ l, 0 ≤ x ∧ x ≤ 11) (w : World) :
    Calls Try.prog 22 #[.agg (ints l)] w fun e w' => ∃ W A n c rs, e = .returned (.slice A n c) ∧ Below w.heap.size w W ∧ Mine W w' A n c (Wd.runsB rs) ∧ Runs l 256 rs ∧ n ≤ 256 := by
  obtain ⟨i0, hi0, hz0, hs0, hb0⟩ := byte_parts (P := Try.prog) (e := 5) (by kernel_rfl)
  obtain ⟨t, N, ht, hN, hagg, hix, hund, hsz, hzz⟩ := t256
  obtain ⟨X, hX⟩ : ∃ X, X = ints l := ⟨_, rfl⟩
  rw [← hX]
  have HX := Lib.hid hX
  have Hix := Lib.hid hix
  have Ht := Lib.hid ht
  have Hl := Lib.hid hl
  have Hr := Lib.hid (show ∀ i, i < 256 → ∃ x : Nat, l.getD i 0 = (x : Int) ∧ x ≤ 11 from fun i hi => by
    have h := hr (l.getD i 0) (by rw [List.getD_eq_getElem?_getD, List.getElem?_eq_getElem (by omega)]; exact List.getElem_mem _)
    exact ⟨(l.getD i 0).toNat, by omega, by omega⟩)
  have E3 : ∀ a b, Op.indexAddr 32 a b = Op.indexAddr t a b := by rw [ht]; exact fun _ _ => rfl
  have E5 : ∀ a, Op.box 32 a = Op.box t a := by rw [ht]; exact fun _ => rfl
  obtain ⟨W0, hW0⟩ : ∃ x, x = w.alloc (.cells X t) := ⟨_, rfl⟩
  obtain ⟨g0, hg0⟩ : ∃ g, w.heap.size = g := ⟨_, rfl⟩
  have B0 := Lib.hid (show Blk W0 g0 t (ints l) by rw [hW0, ← hg0, ← hX]; exact Blk.new w t X)
  have HB := Lib.hid (show Below w.heap.size w W0 by rw [hW0]; exact (Below.refl _ _).alloc (Nat.le_refl _) _)
  have e0 : w.alloc (.cells X t) = W0 := hW0.symm
  clear ht hX hix hN hW0 hl hr
  go_enter Try.func22, Try.ntmps22
  simp only [E3, E5]
  clear E3 E5
  go_wp2_with fail
  go_loopg [3, 4] 256 (fun d v i wr => ∃ (k m c : Nat) (A : Option Addr) (rs : List (Nat × Nat)), d = 256 - k ∧ k ≤ 256 ∧ m ≤ k ∧ i = .int .i64 k ∧ v = .slice A m c ∧ Mine W0 wr A m c (Wd.runsB rs) ∧ Runs l k rs)
  case atStart => exact ⟨0, 0, 0, none, [], rfl, by decide, by decide, rfl, rfl, ⟨World.ownsRow_nil _ _ _ _, Below.refl _ _⟩, ⟨by simp, by simp [Wd.runsL]⟩⟩
  case round =>
    obtain ⟨k, m, c, A, rs, rfl, hk, hmk, rfl, rfl, hm, hrs⟩ := hrel
    have M := Lib.hid hm
    have Hrs := Lib.hid hrs
    clear hm hrs e0
    by_cases hlt : k < 256
    · have p0 : decide ((k : Int) < 256) = true := by rw [decide_eq_true_eq]; omega
      have p0' : decide (k < 256) = true := by rw [decide_eq_true_eq]; omega
      obtain ⟨x, hx, hx11⟩ := Hr.out k hlt
      have Hx := Lib.hid hx
      have ixk := Hix.out .i64 k hlt g0
      clear hx
      go_wp2_with fail
      go_loopw [5] (fun i wr' => ∃ n : Nat, 1 ≤ n ∧ n ≤ 16 ∧ k + n ≤ 256 ∧ i = .int .i64 n ∧ (∀ j, j < n → l.getD (k + j) 0 = (x : Int)) ∧ Mine W0 wr' A m c (Wd.runsB rs)) (fun i _ => 16 - (intOf i).toNat)
      case atStart => exact ⟨1, by decide, by decide, by omega, rfl, fun j hj => by rw [show k + j = k by omega]; exact Hx.out, M.out⟩
      case round =>
        obtain ⟨n, h1, h16, hkn, rfl, ha, hm2⟩ := hrel
        clear M
        by_cases hn16 : n < 16
        · have p1 : decide ((n : Int) < 16) = true := by rw [decide_eq_true_eq]; omega
          have p1' : decide (n < 16) = true := by rw [decide_eq_true_eq]; omega
          obtain ⟨q, hq⟩ : ∃ q, k + n = q := ⟨_, rfl⟩
          have wkn : IntKind.i64.wrap ((k : Int) + (n : Int)) = (q : Int) := by rw [IntKind.wrap_i64]; omega
          have Hq := Lib.hid hq
          by_cases hk2 : q < 256
          · have p2 : decide ((q : Int) < 256) = true := by rw [decide_eq_true_eq]; omega
            have p2' : decide (q < 256) = true := by rw [decide_eq_true_eq]; omega
            have ixq := Hix.out .i64 q hk2 g0
            obtain ⟨z, hz, hz11⟩ := Hr.out q hk2
            have cq : wr.cell? ⟨g0, q, none⟩ = some (.int .i64 (z : Int)) := by rw [hm2.bel.cell (p := ⟨g0, q, none⟩) B0.out.lt, B0.out.cell, ints_at (by rw [Hl.out]; exact hk2), hz]
            have Hz := Lib.hid hz
            clear hz
            by_cases hzx : z = x
            · have p3 : ((z : Int) == (x : Int)) = true := by rw [beq_iff_eq]; omega
              have p3' : (z == x) = true := by rw [beq_iff_eq]; exact hzx
              have HM2 := Lib.hid hm2
              have Ha := Lib.hid (show ∀ j, j < n + 1 → l.getD (k + j) 0 = (x : Int) from fun j hj => by
                by_cases hjn : j = n
                · rw [hjn, Hq.out, Hz.out, hzx]
                · exact ha j (by omega))
              have ck : wr.cell? ⟨g0, k, none⟩ = some (.int .i64 (x : Int)) := by rw [hm2.bel.cell (p := ⟨g0, k, none⟩) B0.out.lt, B0.out.cell, ints_at (by rw [Hl.out]; exact hlt), Hx.out]
              clear hm2 ha hzx hq
              go_wp2_with fail
              go_quiet (fail)
              have M3 := Lib.hid (HM2.out.below ((drewN_below nq).mono (Nat.le_refl _)))
              clear HM2 ck cq wkn
              generalize wr.drewN nq = wv at *
              go_wp2_with fail
              go_roundw
              case rel => exact ⟨n + 1, by omega, by omega, by have := Hq.out; omega, by go_num, Ha.out, M3.out⟩
              case measure => simp [intOf]; omega
            · have p3 : ((z : Int) == (x : Int)) = false := by rw [beq_eq_false_iff_ne]; omega
              have p3' : (z == x) = false := by rw [beq_eq_false_iff_ne]; exact hzx
              have HM2 := Lib.hid hm2
              have Hnx := Lib.hid (Hrs.out.next hx11 h1 h16 (by rw [Hl.out]; exact hkn) ha)
              obtain ⟨y, hy⟩ : ∃ y, y = x * 16 + (n - 1) := ⟨_, rfl⟩
              have Hy := Lib.hid hy
              have hor := ortbl hx11 h1 h16
              rw [← hy] at hor
              have y8 : IntKind.u8.wrap (y : Int) = (y : Int) := by rw [IntKind.wrap_u8]; omega
              have yi : IntKind.i64.wrap (y : Int) = (y : Int) := by rw [IntKind.wrap_i64]; omega
              have ck : wr.cell? ⟨g0, k, none⟩ = some (.int .i64 (x : Int)) := by rw [hm2.bel.cell (p := ⟨g0, k, none⟩) B0.out.lt, B0.out.cell, ints_at (by rw [Hl.out]; exact hlt), Hx.out]
              clear hm2 ha hy hq
              go_wp2_with fail
              go_quiet (fail)
              have M3 := Lib.hid (HM2.out.below ((drewN_below nq).mono (Nat.le_refl _)))
              clear HM2 ck cq wkn
              generalize wr.drewN nq = wv at *
              have ck : wv.cell? ⟨g0, k, none⟩ = some (.int .i64 (x : Int)) := by rw [M3.out.bel.cell (p := ⟨g0, k, none⟩) B0.out.lt, B0.out.cell, ints_at (by rw [Hl.out]; exact hlt), Hx.out]
              have Mz := Lib.hid (M3.out.below (w' := wv.alloc (.cells #[.int .u8 (y : Int)] 5)) ((Below.refl _ _).alloc (Nat.le_refl _) _))
              have Sz := Lib.hid (sl_cells (w := wv) (cs := #[.int .u8 (y : Int)]) (l := [y]) rfl)
              go_wp2_with (at_builtin; refine wpList_append_sl (base := W0.heap.size) _ rfl (.tmp 29) (.tmp 38) _ rfl Try.underlying22 hi0 hz0 hs0 hb0 rfl rfl Mz.out.own rfl (byts_length [y]).symm (by simp) Sz.out (byts_one _) (by rw [byts_length]; exact Nat.le_refl _) (by rw [byts_length]; unfold maxLen; simp; omega) (by rw [byts_length]; simp; omega) Mz.out.bel.size ?_; intro v6 w6 h1 h2 _; obtain ⟨A6, c6, rfl, m6⟩ := Mz.out.app (r := [y]) rfl (show m + 1 = m + 1 from rfl) h1 h2; have M6 := Lib.hid m6; clear h1 h2 m6)
              go_roundg (256 - (k + n))
              case rel => exact ⟨k + n, m + 1, c6, A6, rs ++ [(x, n)], rfl, by omega, by omega, by go_num, rfl, by rw [runsB_snoc, ← Hy.out]; exact M6.out, Hnx.out⟩
              case measure => omega
          · have p2 : decide ((q : Int) < 256) = false := by rw [decide_eq_false_iff_not]; omega
            have p2' : decide (q < 256) = false := by rw [decide_eq_false_iff_not]; omega
            have HM2 := Lib.hid hm2
            have Hnx := Lib.hid (Hrs.out.next hx11 h1 h16 (by rw [Hl.out]; exact hkn) ha)
            obtain ⟨y, hy⟩ : ∃ y, y = x * 16 + (n - 1) := ⟨_, rfl⟩
            have Hy := Lib.hid hy
            have hor := ortbl hx11 h1 h16
            rw [← hy] at hor
            have y8 : IntKind.u8.wrap (y : Int) = (y : Int) := by rw [IntKind.wrap_u8]; omega
            have yi : IntKind.i64.wrap (y : Int) = (y : Int) := by rw [IntKind.wrap_i64]; omega
            have ck : wr.cell? ⟨g0, k, none⟩ = some (.int .i64 (x : Int)) := by rw [hm2.bel.cell (p := ⟨g0, k, none⟩) B0.out.lt, B0.out.cell, ints_at (by rw [Hl.out]; exact hlt), Hx.out]
            clear hm2 ha hy hq
            go_wp2_with fail
            go_quiet (fail)
            have M3 := Lib.hid (HM2.out.below ((drewN_below nq).mono (Nat.le_refl _)))
            clear HM2 ck wkn
            generalize wr.drewN nq = wv at *
            have ck : wv.cell? ⟨g0, k, none⟩ = some (.int .i64 (x : Int)) := by rw [M3.out.bel.cell (p := ⟨g0, k, none⟩) B0.out.lt, B0.out.cell, ints_at (by rw [Hl.out]; exact hlt), Hx.out]
            have Mz := Lib.hid (M3.out.below (w' := wv.alloc (.cells #[.int .u8 (y : Int)] 5)) ((Below.refl _ _).alloc (Nat.le_refl _) _))
            have Sz := Lib.hid (sl_cells (w := wv) (cs := #[.int .u8 (y : Int)]) (l := [y]) rfl)
            go_wp2_with (at_builtin; refine wpList_append_sl (base := W0.heap.size) _ rfl (.tmp 29) (.tmp 38) _ rfl Try.underlying22 hi0 hz0 hs0 hb0 rfl rfl Mz.out.own rfl (byts_length [y]).symm (by simp) Sz.out (byts_one _) (by rw [byts_length]; exact Nat.le_refl _) (by rw [byts_length]; unfold maxLen; simp; omega) (by rw [byts_length]; simp; omega) Mz.out.bel.size ?_; intro v6 w6 h1 h2 _; obtain ⟨A6, c6, rfl, m6⟩ := Mz.out.app (r := [y]) rfl (show m + 1 = m + 1 from rfl) h1 h2; have M6 := Lib.hid m6; clear h1 h2 m6)
            go_roundg (256 - (k + n))
            case rel => exact ⟨k + n, m + 1, c6, A6, rs ++ [(x, n)], rfl, by omega, by omega, by go_num, rfl, by rw [runsB_snoc, ← Hy.out]; exact M6.out, Hnx.out⟩
            case measure => omega
        · have p1 : decide ((n : Int) < 16) = false := by rw [decide_eq_false_iff_not]; omega
          have p1' : decide (n < 16) = false := by rw [decide_eq_false_iff_not]; omega
          have HM2 := Lib.hid hm2
          have Hnx := Lib.hid (Hrs.out.next hx11 h1 h16 (by rw [Hl.out]; exact hkn) ha)
          obtain ⟨y, hy⟩ : ∃ y, y = x * 16 + (n - 1) := ⟨_, rfl⟩
          have Hy := Lib.hid hy
          have hor := ortbl hx11 h1 h16
          rw [← hy] at hor
          have y8 : IntKind.u8.wrap (y : Int) = (y : Int) := by rw [IntKind.wrap_u8]; omega
          have yi : IntKind.i64.wrap (y : Int) = (y : Int) := by rw [IntKind.wrap_i64]; omega
          have ck : wr.cell? ⟨g0, k, none⟩ = some (.int .i64 (x : Int)) := by rw [hm2.bel.cell (p := ⟨g0, k, none⟩) B0.out.lt, B0.out.cell, ints_at (by rw [Hl.out]; exact hlt), Hx.out]
          clear hm2 ha hy
          go_wp2_with fail
          go_quiet (fail)
          have M3 := Lib.hid (HM2.out.below ((drewN_below nq).mono (Nat.le_refl _)))
          clear HM2 ck
          generalize wr.drewN nq = wv at *
          have ck : wv.cell? ⟨g0, k, none⟩ = some (.int .i64 (x : Int)) := by rw [M3.out.bel.cell (p := ⟨g0, k, none⟩) B0.out.lt, B0.out.cell, ints_at (by rw [Hl.out]; exact hlt), Hx.out]
          have Mz := Lib.hid (M3.out.below (w' := wv.alloc (.cells #[.int .u8 (y : Int)] 5)) ((Below.refl _ _).alloc (Nat.le_refl _) _))
          have Sz := Lib.hid (sl_cells (w := wv) (cs := #[.int .u8 (y : Int)]) (l := [y]) rfl)
          go_wp2_with (at_builtin; refine wpList_append_sl (base := W0.heap.size) _ rfl (.tmp 29) (.tmp 38) _ rfl Try.underlying22 hi0 hz0 hs0 hb0 rfl rfl Mz.out.own rfl (byts_length [y]).symm (by simp) Sz.out (byts_one _) (by rw [byts_length]; exact Nat.le_refl _) (by rw [byts_length]; unfold maxLen; simp; omega) (by rw [byts_length]; simp; omega) Mz.out.bel.size ?_; intro v6 w6 h1 h2 _; obtain ⟨A6, c6, rfl, m6⟩ := Mz.out.app (r := [y]) rfl (show m + 1 = m + 1 from rfl) h1 h2; have M6 := Lib.hid m6; clear h1 h2 m6)
          go_roundg (256 - (k + n))
          case rel => exact ⟨k + n, m + 1, c6, A6, rs ++ [(x, n)], rfl, by omega, by omega, by go_num, rfl, by rw [runsB_snoc, ← Hy.out]; exact M6.out, Hnx.out⟩
          case measure => omega
    · have hke : k = 256 := by omega
      subst hke
      have p0 : decide ((256 : Int) < 256) = false := by simp
      go_wp2_with fail
      go_returns
      exact ⟨W0, A, m, c, rs, rfl, HB.out, M.out, Hrs.out, hmk⟩
end Go.Proofs.Ytpaefpjggglmaaa
