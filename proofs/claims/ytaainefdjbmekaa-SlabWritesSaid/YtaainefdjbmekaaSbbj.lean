/- The program's map of free blocks: Give's walk, by ways. -/
import Derived.Test.YtaainefdjbmekaaSbbi
namespace Go.Proofs.Ytaainefdjbmekaa
open Go.RowKit
section
variable {w : World} {g gb N c M a n q : Nat} {post : Ending → World → Prop}
set_option maxRecDepth 8000 in
set_option maxHeartbeats 8000000 in
theorem gw_none_none (hn1 : 1 ≤ n) (hfit : a + n ≤ M) (hM : M ≤ 8192) (hN : N ≤ 8192) (hqN : q ≤ N)
    (hq0 : q = 0)
    (hqn : q = N)
    (c0 : w.cell? ⟨g, 0, none⟩ = some (.int .i64 (M : Int)))
    (NB : Hid (Calls Try.prog 43 #[.pointer (some ⟨g, 0, none⟩), .int .i64 (a : Int)] w fun e w' => e = .returned (.int .i64 (q : Int)) ∧ Below w.heap.size w w'))
    (Cg : Hid (∀ W : World, Below w.heap.size w W → W.cell? ⟨g, 1, none⟩ = some (.slice (some ⟨gb, 0, none⟩) N c)))
    (NR : Hid (∀ Wc : World, Below w.heap.size w Wc → Calls Try.prog 77 #[.slice (some ⟨gb, 0, none⟩) N c, .int .i64 (q : Int), .int .i64 (q : Int), .slice (some ⟨Wc.heap.size, 0, none⟩) 1 1] (Wc.drew.alloc (.cells #[.int .i64 (a : Int), .int .i64 (n : Int)] 33)) fun e w' =>
      ∃ A' p' c', e = .returned (.slice A' p' c') ∧ w'.cell? ⟨g, 1, none⟩ = some (.slice (some ⟨gb, 0, none⟩) N c) ∧ w'.frozen? ⟨g, 1, none⟩ = false ∧ post (.returned (.bool true)) (w'.setCell ⟨g, 1, none⟩ (.slice A' p' c')))) :
    Calls Try.prog 56 #[.pointer (some ⟨g, 0, none⟩), .int .i64 (a : Int), .int .i64 (n : Int)] w post := by
  have hNk : N ≤ 8192 ∧ q ≤ N := ⟨hN, hqN⟩
  obtain ⟨d, hd⟩ : ∃ d, d = M - a := ⟨_, rfl⟩
  have s0 : (M : Int) - (a : Int) = (d : Int) := by omega
  have z1 : decide ((a : Int) < 0) = false := by rw [decide_eq_false_iff_not]; omega
  have z2 : decide ((n : Int) < 1) = false := by rw [decide_eq_false_iff_not]; omega
  have z2' : decide (n < 1) = false := by rw [decide_eq_false_iff_not]; omega
  have z3 : decide ((d : Int) < (n : Int)) = false := by rw [decide_eq_false_iff_not]; omega
  have z3' : decide (d < n) = false := by rw [decide_eq_false_iff_not]; omega
  have ha8 : a ≤ 8192 := by omega
  have hn8 : n ≤ 8192 := by omega
  have hq8 : q ≤ 8192 := by omega
  have hd8 : d ≤ 8192 := by omega
  have z4 : decide ((0 : Int) < (q : Int)) = false := by rw [decide_eq_false_iff_not]; omega
  have z4' : decide (0 < q) = false := by rw [decide_eq_false_iff_not]; omega
  have z7 : decide ((q : Int) < (N : Int)) = false := by rw [decide_eq_false_iff_not]; omega
  have z7' : decide (q < N) = false := by rw [decide_eq_false_iff_not]; omega
  clear hn1 hfit hM hqN hd hq0 hqn
  go_enter Try.func56, Try.ntmps56
  go_wp2_with fail
  refine NB.out.mono ?_
  rintro e1 w1 ⟨rfl, hb1⟩
  have HB1 := Lib.hid hb1
  obtain ⟨xb, hxb⟩ : ∃ xb, w1.heap.size = xb := ⟨_, rfl⟩
  obtain ⟨W1, hW1⟩ : ∃ W1, w1.alloc (.cells #[.int .i64 (a : Int), .int .i64 (n : Int)] 33) = W1 := ⟨_, rfl⟩
  have HW1 := Lib.hid (show Below w.heap.size w W1 by rw [← hW1]; exact hb1.alloc hb1.size _)
  have BX1 := Lib.hid (show Blk W1 xb 33 #[.int .i64 (a : Int), .int .i64 (n : Int)] by rw [← hW1, ← hxb]; exact Blk.new _ _ _)
  have HX := Lib.hid (show w.heap.size ≤ xb by rw [← hxb]; exact hb1.size)
  have g1 := Cg.out W1 HW1.out
  have x10 : W1.cell? ⟨xb, 0, none⟩ = some (.int .i64 (a : Int)) := BX1.out.cell 0
  have x11 : W1.cell? ⟨xb, 1, none⟩ = some (.int .i64 (n : Int)) := BX1.out.cell 1
  clear hb1 NB
  go_wp2_with fail
  have NR1 := Lib.hid (NR.out W1 HW1.out)
  clear NR
  obtain ⟨Wb, hWb⟩ : ∃ Wb, W1.drew.alloc (.cells #[.int .i64 (a : Int), .int .i64 (n : Int)] 33) = Wb := ⟨_, rfl⟩
  rw [hWb] at NR1
  have gb1 : Wb.cell? ⟨g, 1, none⟩ = some (.slice (some ⟨gb, 0, none⟩) N c) := by rw [← hWb]; exact Cg.out _ (HW1.out.drew.alloc HW1.out.size _)
  have hbsz : W1.drew.heap.size = W1.heap.size := rfl
  go_region_with (go_at_call 77; ((with_reducible refine NR1.out.mono ?_); rintro e9 w9 ⟨A9, p9, c9, rfl, cg9, fg9, hfin⟩; have Fin := Lib.hid hfin; clear hfin))
  all_goals
    go_wp2_with fail
    first | exact Fin.out | (go_ret; exact Fin.out)
set_option maxRecDepth 8000 in
set_option maxHeartbeats 8000000 in
theorem gw_none_bad {az al t : Nat} (hn1 : 1 ≤ n) (hfit : a + n ≤ M) (hM : M ≤ 8192) (hN : N ≤ 8192) (hqN : q ≤ N)
    (hq0 : q = 0)
    (hqn : q < N) (hal : az + al ≤ 8192) (ht : t = a + n)
    (ha2 : az < t)
    (c0 : w.cell? ⟨g, 0, none⟩ = some (.int .i64 (M : Int)))
    (NB : Hid (Calls Try.prog 43 #[.pointer (some ⟨g, 0, none⟩), .int .i64 (a : Int)] w fun e w' => e = .returned (.int .i64 (q : Int)) ∧ Below w.heap.size w w'))
    (Cg : Hid (∀ W : World, Below w.heap.size w W → W.cell? ⟨g, 1, none⟩ = some (.slice (some ⟨gb, 0, none⟩) N c)))
    (Cq : Hid (∀ W : World, Below w.heap.size w W → W.cell? ⟨gb, q * 2, none⟩ = some (.int .i64 (az : Int)) ∧ W.cell? ⟨gb, q * 2 + 1, none⟩ = some (.int .i64 (al : Int))))
    (Pf : Hid (∀ W : World, Below w.heap.size w W → post (.returned (.bool false)) W)) :
    Calls Try.prog 56 #[.pointer (some ⟨g, 0, none⟩), .int .i64 (a : Int), .int .i64 (n : Int)] w post := by
  have hNk : N ≤ 8192 ∧ q ≤ N := ⟨hN, hqN⟩
  obtain ⟨d, hd⟩ : ∃ d, d = M - a := ⟨_, rfl⟩
  have s0 : (M : Int) - (a : Int) = (d : Int) := by omega
  have z1 : decide ((a : Int) < 0) = false := by rw [decide_eq_false_iff_not]; omega
  have z2 : decide ((n : Int) < 1) = false := by rw [decide_eq_false_iff_not]; omega
  have z2' : decide (n < 1) = false := by rw [decide_eq_false_iff_not]; omega
  have z3 : decide ((d : Int) < (n : Int)) = false := by rw [decide_eq_false_iff_not]; omega
  have z3' : decide (d < n) = false := by rw [decide_eq_false_iff_not]; omega
  have ha8 : a ≤ 8192 := by omega
  have hn8 : n ≤ 8192 := by omega
  have hq8 : q ≤ 8192 := by omega
  have hd8 : d ≤ 8192 := by omega
  have z4 : decide ((0 : Int) < (q : Int)) = false := by rw [decide_eq_false_iff_not]; omega
  have z4' : decide (0 < q) = false := by rw [decide_eq_false_iff_not]; omega
  have z7 : decide ((q : Int) < (N : Int)) = true := by rw [decide_eq_true_eq]; omega
  have z7' : decide (q < N) = true := by rw [decide_eq_true_eq]; omega
  have zq : (q : Int) < (N : Int) := by omega
  have s8 : (a : Int) + (n : Int) = (t : Int) := by omega
  have ht9 : t ≤ 20000 := by omega
  have haz8 : az ≤ 8192 := by omega
  have hal8 : al ≤ 8192 := by omega
  have z8 : decide ((az : Int) < (t : Int)) = true := by rw [decide_eq_true_eq]; omega
  have z8' : decide (az < t) = true := by rw [decide_eq_true_eq]; omega
  clear hn1 hfit hM hqN hd hq0 hqn hal ht ha2
  go_enter Try.func56, Try.ntmps56
  go_wp2_with fail
  refine NB.out.mono ?_
  rintro e1 w1 ⟨rfl, hb1⟩
  have HB1 := Lib.hid hb1
  obtain ⟨xb, hxb⟩ : ∃ xb, w1.heap.size = xb := ⟨_, rfl⟩
  obtain ⟨W1, hW1⟩ : ∃ W1, w1.alloc (.cells #[.int .i64 (a : Int), .int .i64 (n : Int)] 33) = W1 := ⟨_, rfl⟩
  have HW1 := Lib.hid (show Below w.heap.size w W1 by rw [← hW1]; exact hb1.alloc hb1.size _)
  have BX1 := Lib.hid (show Blk W1 xb 33 #[.int .i64 (a : Int), .int .i64 (n : Int)] by rw [← hW1, ← hxb]; exact Blk.new _ _ _)
  have HX := Lib.hid (show w.heap.size ≤ xb by rw [← hxb]; exact hb1.size)
  have g1 := Cg.out W1 HW1.out
  have x10 : W1.cell? ⟨xb, 0, none⟩ = some (.int .i64 (a : Int)) := BX1.out.cell 0
  have x11 : W1.cell? ⟨xb, 1, none⟩ = some (.int .i64 (n : Int)) := BX1.out.cell 1
  clear hb1 NB
  obtain ⟨q60, q61⟩ := Cq.out W1 HW1.out
  obtain ⟨ab, hab⟩ : ∃ ab, W1.heap.size = ab := ⟨_, rfl⟩
  obtain ⟨W6, hW6⟩ : ∃ W6, W1.alloc (.cells #[.int .i64 (az : Int), .int .i64 (al : Int)] 33) = W6 := ⟨_, rfl⟩
  have HW6 := Lib.hid (show Below w.heap.size w W6 by rw [← hW6]; exact HW1.out.alloc HW1.out.size _)
  have BX6 := Lib.hid (show Blk W6 xb 33 #[.int .i64 (a : Int), .int .i64 (n : Int)] by rw [← hW6]; exact BX1.out.alloc _)
  have BA6 := Lib.hid (show Blk W6 ab 33 #[.int .i64 (az : Int), .int .i64 (al : Int)] by rw [← hW6, ← hab]; exact Blk.new _ _ _)
  have a60 : W6.cell? ⟨ab, 0, none⟩ = some (.int .i64 (az : Int)) := BA6.out.cell 0
  have a61 : W6.cell? ⟨ab, 1, none⟩ = some (.int .i64 (al : Int)) := BA6.out.cell 1
  have g6 := Cg.out W6 HW6.out
  have x60 : W6.cell? ⟨xb, 0, none⟩ = some (.int .i64 (a : Int)) := BX6.out.cell 0
  have x61 : W6.cell? ⟨xb, 1, none⟩ = some (.int .i64 (n : Int)) := BX6.out.cell 1
  have Fin := Lib.hid (Pf.out W6 HW6.out)
  go_wp2_with fail
  first | exact Fin.out | (go_ret; exact Fin.out)
set_option maxRecDepth 8000 in
set_option maxHeartbeats 8000000 in
theorem gw_none_gt {az al t : Nat} (hn1 : 1 ≤ n) (hfit : a + n ≤ M) (hM : M ≤ 8192) (hN : N ≤ 8192) (hqN : q ≤ N)
    (hq0 : q = 0)
    (hqn : q < N) (hal : az + al ≤ 8192) (ht : t = a + n)
    (ha2 : t < az)
    (c0 : w.cell? ⟨g, 0, none⟩ = some (.int .i64 (M : Int)))
    (NB : Hid (Calls Try.prog 43 #[.pointer (some ⟨g, 0, none⟩), .int .i64 (a : Int)] w fun e w' => e = .returned (.int .i64 (q : Int)) ∧ Below w.heap.size w w'))
    (Cg : Hid (∀ W : World, Below w.heap.size w W → W.cell? ⟨g, 1, none⟩ = some (.slice (some ⟨gb, 0, none⟩) N c)))
    (Cq : Hid (∀ W : World, Below w.heap.size w W → W.cell? ⟨gb, q * 2, none⟩ = some (.int .i64 (az : Int)) ∧ W.cell? ⟨gb, q * 2 + 1, none⟩ = some (.int .i64 (al : Int))))
    (NR : Hid (∀ Wc : World, Below w.heap.size w Wc → Calls Try.prog 77 #[.slice (some ⟨gb, 0, none⟩) N c, .int .i64 (q : Int), .int .i64 (q : Int), .slice (some ⟨Wc.heap.size, 0, none⟩) 1 1] (Wc.drew.alloc (.cells #[.int .i64 (a : Int), .int .i64 (n : Int)] 33)) fun e w' =>
      ∃ A' p' c', e = .returned (.slice A' p' c') ∧ w'.cell? ⟨g, 1, none⟩ = some (.slice (some ⟨gb, 0, none⟩) N c) ∧ w'.frozen? ⟨g, 1, none⟩ = false ∧ post (.returned (.bool true)) (w'.setCell ⟨g, 1, none⟩ (.slice A' p' c')))) :
    Calls Try.prog 56 #[.pointer (some ⟨g, 0, none⟩), .int .i64 (a : Int), .int .i64 (n : Int)] w post := by
  have hNk : N ≤ 8192 ∧ q ≤ N := ⟨hN, hqN⟩
  obtain ⟨d, hd⟩ : ∃ d, d = M - a := ⟨_, rfl⟩
  have s0 : (M : Int) - (a : Int) = (d : Int) := by omega
  have z1 : decide ((a : Int) < 0) = false := by rw [decide_eq_false_iff_not]; omega
  have z2 : decide ((n : Int) < 1) = false := by rw [decide_eq_false_iff_not]; omega
  have z2' : decide (n < 1) = false := by rw [decide_eq_false_iff_not]; omega
  have z3 : decide ((d : Int) < (n : Int)) = false := by rw [decide_eq_false_iff_not]; omega
  have z3' : decide (d < n) = false := by rw [decide_eq_false_iff_not]; omega
  have ha8 : a ≤ 8192 := by omega
  have hn8 : n ≤ 8192 := by omega
  have hq8 : q ≤ 8192 := by omega
  have hd8 : d ≤ 8192 := by omega
  have z4 : decide ((0 : Int) < (q : Int)) = false := by rw [decide_eq_false_iff_not]; omega
  have z4' : decide (0 < q) = false := by rw [decide_eq_false_iff_not]; omega
  have z7 : decide ((q : Int) < (N : Int)) = true := by rw [decide_eq_true_eq]; omega
  have z7' : decide (q < N) = true := by rw [decide_eq_true_eq]; omega
  have zq : (q : Int) < (N : Int) := by omega
  have s8 : (a : Int) + (n : Int) = (t : Int) := by omega
  have ht9 : t ≤ 20000 := by omega
  have haz8 : az ≤ 8192 := by omega
  have hal8 : al ≤ 8192 := by omega
  have z8 : decide ((az : Int) < (t : Int)) = false := by rw [decide_eq_false_iff_not]; omega
  have z8' : decide (az < t) = false := by rw [decide_eq_false_iff_not]; omega
  have z9 : ((az : Int) == (t : Int)) = false := by rw [beq_eq_false_iff_ne]; omega
  have z9' : (az == t) = false := by rw [beq_eq_false_iff_ne]; omega
  clear hn1 hfit hM hqN hd hq0 hqn hal ht ha2
  go_enter Try.func56, Try.ntmps56
  go_wp2_with fail
  refine NB.out.mono ?_
  rintro e1 w1 ⟨rfl, hb1⟩
  have HB1 := Lib.hid hb1
  obtain ⟨xb, hxb⟩ : ∃ xb, w1.heap.size = xb := ⟨_, rfl⟩
  obtain ⟨W1, hW1⟩ : ∃ W1, w1.alloc (.cells #[.int .i64 (a : Int), .int .i64 (n : Int)] 33) = W1 := ⟨_, rfl⟩
  have HW1 := Lib.hid (show Below w.heap.size w W1 by rw [← hW1]; exact hb1.alloc hb1.size _)
  have BX1 := Lib.hid (show Blk W1 xb 33 #[.int .i64 (a : Int), .int .i64 (n : Int)] by rw [← hW1, ← hxb]; exact Blk.new _ _ _)
  have HX := Lib.hid (show w.heap.size ≤ xb by rw [← hxb]; exact hb1.size)
  have g1 := Cg.out W1 HW1.out
  have x10 : W1.cell? ⟨xb, 0, none⟩ = some (.int .i64 (a : Int)) := BX1.out.cell 0
  have x11 : W1.cell? ⟨xb, 1, none⟩ = some (.int .i64 (n : Int)) := BX1.out.cell 1
  clear hb1 NB
  obtain ⟨q60, q61⟩ := Cq.out W1 HW1.out
  obtain ⟨ab, hab⟩ : ∃ ab, W1.heap.size = ab := ⟨_, rfl⟩
  obtain ⟨W6, hW6⟩ : ∃ W6, W1.alloc (.cells #[.int .i64 (az : Int), .int .i64 (al : Int)] 33) = W6 := ⟨_, rfl⟩
  have HW6 := Lib.hid (show Below w.heap.size w W6 by rw [← hW6]; exact HW1.out.alloc HW1.out.size _)
  have BX6 := Lib.hid (show Blk W6 xb 33 #[.int .i64 (a : Int), .int .i64 (n : Int)] by rw [← hW6]; exact BX1.out.alloc _)
  have BA6 := Lib.hid (show Blk W6 ab 33 #[.int .i64 (az : Int), .int .i64 (al : Int)] by rw [← hW6, ← hab]; exact Blk.new _ _ _)
  have a60 : W6.cell? ⟨ab, 0, none⟩ = some (.int .i64 (az : Int)) := BA6.out.cell 0
  have a61 : W6.cell? ⟨ab, 1, none⟩ = some (.int .i64 (al : Int)) := BA6.out.cell 1
  have g6 := Cg.out W6 HW6.out
  have x60 : W6.cell? ⟨xb, 0, none⟩ = some (.int .i64 (a : Int)) := BX6.out.cell 0
  have x61 : W6.cell? ⟨xb, 1, none⟩ = some (.int .i64 (n : Int)) := BX6.out.cell 1
  go_wp2_with fail
  have NR1 := Lib.hid (NR.out W6 HW6.out)
  clear NR
  obtain ⟨Wb, hWb⟩ : ∃ Wb, W6.drew.alloc (.cells #[.int .i64 (a : Int), .int .i64 (n : Int)] 33) = Wb := ⟨_, rfl⟩
  rw [hWb] at NR1
  have gb1 : Wb.cell? ⟨g, 1, none⟩ = some (.slice (some ⟨gb, 0, none⟩) N c) := by rw [← hWb]; exact Cg.out _ (HW6.out.drew.alloc HW6.out.size _)
  have hbsz : W6.drew.heap.size = W6.heap.size := rfl
  go_region_with (go_at_call 77; ((with_reducible refine NR1.out.mono ?_); rintro e9 w9 ⟨A9, p9, c9, rfl, cg9, fg9, hfin⟩; have Fin := Lib.hid hfin; clear hfin))
  all_goals
    go_wp2_with fail
    first | exact Fin.out | (go_ret; exact Fin.out)
set_option maxRecDepth 8000 in
set_option maxHeartbeats 8000000 in
theorem gw_none_eq {az al t q1 l2 : Nat} (hn1 : 1 ≤ n) (hfit : a + n ≤ M) (hM : M ≤ 8192) (hN : N ≤ 8192) (hqN : q ≤ N)
    (hq0 : q = 0)
    (hqn : q < N) (hal : az + al ≤ 8192) (ht : t = a + n)
    (ha2 : az = t)
    (hq1 : q1 = q + 1) (hl2 : l2 = n + al)
    (c0 : w.cell? ⟨g, 0, none⟩ = some (.int .i64 (M : Int)))
    (NB : Hid (Calls Try.prog 43 #[.pointer (some ⟨g, 0, none⟩), .int .i64 (a : Int)] w fun e w' => e = .returned (.int .i64 (q : Int)) ∧ Below w.heap.size w w'))
    (Cg : Hid (∀ W : World, Below w.heap.size w W → W.cell? ⟨g, 1, none⟩ = some (.slice (some ⟨gb, 0, none⟩) N c)))
    (Cq : Hid (∀ W : World, Below w.heap.size w W → W.cell? ⟨gb, q * 2, none⟩ = some (.int .i64 (az : Int)) ∧ W.cell? ⟨gb, q * 2 + 1, none⟩ = some (.int .i64 (al : Int))))
    (NR : Hid (∀ Wc : World, Below w.heap.size w Wc → Calls Try.prog 77 #[.slice (some ⟨gb, 0, none⟩) N c, .int .i64 (q : Int), .int .i64 (q1 : Int), .slice (some ⟨Wc.heap.size, 0, none⟩) 1 1] (Wc.drew.alloc (.cells #[.int .i64 (a : Int), .int .i64 (l2 : Int)] 33)) fun e w' =>
      ∃ A' p' c', e = .returned (.slice A' p' c') ∧ w'.cell? ⟨g, 1, none⟩ = some (.slice (some ⟨gb, 0, none⟩) N c) ∧ w'.frozen? ⟨g, 1, none⟩ = false ∧ post (.returned (.bool true)) (w'.setCell ⟨g, 1, none⟩ (.slice A' p' c')))) :
    Calls Try.prog 56 #[.pointer (some ⟨g, 0, none⟩), .int .i64 (a : Int), .int .i64 (n : Int)] w post := by
  have hNk : N ≤ 8192 ∧ q ≤ N := ⟨hN, hqN⟩
  obtain ⟨d, hd⟩ : ∃ d, d = M - a := ⟨_, rfl⟩
  have s0 : (M : Int) - (a : Int) = (d : Int) := by omega
  have z1 : decide ((a : Int) < 0) = false := by rw [decide_eq_false_iff_not]; omega
  have z2 : decide ((n : Int) < 1) = false := by rw [decide_eq_false_iff_not]; omega
  have z2' : decide (n < 1) = false := by rw [decide_eq_false_iff_not]; omega
  have z3 : decide ((d : Int) < (n : Int)) = false := by rw [decide_eq_false_iff_not]; omega
  have z3' : decide (d < n) = false := by rw [decide_eq_false_iff_not]; omega
  have ha8 : a ≤ 8192 := by omega
  have hn8 : n ≤ 8192 := by omega
  have hq8 : q ≤ 8192 := by omega
  have hd8 : d ≤ 8192 := by omega
  have z4 : decide ((0 : Int) < (q : Int)) = false := by rw [decide_eq_false_iff_not]; omega
  have z4' : decide (0 < q) = false := by rw [decide_eq_false_iff_not]; omega
  have z7 : decide ((q : Int) < (N : Int)) = true := by rw [decide_eq_true_eq]; omega
  have z7' : decide (q < N) = true := by rw [decide_eq_true_eq]; omega
  have zq : (q : Int) < (N : Int) := by omega
  have s8 : (a : Int) + (n : Int) = (t : Int) := by omega
  have ht9 : t ≤ 20000 := by omega
  have haz8 : az ≤ 8192 := by omega
  have hal8 : al ≤ 8192 := by omega
  have z8 : decide ((az : Int) < (t : Int)) = false := by rw [decide_eq_false_iff_not]; omega
  have z8' : decide (az < t) = false := by rw [decide_eq_false_iff_not]; omega
  have z9 : ((az : Int) == (t : Int)) = true := by rw [beq_iff_eq]; omega
  have z9' : (az == t) = true := by rw [beq_iff_eq]; omega
  have s7 : (q : Int) + 1 = (q1 : Int) := by omega
  have hq19 : q1 ≤ 9000 := by omega
  have s9 : (n : Int) + (al : Int) = (l2 : Int) := by omega
  have hl29 : l2 ≤ 40000 := by omega
  clear hn1 hfit hM hqN hd hq0 hqn hal ht ha2 hq1 hl2
  go_enter Try.func56, Try.ntmps56
  go_wp2_with fail
  refine NB.out.mono ?_
  rintro e1 w1 ⟨rfl, hb1⟩
  have HB1 := Lib.hid hb1
  obtain ⟨xb, hxb⟩ : ∃ xb, w1.heap.size = xb := ⟨_, rfl⟩
  obtain ⟨W1, hW1⟩ : ∃ W1, w1.alloc (.cells #[.int .i64 (a : Int), .int .i64 (n : Int)] 33) = W1 := ⟨_, rfl⟩
  have HW1 := Lib.hid (show Below w.heap.size w W1 by rw [← hW1]; exact hb1.alloc hb1.size _)
  have BX1 := Lib.hid (show Blk W1 xb 33 #[.int .i64 (a : Int), .int .i64 (n : Int)] by rw [← hW1, ← hxb]; exact Blk.new _ _ _)
  have HX := Lib.hid (show w.heap.size ≤ xb by rw [← hxb]; exact hb1.size)
  have g1 := Cg.out W1 HW1.out
  have x10 : W1.cell? ⟨xb, 0, none⟩ = some (.int .i64 (a : Int)) := BX1.out.cell 0
  have x11 : W1.cell? ⟨xb, 1, none⟩ = some (.int .i64 (n : Int)) := BX1.out.cell 1
  clear hb1 NB
  obtain ⟨q60, q61⟩ := Cq.out W1 HW1.out
  obtain ⟨ab, hab⟩ : ∃ ab, W1.heap.size = ab := ⟨_, rfl⟩
  obtain ⟨W6, hW6⟩ : ∃ W6, W1.alloc (.cells #[.int .i64 (az : Int), .int .i64 (al : Int)] 33) = W6 := ⟨_, rfl⟩
  have HW6 := Lib.hid (show Below w.heap.size w W6 by rw [← hW6]; exact HW1.out.alloc HW1.out.size _)
  have BX6 := Lib.hid (show Blk W6 xb 33 #[.int .i64 (a : Int), .int .i64 (n : Int)] by rw [← hW6]; exact BX1.out.alloc _)
  have BA6 := Lib.hid (show Blk W6 ab 33 #[.int .i64 (az : Int), .int .i64 (al : Int)] by rw [← hW6, ← hab]; exact Blk.new _ _ _)
  have a60 : W6.cell? ⟨ab, 0, none⟩ = some (.int .i64 (az : Int)) := BA6.out.cell 0
  have a61 : W6.cell? ⟨ab, 1, none⟩ = some (.int .i64 (al : Int)) := BA6.out.cell 1
  have g6 := Cg.out W6 HW6.out
  have x60 : W6.cell? ⟨xb, 0, none⟩ = some (.int .i64 (a : Int)) := BX6.out.cell 0
  have x61 : W6.cell? ⟨xb, 1, none⟩ = some (.int .i64 (n : Int)) := BX6.out.cell 1
  have fx6 : W6.frozen? ⟨xb, 1, none⟩ = false := BX6.out.frozen 1
  obtain ⟨W7, hW7⟩ : ∃ W7, W6.setCell ⟨xb, 1, none⟩ (.int .i64 (l2 : Int)) = W7 := ⟨_, rfl⟩
  have HW7 := Lib.hid (show Below w.heap.size w W7 by rw [← hW7]; exact HW6.out.setCell (p := ⟨xb, 1, none⟩) HX.out _)
  have BX7 := Lib.hid (show Blk W7 xb 33 #[.int .i64 (a : Int), .int .i64 (l2 : Int)] by rw [← hW7]; exact BX6.out.set_ 1 _)
  have g7 := Cg.out W7 HW7.out
  have x70 : W7.cell? ⟨xb, 0, none⟩ = some (.int .i64 (a : Int)) := BX7.out.cell 0
  have x71 : W7.cell? ⟨xb, 1, none⟩ = some (.int .i64 (l2 : Int)) := BX7.out.cell 1
  go_wp2_with fail
  have NR1 := Lib.hid (NR.out W7 HW7.out)
  clear NR
  obtain ⟨Wb, hWb⟩ : ∃ Wb, W7.drew.alloc (.cells #[.int .i64 (a : Int), .int .i64 (l2 : Int)] 33) = Wb := ⟨_, rfl⟩
  rw [hWb] at NR1
  have gb1 : Wb.cell? ⟨g, 1, none⟩ = some (.slice (some ⟨gb, 0, none⟩) N c) := by rw [← hWb]; exact Cg.out _ (HW7.out.drew.alloc HW7.out.size _)
  have hbsz : W7.drew.heap.size = W7.heap.size := rfl
  go_region_with (go_at_call 77; ((with_reducible refine NR1.out.mono ?_); rintro e9 w9 ⟨A9, p9, c9, rfl, cg9, fg9, hfin⟩; have Fin := Lib.hid hfin; clear hfin))
  all_goals
    go_wp2_with fail
    first | exact Fin.out | (go_ret; exact Fin.out)
set_option maxRecDepth 8000 in
set_option maxHeartbeats 8000000 in
theorem gw_bad_none {p bs bl be : Nat} (hn1 : 1 ≤ n) (hfit : a + n ≤ M) (hM : M ≤ 8192) (hN : N ≤ 8192) (hqN : q ≤ N)
    (hp : q = p + 1) (hbl : bs + bl ≤ 8192) (hbe : be = bs + bl)
    (hb2 : a < be)
    (c0 : w.cell? ⟨g, 0, none⟩ = some (.int .i64 (M : Int)))
    (NB : Hid (Calls Try.prog 43 #[.pointer (some ⟨g, 0, none⟩), .int .i64 (a : Int)] w fun e w' => e = .returned (.int .i64 (q : Int)) ∧ Below w.heap.size w w'))
    (Cg : Hid (∀ W : World, Below w.heap.size w W → W.cell? ⟨g, 1, none⟩ = some (.slice (some ⟨gb, 0, none⟩) N c)))
    (Cp : Hid (∀ W : World, Below w.heap.size w W → W.cell? ⟨gb, p * 2, none⟩ = some (.int .i64 (bs : Int)) ∧ W.cell? ⟨gb, p * 2 + 1, none⟩ = some (.int .i64 (bl : Int))))
    (Pf : Hid (∀ W : World, Below w.heap.size w W → post (.returned (.bool false)) W)) :
    Calls Try.prog 56 #[.pointer (some ⟨g, 0, none⟩), .int .i64 (a : Int), .int .i64 (n : Int)] w post := by
  have hNk : N ≤ 8192 ∧ q ≤ N := ⟨hN, hqN⟩
  obtain ⟨d, hd⟩ : ∃ d, d = M - a := ⟨_, rfl⟩
  have s0 : (M : Int) - (a : Int) = (d : Int) := by omega
  have z1 : decide ((a : Int) < 0) = false := by rw [decide_eq_false_iff_not]; omega
  have z2 : decide ((n : Int) < 1) = false := by rw [decide_eq_false_iff_not]; omega
  have z2' : decide (n < 1) = false := by rw [decide_eq_false_iff_not]; omega
  have z3 : decide ((d : Int) < (n : Int)) = false := by rw [decide_eq_false_iff_not]; omega
  have z3' : decide (d < n) = false := by rw [decide_eq_false_iff_not]; omega
  have ha8 : a ≤ 8192 := by omega
  have hn8 : n ≤ 8192 := by omega
  have hq8 : q ≤ 8192 := by omega
  have hd8 : d ≤ 8192 := by omega
  have s1 : (q : Int) - 1 = (p : Int) := by omega
  have zp : (p : Int) < (N : Int) := by omega
  have z4 : decide ((0 : Int) < (q : Int)) = true := by rw [decide_eq_true_eq]; omega
  have z4' : decide (0 < q) = true := by rw [decide_eq_true_eq]; omega
  have hp8 : p ≤ 8192 := by omega
  have hbs8 : bs ≤ 8192 := by omega
  have hbl8 : bl ≤ 8192 := by omega
  have hbe8 : be ≤ 8192 := by omega
  have NE := Lib.hid (fun W : World => end_any W bs bl (by omega) (by omega))
  rw [← hbe] at NE
  have z5 : decide ((a : Int) < (be : Int)) = true := by rw [decide_eq_true_eq]; omega
  have z5' : decide (a < be) = true := by rw [decide_eq_true_eq]; omega
  clear hn1 hfit hM hqN hd hp hbl hbe hb2
  go_enter Try.func56, Try.ntmps56
  go_wp2_with fail
  refine NB.out.mono ?_
  rintro e1 w1 ⟨rfl, hb1⟩
  have HB1 := Lib.hid hb1
  obtain ⟨xb, hxb⟩ : ∃ xb, w1.heap.size = xb := ⟨_, rfl⟩
  obtain ⟨W1, hW1⟩ : ∃ W1, w1.alloc (.cells #[.int .i64 (a : Int), .int .i64 (n : Int)] 33) = W1 := ⟨_, rfl⟩
  have HW1 := Lib.hid (show Below w.heap.size w W1 by rw [← hW1]; exact hb1.alloc hb1.size _)
  have BX1 := Lib.hid (show Blk W1 xb 33 #[.int .i64 (a : Int), .int .i64 (n : Int)] by rw [← hW1, ← hxb]; exact Blk.new _ _ _)
  have HX := Lib.hid (show w.heap.size ≤ xb by rw [← hxb]; exact hb1.size)
  have g1 := Cg.out W1 HW1.out
  have x10 : W1.cell? ⟨xb, 0, none⟩ = some (.int .i64 (a : Int)) := BX1.out.cell 0
  have x11 : W1.cell? ⟨xb, 1, none⟩ = some (.int .i64 (n : Int)) := BX1.out.cell 1
  clear hb1 NB
  obtain ⟨p10, p11⟩ := Cp.out W1 HW1.out
  obtain ⟨bb, hbb⟩ : ∃ bb, W1.heap.size = bb := ⟨_, rfl⟩
  obtain ⟨W2, hW2⟩ : ∃ W2, W1.alloc (.cells #[.int .i64 (bs : Int), .int .i64 (bl : Int)] 33) = W2 := ⟨_, rfl⟩
  have HW2 := Lib.hid (show Below w.heap.size w W2 by rw [← hW2]; exact HW1.out.alloc HW1.out.size _)
  have BX2 := Lib.hid (show Blk W2 xb 33 #[.int .i64 (a : Int), .int .i64 (n : Int)] by rw [← hW2]; exact BX1.out.alloc _)
  have BB2 := Lib.hid (show Blk W2 bb 33 #[.int .i64 (bs : Int), .int .i64 (bl : Int)] by rw [← hW2, ← hbb]; exact Blk.new _ _ _)
  have b20 : W2.cell? ⟨bb, 0, none⟩ = some (.int .i64 (bs : Int)) := BB2.out.cell 0
  have b21 : W2.cell? ⟨bb, 1, none⟩ = some (.int .i64 (bl : Int)) := BB2.out.cell 1
  go_wp2_with fail
  refine (NE.out W2).mono ?_
  rintro e3 w3 ⟨rfl, hb3⟩
  have HW3 := Lib.hid (HW2.out.trans (hb3.mono HW2.out.size))
  have BX3 := Lib.hid (BX2.out.keep (hb3.block xb BX2.out.lt))
  have BB3 := Lib.hid (BB2.out.keep (hb3.block bb BB2.out.lt))
  clear hb3
  have Fin := Lib.hid (Pf.out w3 HW3.out)
  go_wp2_with fail
  first | exact Fin.out | (go_ret; exact Fin.out)
end
end Go.Proofs.Ytaainefdjbmekaa
