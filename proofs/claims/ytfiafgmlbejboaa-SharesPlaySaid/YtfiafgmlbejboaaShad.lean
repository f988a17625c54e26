/- The statements' awake and SharesAdds under the contracts. -/
import Derived.Test.YtfiafgmlbejboaaShc
namespace Go.Proofs.Ytfiafgmlbejboaa
open Go.RowKit

namespace Sh
/-- What Take answers. -/
theorem take_some {F : List Bool} {k : Nat} (hk : 1 ≤ k) : (∃ a, Rn.take F (k : Int) = (a, true, Rn.setN F a false k) ∧ a + k ≤ F.length ∧ ∀ j, a ≤ j → j < a + k → F.getD j false = true) ∨ Rn.take F (k : Int) = (0, false, F) := by
  cases hf : (Rn.list F).find? fun r => decide (k ≤ r.2) with
  | none => exact .inr (Rn.take_none hk hf)
  | some r =>
    left
    have hr := List.mem_of_find?_eq_some hf
    have hkr : k ≤ r.2 := by have := List.find?_some hf; simpa using this
    obtain ⟨e1, e2⟩ := Rn.list_end F r hr
    have ht := Rn.list_true F r hr
    exact ⟨r.1, (Rn.take_back hk hf).1, by omega, fun j j1 j2 => ht j j1 (by omega)⟩
/-- Taken, but not known yet; then known. -/
theorem StOk.taken {F : List Bool} {now was : List U} (h : StOk F now was) {a k : Nat} (hk : 1 ≤ k) (hf : a + k ≤ F.length) (hfree : ∀ j, a ≤ j → j < a + k → F.getD j false = true) :
    StOk (Rn.setN F a false k) now was ∧ Sh.add now (a : Int) (k : Int) = (true, ins now a k) ∧ StOk (Rn.setN F a false k) (ins now a k) was := by
  have hat := fun j => Rn.setN_at F a false j k hf
  have hl := Rn.setN_len F a false k
  obtain ⟨h1, h2⟩ := h.add hk hl hf hfree hat
  refine ⟨⟨fun u hu => ?_, h.apart, h.apart2, h.old⟩, h1, h2⟩
  obtain ⟨k1, k2, k3⟩ := h.held u hu
  refine ⟨k1, by omega, fun j j1 j2 => ?_⟩
  rw [hat]
  split
  · rfl
  · exact k3 j j1 j2
theorem add_bad (now : List U) {a n : Int} (h : n < 1 ∨ a < 0) : Sh.add now a n = (false, now) := by
  unfold Sh.add
  rw [if_pos (by omega)]
end Sh
theorem shst_taken {F : List Bool} {now was : List Sh.U} (h : ShSt F now was) {a k : Nat} (hk : 1 ≤ k) (hf : a + k ≤ F.length) (hF : F.length ≤ 10000) (hn : now.length < 100000) (hfree : ∀ j, a ≤ j → j < a + k → F.getD j false = true) :
    ShSt (Rn.setN F a false k) now was ∧ Sh.add now (a : Int) (k : Int) = (true, Sh.ins now a k) ∧ ShSt (Rn.setN F a false k) (Sh.ins now a k) was := by
  obtain ⟨h1, h2, h3⟩ := h.ok.taken hk hf hfree
  refine ⟨⟨h1, h.few, h.few2⟩, h2, ⟨h3, ⟨by rw [Sh.ins_len]; omega, fun u hu => ?_⟩, h.few2⟩⟩
  unfold Sh.ins at hu
  rw [List.mem_append, List.mem_append, List.mem_singleton] at hu
  rcases hu with (hu | hu) | hu
  · exact h.few.2 u (List.mem_of_mem_take hu)
  · rw [hu]; exact ⟨by show a ≤ _; omega, by show k ≤ _; omega, by show 1 ≤ 1000000000; decide⟩
  · exact h.few.2 u (List.mem_of_mem_drop hu)
theorem shst_start (F : List Bool) : ShSt F [] [] := ⟨Sh.StOk.start F, ⟨by decide, by simp⟩, ⟨by decide, by simp⟩⟩
theorem i64_nat {n : Nat} (h : n ≤ 1000000) : I64 (n : Int) := by unfold I64; omega

def G9 : List Bool := [false, false, true, true, true, true, true, true, true]
set_option maxRecDepth 8000 in
set_option maxHeartbeats 8000000 in
theorem shawake_any {Rep : World → Nat → (Nat → Prop) → List Bool → Prop} {RepB : World → Nat → Nat → (Nat → Prop) → List Bool → List Sh.U → List Sh.U → Prop} (hC : RunsC Rep) (hS : ShC Rep RepB) (w : World) :
    Calls Try.prog 26 #[] w fun e w' => e = .returned (.bool true) ∧ Below w.heap.size w w' := by
  obtain ⟨B, hB⟩ : ∃ B, B = w.heap.size := ⟨_, rfl⟩
  have N1 := Lib.hid (new_mine hC 9 w (by unfold I64; omega))
  have HC := Lib.hid hC
  have HS := Lib.hid hS
  have HBw := Lib.hid (show B ≤ w.heap.size by omega)
  have st1 := shst_taken (a := 0) (k := 2) (shst_start (Rn.new 9)) (by decide) (by decide) (by decide) (by decide) (by
    intro j _ h
    have : j = 0 ∨ j = 1 := by omega
    rcases this with rfl | rfl <;> decide)
  rw [show Rn.setN (Rn.new 9) 0 false 2 = G9 by decide, show Sh.ins [] 0 2 = [(0, 2, 1)] from rfl] at st1
  have ST := Lib.hid st1
  rw [← hB] at N1 ⊢
  clear hC hS hB st1
  go_enter Try.func26, Try.ntmps26
  go_wp2_with fail
  refine N1.out.mono ?_
  rintro e w1 ⟨g, rfl, m1, hb1⟩
  have N2 := Lib.hid (MineS.new HS.out m1 (Nat.le_trans HBw.out hb1.size) hb1)
  clear m1 hb1 N1
  go_wp2_with fail
  refine N2.out.mono ?_
  rintro e w2 ⟨gs, rfl, m2⟩
  have N := MineS.take HC.out HS.out m2 2 (by unfold I64; omega) (by rw [show (Rn.take (Rn.new 9) 2).2.2 = G9 by decide]; exact ST.out.1)
  rw [show Rn.take (Rn.new 9) 2 = (0, true, G9) by decide] at N
  have N3 := Lib.hid N
  clear N m2 N2
  go_wp2_with fail
  refine N3.out.mono ?_
  rintro e w3 ⟨rfl, m3⟩
  have ha : Sh.add [] 0 2 = (true, [(0, 2, 1)]) := ST.out.2.1
  have N := MineS.add HS.out m3 0 2 (by unfold I64; omega) (by unfold I64; omega) (by rw [ha]; exact ST.out.2.2)
  rw [ha] at N
  have N4 := Lib.hid N
  clear N m3 N3 ha
  go_wp2_with fail
  refine N4.out.mono ?_
  rintro e w4 ⟨rfl, m4⟩
  have N := MineS.less HS.out m4 0 (by unfold I64; omega) (by rw [show (Sh.change [(0, 2, 1)] 0 false).2 = [(0, 2, 0)] by decide]; exact uok_one (by decide) (by decide) (by decide))
  rw [show Sh.change [(0, 2, 1)] 0 false = (true, [(0, 2, 0)]) by decide] at N
  have N5 := Lib.hid N
  clear N m4 N4
  go_wp2_with fail
  refine N5.out.mono ?_
  rintro e w5 ⟨rfl, m5⟩
  have N := MineS.late HS.out m5
  rw [show Sh.lst true [(0, 2, 0)] = [(0, 2)] by decide] at N
  have N6 := Lib.hid N
  clear N m5 N5
  go_wp2_with fail
  refine N6.out.mono ?_
  rintro e w6 ⟨v6, rfl, ow, m6⟩
  obtain ⟨gl, cl, rfl, hgl, hgl2, hcl, -⟩ := ownR_at ow (by decide)
  obtain ⟨-, cl2⟩ := hcl 0 (by decide)
  have cl2' : w6.cell? ⟨gl, 1, none⟩ = some (.int .i64 2) := cl2
  have CL := Lib.hid (fun X (hb : Below w6.heap.size w6 X) => (hb.cell (p := ⟨gl, 1, none⟩) hgl2).trans cl2')
  obtain ⟨X6, hr6, hx6⟩ := m6.has
  have N := HS.out.uses hr6 m6.st 0 (by unfold I64; omega)
  rw [show Sh.uses [(0, 2, 0)] 0 = 0 by decide] at N
  have N7 := Lib.hid N
  have M6 := Lib.hid m6
  clear N m6 N6 ow hcl cl2 cl2' hr6 hx6
  go_wp2_with fail
  refine N7.out.mono ?_
  rintro e w7 ⟨rfl, hb7⟩
  have cl7 := CL.out w7 hb7
  have m7 := M6.out.below HS.out hb7
  have N := MineS.free HC.out HS.out m7
  rw [show Rn.freeN G9 = 7 by decide] at N
  have N8 := Lib.hid N
  clear N m7 N7 hb7 M6 CL
  go_wp2_with fail
  refine N8.out.mono ?_
  rintro e w8 ⟨rfl, m8⟩
  have N := MineS.settle HS.out m8
  rw [show Sh.blocks (Sh.lates [(0, 2, 0)]) = 2 by decide, show Sh.giveAll G9 (Sh.lates [(0, 2, 0)]) = Rn.new 9 by decide] at N
  have N9 := Lib.hid N
  clear N m8 N8 cl7
  go_wp2_with fail
  refine N9.out.mono ?_
  rintro e w9 ⟨rfl, m9⟩
  have N := MineS.free HC.out HS.out m9
  rw [show Rn.freeN (Rn.new 9) = 9 by decide] at N
  have N10 := Lib.hid N
  clear N m9 N9
  go_wp2_with fail
  refine N10.out.mono ?_
  rintro e w10 ⟨rfl, m10⟩
  have Fin := Lib.hid m10.bel
  clear m10 N10
  go_wp2_with fail
  go_ret
  exact ⟨rfl, Fin.out⟩

set_option maxRecDepth 8000 in
set_option maxHeartbeats 8000000 in
theorem adds_any {Rep : World → Nat → (Nat → Prop) → List Bool → Prop} {RepB : World → Nat → Nat → (Nat → Prop) → List Bool → List Sh.U → List Sh.U → Prop} (hC : RunsC Rep) (hS : ShC Rep RepB) (w : World) (a n : Int) (ha : I64 a) (hn : I64 n) (x : Nat) (hx : x < 256) :
    Calls Try.prog 11 #[.int .i64 a, .int .i64 n, .int .u8 (x : Int)] w fun e w' => e = .returned (.bool true) ∧ Below w.heap.size w w' := by
  have AW := Lib.hid (shawake_any hC hS w)
  obtain ⟨B, hB⟩ : ∃ B, B = w.heap.size := ⟨_, rfl⟩
  have HC := Lib.hid hC
  have HS := Lib.hid hS
  have HBw := Lib.hid (show B ≤ w.heap.size by omega)
  have HA := Lib.hid ha
  have HN := Lib.hid hn
  rw [← hB] at AW ⊢
  clear hC hS hB ha hn
  obtain ⟨k, hk⟩ : ∃ k, k = x % 15 + 1 := ⟨_, rfl⟩
  have hk1 : 1 ≤ k := by omega
  have hk15 : k ≤ 15 := by omega
  have HK := Lib.hid (show (x : Int) % 15 + 1 = (k : Int) by omega)
  have HF := Lib.hid (show Rn.new 20 = Rn.pre 0 20 by decide)
  clear hk
  by_cases h1 : a < 0
  · have z1 : decide (0 ≤ a) = false := by rw [decide_eq_false_iff_not]; omega
    go_enter Try.func11, Try.ntmps11
    go_wp2_with fail
    refine AW.out.mono ?_
    rintro e w0 ⟨rfl, hb0⟩
    have S0 := Lib.hid (Nat.le_trans HBw.out hb0.size)
    have H0 := Lib.hid hb0
    have N1 := Lib.hid (new_mine HC.out 20 w0 (by unfold I64; omega))
    clear AW hb0
    go_wp2_with fail
    refine N1.out.mono ?_
    rintro e w1 ⟨g, rfl, m1, hb1⟩
    have N2 := Lib.hid (MineS.new (w0 := w) HS.out (show MineR Rep w1 B g (Rn.new 20) from by obtain ⟨X, e1, e2⟩ := m1; exact ⟨X, e1, fun b hb => Nat.le_trans S0.out (e2 b hb)⟩) (Nat.le_trans S0.out hb1.size) (H0.out.trans (hb1.mono S0.out)))
    clear m1 hb1 N1
    go_wp2_with fail
    refine N2.out.mono ?_
    rintro e w2 ⟨gs, rfl, m2⟩
    have hbad := Sh.add_bad [] (a := a) (n := n) (by omega)
    have N := MineS.add HS.out m2 a n HA.out HN.out (by rw [hbad]; exact shst_start _)
    rw [hbad] at N
    have N3 := Lib.hid N
    clear N m2 N2 hbad
    go_wp2_with fail
    refine N3.out.mono ?_
    rintro e w3 ⟨rfl, m3⟩
    have N := MineS.list HS.out m3
    rw [show Sh.lst false [] = [] from rfl] at N
    have N4 := Lib.hid N
    clear N m3 N3
    go_wp2_with fail
    refine N4.out.mono ?_
    rintro e w4 ⟨v, rfl, ow, m4⟩
    obtain ⟨A4, c4, rfl⟩ := ownR_slice ow
    have Fin := Lib.hid m4.bel
    clear m4 N4 ow
    go_wp2_with fail
    go_ret
    exact ⟨rfl, Fin.out⟩
  have z1 : decide (0 ≤ a) = true := by rw [decide_eq_true_eq]; omega
  by_cases h2 : n < 1
  · have z2 : decide (1 ≤ n) = false := by rw [decide_eq_false_iff_not]; omega
    go_enter Try.func11, Try.ntmps11
    go_wp2_with fail
    refine AW.out.mono ?_
    rintro e w0 ⟨rfl, hb0⟩
    have S0 := Lib.hid (Nat.le_trans HBw.out hb0.size)
    have H0 := Lib.hid hb0
    have N1 := Lib.hid (new_mine HC.out 20 w0 (by unfold I64; omega))
    clear AW hb0
    go_wp2_with fail
    refine N1.out.mono ?_
    rintro e w1 ⟨g, rfl, m1, hb1⟩
    have N2 := Lib.hid (MineS.new (w0 := w) HS.out (show MineR Rep w1 B g (Rn.new 20) from by obtain ⟨X, e1, e2⟩ := m1; exact ⟨X, e1, fun b hb => Nat.le_trans S0.out (e2 b hb)⟩) (Nat.le_trans S0.out hb1.size) (H0.out.trans (hb1.mono S0.out)))
    clear m1 hb1 N1
    go_wp2_with fail
    refine N2.out.mono ?_
    rintro e w2 ⟨gs, rfl, m2⟩
    have hbad := Sh.add_bad [] (a := a) (n := n) (by omega)
    have N := MineS.add HS.out m2 a n HA.out HN.out (by rw [hbad]; exact shst_start _)
    rw [hbad] at N
    have N3 := Lib.hid N
    clear N m2 N2 hbad
    go_wp2_with fail
    refine N3.out.mono ?_
    rintro e w3 ⟨rfl, m3⟩
    have N := MineS.list HS.out m3
    rw [show Sh.lst false [] = [] from rfl] at N
    have N4 := Lib.hid N
    clear N m3 N3
    go_wp2_with fail
    refine N4.out.mono ?_
    rintro e w4 ⟨v, rfl, ow, m4⟩
    obtain ⟨A4, c4, rfl⟩ := ownR_slice ow
    have Fin := Lib.hid m4.bel
    clear m4 N4 ow
    go_wp2_with fail
    go_ret
    exact ⟨rfl, Fin.out⟩
  have z2 : decide (1 ≤ n) = true := by rw [decide_eq_true_eq]; omega
  go_enter Try.func11, Try.ntmps11
  go_wp2_with fail
  refine AW.out.mono ?_
  rintro e w0 ⟨rfl, hb0⟩
  have S0 := Lib.hid (Nat.le_trans HBw.out hb0.size)
  have H0 := Lib.hid hb0
  have N1 := Lib.hid (new_mine HC.out 20 w0 (by unfold I64; omega))
  clear AW hb0
  go_wp2_with fail
  refine N1.out.mono ?_
  rintro e w1 ⟨g, rfl, m1, hb1⟩
  have N2 := Lib.hid (MineS.new (w0 := w) HS.out (show MineR Rep w1 B g (Rn.new 20) from by obtain ⟨X, e1, e2⟩ := m1; exact ⟨X, e1, fun b hb => Nat.le_trans S0.out (e2 b hb)⟩) (Nat.le_trans S0.out hb1.size) (H0.out.trans (hb1.mono S0.out)))
  clear m1 hb1 N1
  go_wp2_with fail
  refine N2.out.mono ?_
  rintro e w2 ⟨gs, rfl, m2⟩
  have st1 := shst_taken (a := 0) (k := k) (shst_start (Rn.pre 0 20)) hk1 (by rw [Rn.pre_len]; omega) (by rw [Rn.pre_len]; omega) (by decide) (fun j _ hj => by rw [Rn.pre_at (by omega)]; simp)
  rw [Rn.setN_pre (by omega), Nat.zero_add, show Sh.ins [] 0 k = [(0, k, 1)] from rfl] at st1
  have ST := Lib.hid st1
  have ht : Rn.take (Rn.pre 0 20) (k : Int) = (0, true, Rn.pre k (20 - k)) := by rw [Rn.take_pre hk1, if_pos (by omega), Nat.zero_add]
  rw [HF.out] at m2
  have m := m2
  have M0 := Lib.hid (trivial)
  clear m2 N2 st1
  go_upto_region 11 with fail
  have N := MineS.take HC.out HS.out m (k : Int) (i64_nat (by omega)) (by rw [ht]; exact ST.out.1)
  rw [ht] at N
  clear ht
  have M1 := Lib.hid N
  clear N m M0
  have hks := HK.out
  go_wp2_with fail
  refine M1.out.mono ?_
  rintro e w21 ⟨rfl, m⟩
  have N := MineS.more HS.out m 0 (by unfold I64; omega) (show UOk [] from ⟨by decide, by simp⟩)
  rw [show Sh.change [] 0 true = (false, []) from rfl] at N
  have M2 := Lib.hid N
  clear N m M1
  go_wp2_with fail
  refine M2.out.mono ?_
  rintro e w22 ⟨rfl, m⟩
  have N := MineS.less HS.out m 0 (by unfold I64; omega) (show UOk [] from ⟨by decide, by simp⟩)
  rw [show Sh.change [] 0 false = (false, []) from rfl] at N
  have M3 := Lib.hid N
  clear N m M2
  go_wp2_with fail
  refine M3.out.mono ?_
  rintro e w23 ⟨rfl, m⟩
  have ha : Sh.add [] 0 (k : Int) = (true, [(0, k, 1)]) := ST.out.2.1
  have N := MineS.add HS.out m 0 (k : Int) (by unfold I64; omega) (i64_nat (by omega)) (by rw [ha]; exact ST.out.2.2)
  rw [ha] at N
  clear ha
  have M4 := Lib.hid N
  clear N m M3
  go_wp2_with fail
  refine M4.out.mono ?_
  rintro e w24 ⟨rfl, m⟩
  have ha : Sh.add [(0, k, 1)] 0 1 = (false, [(0, k, 1)]) := rfl
  have N := MineS.add HS.out m 0 1 (by unfold I64; omega) (by unfold I64; omega) (by rw [ha]; exact ST.out.2.2)
  rw [ha] at N
  clear ha
  have M5 := Lib.hid N
  clear N m M4
  go_wp2_with fail
  refine M5.out.mono ?_
  rintro e w25 ⟨rfl, m⟩
  have N := MineS.uses HS.out m 0 (by unfold I64; omega)
  rw [show Sh.uses [(0, k, 1)] 0 = 1 from rfl] at N
  have M6 := Lib.hid N
  clear N m M5
  go_wp2_with fail
  refine M6.out.mono ?_
  rintro e w26 ⟨rfl, m⟩
  have N := MineS.uses HS.out m 1 (by unfold I64; omega)
  rw [show Sh.uses [(0, k, 1)] 1 = 0 from rfl] at N
  have M7 := Lib.hid N
  clear N m M6
  go_wp2_with fail
  refine M7.out.mono ?_
  rintro e w27 ⟨rfl, m⟩
  have N := MineS.more HS.out m 0 (by unfold I64; omega) (show UOk [(0, k, 2)] from uok_one (by omega) (by omega) (by decide))
  rw [show Sh.change [(0, k, 1)] 0 true = (true, [(0, k, 2)]) from rfl] at N
  have M8 := Lib.hid N
  clear N m M7
  go_wp2_with fail
  refine M8.out.mono ?_
  rintro e w28 ⟨rfl, m⟩
  have N := MineS.less HS.out m 0 (by unfold I64; omega) (show UOk [(0, k, 1)] from uok_one (by omega) (by omega) (by decide))
  rw [show Sh.change [(0, k, 2)] 0 false = (true, [(0, k, 1)]) from rfl] at N
  have M9 := Lib.hid N
  clear N m M8
  go_wp2_with fail
  refine M9.out.mono ?_
  rintro e w29 ⟨rfl, m⟩
  have N := MineS.less HS.out m 0 (by unfold I64; omega) (show UOk [(0, k, 0)] from uok_one (by omega) (by omega) (by decide))
  rw [show Sh.change [(0, k, 1)] 0 false = (true, [(0, k, 0)]) from rfl] at N
  have M10 := Lib.hid N
  clear N m M9
  go_wp2_with fail
  refine M10.out.mono ?_
  rintro e w30 ⟨rfl, m⟩
  have N := MineS.less HS.out m 0 (by unfold I64; omega) (show UOk [(0, k, 0)] from uok_one (by omega) (by omega) (by decide))
  rw [show Sh.change [(0, k, 0)] 0 false = (false, [(0, k, 0)]) from rfl] at N
  have M11 := Lib.hid N
  clear N m M10
  go_wp2_with fail
  refine M11.out.mono ?_
  rintro e w31 ⟨rfl, m⟩
  have N := MineS.more HS.out m 0 (by unfold I64; omega) (show UOk [(0, k, 0)] from uok_one (by omega) (by omega) (by decide))
  rw [show Sh.change [(0, k, 0)] 0 true = (false, [(0, k, 0)]) from rfl] at N
  have M12 := Lib.hid N
  clear N m M11
  go_wp2_with fail
  refine M12.out.mono ?_
  rintro e w32 ⟨rfl, m⟩
  have N := MineS.uses HS.out m 0 (by unfold I64; omega)
  rw [show Sh.uses [(0, k, 0)] 0 = 0 from rfl] at N
  have M13 := Lib.hid N
  clear N m M12
  go_wp2_with fail
  refine M13.out.mono ?_
  rintro e w33 ⟨rfl, m⟩
  have N := MineS.late HS.out m
  rw [show Sh.lst true [(0, k, 0)] = [(0, k)] from rfl] at N
  have M14 := Lib.hid N
  clear N m M13
  go_wp2_with fail
  refine M14.out.mono ?_
  rintro e w34 ⟨v, rfl, ow, m⟩
  obtain ⟨A4, c4, rfl⟩ := ownR_slice ow
  clear ow
  have N := MineS.list HS.out m
  rw [show Sh.lst false [(0, k, 0)] = [] from rfl] at N
  have M15 := Lib.hid N
  clear N m M14
  go_wp2_with fail
  refine M15.out.mono ?_
  rintro e w35 ⟨v, rfl, ow, m⟩
  obtain ⟨A5, c5, rfl⟩ := ownR_slice ow
  clear ow
  have Fin := Lib.hid m.bel
  clear m M15
  go_wp2_with fail
  go_ret
  exact ⟨rfl, Fin.out⟩
end Go.Proofs.Ytfiafgmlbejboaa
