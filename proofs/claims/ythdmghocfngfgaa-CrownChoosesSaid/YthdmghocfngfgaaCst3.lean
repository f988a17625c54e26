/- The statement CrownChooses, for all arguments. -/
import Derived.Test.YthdmghocfngfgaaCst1
namespace Go.Proofs.Ythdmghocfngfgaa
open Go.RowKit Crc

theorem choose_err {a b : List Nat} (h : (Cn.chooseE a b).2 ≠ 0) : (Cn.chooseE a b).1 = 0 := by
  revert h
  unfold Cn.chooseE
  repeat' split
  all_goals simp

set_option maxHeartbeats 8000000 in
theorem cchooses_any {A A' : Option Addr} {ca cb : Nat} {la lb : List Nat} {w : World} {B : Nat} (hsa : Sl w B A (byts la)) (hsb : Sl w B A' (byts lb)) (hB : B ≤ w.heap.size) (hla : ∀ x ∈ la, x < 256) (hlb : ∀ x ∈ lb, x < 256) (hca : la.length ≤ ca) (hcb : lb.length ≤ cb) :
    Calls Try.prog 5 #[.slice A la.length ca, .slice A' lb.length cb] w fun e w' => e = .returned (.bool true) ∧ Below w.heap.size w w' := by
  have AW := Lib.hid cawake_any
  by_cases h5 : 500 < la.length
  · have q1 : decide (500 < la.length) = true := by simpa using h5
    have q2 : decide (500 < (la.length : Int)) = true := by simp; omega
    clear hsa hsb hla hlb
    generalize la.length = n at *
    generalize lb.length = n' at *
    go_enter Try.func5, Try.ntmps5
    go_wp2_with (go_at_call 10; (with_reducible refine (AW.out _).mono ?_); rintro e w1 ⟨rfl, hb1⟩)
    go_ret
    exact ⟨rfl, hb1⟩
  have q1 : decide (500 < la.length) = false := by simpa using h5
  have q2 : decide (500 < (la.length : Int)) = false := by simp; omega
  by_cases h6 : 500 < lb.length
  · have q3 : decide (500 < lb.length) = true := by simpa using h6
    have q4 : decide (500 < (lb.length : Int)) = true := by simp; omega
    clear hsa hsb hla hlb
    generalize la.length = n at *
    generalize lb.length = n' at *
    go_enter Try.func5, Try.ntmps5
    go_wp2_with (go_at_call 10; (with_reducible refine (AW.out _).mono ?_); rintro e w1 ⟨rfl, hb1⟩)
    go_ret
    exact ⟨rfl, hb1⟩
  have q3 : decide (500 < lb.length) = false := by simpa using h6
  have q4 : decide (500 < (lb.length : Int)) = false := by simp; omega
  have SA : ∀ W, Below w.heap.size w W → Sl W W.heap.size A (byts la) := fun W h => sl_keep (hsa.more hB) h
  have SB : ∀ W, Below w.heap.size w W → Sl W W.heap.size A' (byts lb) := fun W h => sl_keep (hsb.more hB) h
  have DC : Hid (∀ W, Below w.heap.size w W → Calls Try.prog 21 #[.slice A la.length ca, .slice A' lb.length cb] W (ChR la lb W)) := Lib.hid (fun W h => choose_any A A' ca cb la lb hla hlb hca hcb _ _ rfl rfl (by omega) (by omega) (SA W h) (SB W h))
  have RD : Hid (∀ W, Below w.heap.size w W → Calls Try.prog 22 #[.slice A la.length ca, .slice A' lb.length cb] W (ChR la lb W)) := Lib.hid (fun W h => rchoose_any A A' ca cb la lb hla hlb hca hcb _ _ rfl rfl (by omega) (by omega) (SA W h) (SB W h))
  unfold ChR at DC RD
  have he := choose_err (a := la) (b := lb)
  obtain ⟨v, hv⟩ : ∃ v, chV la lb = v := ⟨_, rfl⟩
  obtain ⟨E, hE⟩ : ∃ E, (Cn.chooseE la lb).2 = E := ⟨_, rfl⟩
  obtain ⟨N, hN⟩ : ∃ N, (Cn.chooseE la lb).1 = N := ⟨_, rfl⟩
  rw [hv, hE, hN] at DC RD
  rw [hE, hN] at he
  have SM : Hid (∀ W q p, Tw w W q p v → Calls Try.prog 17 #[crV v, crV v] W fun e w' => e = .returned (.bool true) ∧ Tw w w' q p v) := Lib.hid (fun W q p h => by
    refine (same_self v W).mono ?_
    rintro e w' ⟨rfl, hb⟩
    exact ⟨rfl, h.below hb⟩)
  have hsf := store_float
  clear hv hE hN SA SB hsa hsb hla hlb
  generalize la.length = n at *
  generalize lb.length = n' at *
  obtain ⟨x1, x2, x3, x4, x5, x6, x7, x8⟩ := v
  simp only [crV] at DC RD SM
  have r3 : ((E : Int) == (E : Int)) = true := by simp
  have r4 : (E == E) = true := by simp
  have r5 : ((N : Int) == (N : Int)) = true := by simp
  have r6 : (N == N) = true := by simp
  by_cases h0 : E = 0
  · have r1 : (E != 0) = false := by simp; omega
    have r2 : ((E : Int) != 0) = false := by simp; omega
    have r7 : (E == 0) = true := by simp; omega
    have r8 : ((E : Int) == 0) = true := by simp; omega
    clear h0 he
    go_enter Try.func5, Try.ntmps5
    go_wp2_with (first
      | (go_at_call 10; (with_reducible refine (AW.out _).mono ?_); rintro e w1 ⟨rfl, hb1⟩)
      | (go_at_call 21; (with_reducible refine (DC.out _ hb1).mono ?_); rintro e w2 ⟨rfl, hb2⟩; obtain ⟨W3, q, hW3, hq, k3, hb3⟩ := tw_one ⟨x1, x2, x3, x4, x5, x6, x7, x8⟩ (hb1.trans (hb2.mono hb1.size)); simp only [crC] at hW3)
      | (go_at_call 22; (with_reducible refine (RD.out _ hb3).mono ?_); rintro e w4 ⟨rfl, hb4⟩; obtain ⟨W5, p, hW5, hp, h5'⟩ := tw_two ⟨x1, x2, x3, x4, x5, x6, x7, x8⟩ k3 hb3 hb4; simp only [crC] at hW5; obtain ⟨a0, a1, a2, a3, a4, a5, a6, a7⟩ := crcells h5'.one; obtain ⟨b0, b1, b2, b3, b4, b5, b6, b7⟩ := xcells h5'.two; simp only at a0 a1 a2 a3 a4 a5 a6 a7 b0 b1 b2 b3 b4 b5 b6 b7)
      | (go_at_call 17; (with_reducible refine (SM.out _ _ _ h5').mono ?_); rintro e w6 ⟨rfl, h6'⟩))
    go_ret
    exact ⟨by simp, h6'.bel⟩
  · have r1 : (E != 0) = true := by simp; omega
    have r2 : ((E : Int) != 0) = true := by simp; omega
    have r7 : (E == 0) = false := by simp; omega
    have r8 : ((E : Int) == 0) = false := by simp; omega
    have hN0 := he h0
    have r9 : (N == 0) = true := by simp; omega
    have r10 : ((N : Int) == 0) = true := by simp; omega
    clear h0 he hN0
    go_enter Try.func5, Try.ntmps5
    go_wp2_with (first
      | (go_at_call 10; (with_reducible refine (AW.out _).mono ?_); rintro e w1 ⟨rfl, hb1⟩)
      | (go_at_call 21; (with_reducible refine (DC.out _ hb1).mono ?_); rintro e w2 ⟨rfl, hb2⟩; obtain ⟨W3, q, hW3, hq, k3, hb3⟩ := tw_one ⟨x1, x2, x3, x4, x5, x6, x7, x8⟩ (hb1.trans (hb2.mono hb1.size)); simp only [crC] at hW3)
      | (go_at_call 22; (with_reducible refine (RD.out _ hb3).mono ?_); rintro e w4 ⟨rfl, hb4⟩; obtain ⟨W5, p, hW5, hp, h5'⟩ := tw_two ⟨x1, x2, x3, x4, x5, x6, x7, x8⟩ k3 hb3 hb4; simp only [crC] at hW5))
    go_ret
    exact ⟨by simp, h5'.bel⟩
end Go.Proofs.Ythdmghocfngfgaa
