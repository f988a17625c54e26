/- LzPlain, under what the program's functions are held to. -/
import Derived.Test.YtpfhkbagapodoaaLzc
namespace Go.Proofs.Ytpfhkbagapodoaa
open Go.RowKit

/-- A block of literals alone, at any length asked. -/
theorem unpack_plain_any (l : List Nat) (n : Int) : Lz.unpack (Lz.encLast l) n = if n < 0 ∨ 4096 < n then ([], 1) else if n < l.length then ([], 3) else if (l.length : Int) < n then ([], 2) else (l, 0) := by
  unfold Lz.unpack
  by_cases h : n < 0 ∨ 4096 < n
  · rw [if_pos h, if_pos h]
  · rw [if_neg h, if_neg h]
    obtain ⟨k, rfl⟩ : ∃ k : Nat, n = k := ⟨n.toNat, by omega⟩
    rw [Int.toNat_natCast]
    unfold Lz.encLast
    rw [List.length_cons, Lz.unp_last (lits := l.length) (q := l) (by
      rw [show Lz.nib l.length * 16 / 16 = Lz.nib l.length by omega]; exact Lz.added_ext _ _) rfl]
    simp only [List.length_nil, Nat.sub_zero, Nat.zero_add, List.nil_append]
    by_cases h1 : k < l.length
    · rw [if_pos h1, if_pos (show (k : Int) < (l.length : Int) by omega)]
    · rw [if_neg h1, if_neg (show ¬ (k : Int) < (l.length : Int) by omega)]
      by_cases h2 : l.length < k
      · rw [if_pos h2, if_pos (show (l.length : Int) < (k : Int) by omega)]
      · rw [if_neg h2, if_neg (show ¬ (l.length : Int) < (k : Int) by omega)]

set_option maxRecDepth 4000 in
set_option maxHeartbeats 4000000 in
theorem lzplain_any (hU : UnpackC) {P : List Nat → List Nat} (hP : PackC P) (hO : PackOk P) (hM : MostC) {w : World} {A : Option Addr} {c : Nat} {l : List Nat} (hsl : Sl w w.heap.size A (byts l)) (hl : ∀ x ∈ l, x < 256) (hc : l.length ≤ c) (hA : A = none → c = 0) (n : Int) :
    Calls Try.prog 8 #[.slice A l.length c, .int .i64 n] w fun e w' => e = .returned (.bool true) ∧ Below w.heap.size w w' := by
  have AW := Lib.hid (fun w => awake_any hU hP hO hM w)
  by_cases h5 : 3000 < l.length
  · have q1 : decide (3000 < (l.length : Int)) = true := by simp; omega
    have q2 : decide (3000 < l.length) = true := by simpa using h5
    clear hsl hl hA hc h5 hU hP hO hM
    generalize l.length = n at *
    go_enter Try.func8, Try.ntmps8
    go_wp2_with fail
    refine (AW.out _).mono ?_
    rintro e w1 ⟨rfl, hb⟩
    go_wp2_with fail
    go_ret
    exact ⟨rfl, hb⟩
  have q1 : decide (3000 < (l.length : Int)) = false := by simp; omega
  have q2 : decide (3000 < l.length) = false := by simpa using h5
  have hby : By w A c l := ⟨hsl, hl, hc, hA, by omega⟩
  have HY := Lib.hid hby
  have Hlen := Lib.hid (show l.length ≤ 100000 by omega)
  obtain ⟨N, hN⟩ : ∃ N, N = l.length := ⟨_, rfl⟩
  have hNb : N ≤ 3000 := by omega
  have HN := Lib.hid hN
  have hel : (Lz.encLast l).length ≤ 100000 := by
    unfold Lz.encLast
    rw [List.length_cons, List.length_append, Lz.ext_len]
    split <;> omega
  obtain ⟨Z, hZ⟩ : ∃ Z, Z = Lz.encLast l := ⟨_, rfl⟩
  rw [← hZ] at hel
  have hR1 : Lz.unpack Z (N : Int) = (l, 0) := by rw [hZ, hN, unpack_plain_any, if_neg (by omega), if_neg (by omega), if_neg (by omega)]
  obtain ⟨D2, E, hR2⟩ : ∃ D2 E, Lz.unpack Z n = (D2, E) := ⟨_, _, rfl⟩
  have hE : ∀ x1 x2 x3 x4 : Bool, decide (n < 0) = x1 → decide (4096 < n) = x2 → decide (n < (N : Int)) = x3 → decide ((N : Int) < n) = x4 → E = if x1 || x2 then 1 else if x3 then 3 else if x4 then 2 else 0 := by
    rintro _ _ _ _ rfl rfl rfl rfl
    have := hR2
    rw [hZ, unpack_plain_any, ← hN] at this
    simp only [Bool.or_eq_true, decide_eq_true_eq]
    split at this
    · rename_i h; rw [if_pos h]; exact (Prod.mk.inj this).2.symm
    · rename_i h; rw [if_neg h]
      split at this
      · rename_i h; rw [if_pos h]; exact (Prod.mk.inj this).2.symm
      · rename_i h; rw [if_neg h]
        split at this
        · rename_i h; rw [if_pos h]; exact (Prod.mk.inj this).2.symm
        · rename_i h; rw [if_neg h]; exact (Prod.mk.inj this).2.symm
  have C1 := Lib.hid (fun W A c (h : By W A c Z) => (hU W A c Z (N : Int) Z.length h hel rfl).mono fun e w' h => unpR_is hR1 h)
  have C2 := Lib.hid (fun W A c (h : By W A c Z) => hU W A c Z n Z.length h hel rfl)
  rw [hR2] at C2
  have CP := Lib.hid (fun W (h : By W A c l) => rplain_by h Hlen.out N HN.out)
  rw [← hZ] at CP
  obtain ⟨K, hK⟩ : ∃ K : Nat, K = 4097 := ⟨_, rfl⟩
  have hKz : (K : Int) = 4097 := by omega
  have mk2 : ∀ w, (Instr.makeSlice 22 (.int .i64 4097) (.int .i64 4097)).run Try.prog w = .ok (.slice (some ⟨w.heap.size, 0, none⟩) K K) (w.alloc (.cells (zcells K) 5)) := fun w => by
    rw [← hKz]
    exact make_bytes K (by omega) w
  have C3 := Lib.hid (fun (W : World) => show Calls Try.prog 13 #[.slice (some ⟨W.heap.size, 0, none⟩) K K] (W.alloc (.cells (zcells K) 5)) (fun e w' => ∃ A' c', e = .returned (.slice A' 0 c') ∧ Below W.heap.size W w') from by
    have b0 : Below W.heap.size W (W.alloc (.cells (zcells K) 5)) := (Below.refl _ _).alloc (Nat.le_refl _) _
    refine (hP _ _ K (List.replicate K 0) K (by_zeros W K (by omega)) (by rw [List.length_replicate]; omega) (by rw [List.length_replicate])).mono ?_
    rintro e w' ⟨A', c', he, _, hw⟩
    rw [hO.none _ (by rw [List.length_replicate]; omega)] at he
    exact ⟨A', c', he, b0.trans (hw.mono b0.size)⟩)
  rw [← hN]
  rw [← hN] at q1 q2
  have main : ∀ x1 x2 x3 x4 : Bool, decide (n < 0) = x1 → decide (4096 < n) = x2 → decide (n < (N : Int)) = x3 → decide ((N : Int) < n) = x4 →
      Calls Try.prog 8 #[.slice A N c, .int .i64 n] w fun e w' => e = .returned (.bool true) ∧ Below w.heap.size w w' := by
    intro x1 x2 x3 x4 h1 h2 h3 h4
    have hEv := hE x1 x2 x3 x4 h1 h2 h3 h4
    clear hE hR1 hR2 hZ hK hKz hN hel hsl hl hA hc h5 hby hU hP hO hM
    cases x1 <;> cases x2 <;> cases x3 <;> cases x4 <;> (
      simp at hEv
      subst hEv
      go_enter Try.func8, Try.ntmps8
      go_wp2_with fail
      refine (AW.out _).mono ?_
      rintro e w1 ⟨rfl, hb⟩
      have HB := Lib.hid hb
      have HY1 := Lib.hid (HY.out.below hb)
      clear hb
      go_wp2_with fail
      refine (CP.out _ HY1.out).mono ?_
      rintro e w2 ⟨A2, c2, rfl, y2, b2, -⟩
      have HB2 := Lib.hid (HB.out.trans (b2.mono HB.out.size))
      have HY2 := Lib.hid (HY1.out.below b2)
      have N2 := Lib.hid (C1.out _ _ _ y2)
      clear y2 b2
      generalize hzl : Z.length = zl at *
      go_wp2_with fail
      refine N2.out.mono ?_
      rintro e w3 ⟨A3, c3, rfl, y3, b3⟩
      rw [← HN.out]
      have HB3 := Lib.hid (HB2.out.trans (b3.mono HB2.out.size))
      have HY3 := Lib.hid (HY2.out.below b3)
      have Y3 := Lib.hid y3
      clear y3 b3
      go_wp2_with fail
      refine (CP.out _ HY3.out).mono ?_
      rintro e w4 ⟨A4, c4, rfl, y4, b4, -⟩
      rw [hzl]
      have HB4 := Lib.hid (HB3.out.trans (b4.mono HB3.out.size))
      have HY4 := Lib.hid (HY3.out.below b4)
      have Y4 := Lib.hid (Y3.out.below b4)
      have N4 := Lib.hid (C2.out _ _ _ y4)
      clear y4 b4
      go_wp2_with fail
      refine N4.out.mono ?_
      rintro e w5 ⟨A5, c5, rfl, -, b5⟩
      have HB5 := Lib.hid (HB4.out.trans (b5.mono HB4.out.size))
      have k1 := conv_b (cap := c3) (Y4.out.below b5).sl
      have k2 := conv_b (cap := c) (HY4.out.below b5).sl
      rw [← HN.out] at k1 k2
      clear b5
      simp only
      generalize bstr l = s at *
      generalize D2.length = m5 at *
      go_wp2_with fail
      refine (C3.out _).mono ?_
      rintro e w6 ⟨A6, c6, rfl, b6⟩
      have HB6 := Lib.hid (HB5.out.trans (b6.mono HB5.out.size))
      clear b6
      go_wp2_with fail
      go_ret
      exact ⟨rfl, HB6.out⟩)
  exact main _ _ _ _ rfl rfl rfl rfl
end Go.Proofs.Ytpfhkbagapodoaa
