/- The statements CrownDecodes and CrownChooses, for all arguments. -/
import Derived.Test.YthdmghocfngfgaaCla
import Derived.Test.YthdmghocfngfgaaRch
namespace Go.Proofs.Ythdmghocfngfgaa
open Go.RowKit Crc

/-- Two crowns, each in a block of its own. -/
structure Tw (w W : World) (q p : Nat) (c : Cn.C) : Prop where
  one : Blk W q 36 (crC c)
  two : Blk W p 26 (crC c)
  bel : Below w.heap.size w W
theorem Tw.below {w W W' : World} {q p : Nat} {c : Cn.C} (h : Tw w W q p c) (hb : Below W.heap.size W W') : Tw w W' q p c := ⟨h.one.keep (hb.block _ h.one.lt), h.two.keep (hb.block _ h.two.lt), h.bel.trans (hb.mono h.bel.size)⟩
theorem tw_one {w W : World} (c : Cn.C) (h : Below w.heap.size w W) : ∃ W3 q, W.alloc (.cells (crC c) 36) = W3 ∧ W.heap.size = q ∧ Blk W3 q 36 (crC c) ∧ Below w.heap.size w W3 := ⟨_, _, rfl, rfl, Blk.new _ _ _, h.alloc h.size _⟩
theorem tw_two {w W W' : World} {q : Nat} (c : Cn.C) (h1 : Blk W q 36 (crC c)) (h : Below w.heap.size w W) (hb : Below W.heap.size W W') : ∃ W5 p, W'.alloc (.cells (crC c) 26) = W5 ∧ W'.heap.size = p ∧ Tw w W5 q p c :=
  ⟨_, _, rfl, rfl, (h1.keep (hb.block _ h1.lt)).alloc _, Blk.new _ _ _, (h.trans (hb.mono h.size)).alloc (Nat.le_trans h.size hb.size) _⟩

set_option maxHeartbeats 8000000 in
theorem cdecodes_any {A : Option Addr} {cap : Nat} {l : List Nat} {w : World} {B : Nat} (hsl : Sl w B A (byts l)) (hB : B ≤ w.heap.size) (hl : ∀ x ∈ l, x < 256) (hcap : l.length ≤ cap) :
    Calls Try.prog 4 #[.slice A l.length cap] w fun e w' => e = .returned (.bool true) ∧ Below w.heap.size w w' := by
  have AW := Lib.hid cawake_any
  by_cases h5 : 500 < l.length
  · have q1 : decide (500 < l.length) = true := by simpa using h5
    have q2 : decide (500 < (l.length : Int)) = true := by simp; omega
    clear hsl hl
    generalize l.length = n at *
    go_enter Try.func4, Try.ntmps4
    go_wp2_with (go_at_call 10; (with_reducible refine (AW.out _).mono ?_); rintro e w1 ⟨rfl, hb1⟩)
    go_ret
    exact ⟨rfl, hb1⟩
  have q1 : decide (500 < l.length) = false := by simpa using h5
  have q2 : decide (500 < (l.length : Int)) = false := by simp; omega
  have SL : ∀ W, Below w.heap.size w W → Sl W W.heap.size A (byts l) := fun W h => sl_keep (hsl.more hB) h
  have DC : Hid (∀ W, Below w.heap.size w W → Calls Try.prog 16 #[.slice A l.length cap] W (DecR l W)) := Lib.hid (fun W h => cdec_any A cap l hl hcap _ rfl (SL W h))
  have RD : Hid (∀ W, Below w.heap.size w W → Calls Try.prog 18 #[.slice A l.length cap] W (DecR l W)) := Lib.hid (fun W h => rdec_any A cap l hl hcap _ rfl (SL W h))
  have BC : Hid (∀ W, Below w.heap.size w W → Calls Try.prog 19 #[.slice A l.length cap] W fun e w' => e = .returned (.bool (Cn.blank l)) ∧ w' = W) := Lib.hid (fun W h => cblank_any A cap l hl _ rfl (by omega) (SL W h))
  have BR : Hid (∀ W, Below w.heap.size w W → Calls Try.prog 20 #[.slice A l.length cap] W fun e w' => e = .returned (.bool (Cn.blank l)) ∧ w' = W) := Lib.hid (fun W h => rblank_any A cap l hl _ rfl (by omega) (SL W h))
  unfold DecR at DC RD
  obtain ⟨v, hv⟩ : ∃ v, (if Cn.decE l = 0 then Cn.fields l else zeroC) = v := ⟨_, rfl⟩
  obtain ⟨E, hE⟩ : ∃ E, Cn.decE l = E := ⟨_, rfl⟩
  rw [hv, hE] at DC RD
  have SM : Hid (∀ W q p, Tw w W q p v → Calls Try.prog 17 #[crV v, crV v] W fun e w' => e = .returned (.bool true) ∧ Tw w w' q p v) := Lib.hid (fun W q p h => by
    refine (same_self v W).mono ?_
    rintro e w' ⟨rfl, hb⟩
    exact ⟨rfl, h.below hb⟩)
  obtain ⟨bl, hbl⟩ : ∃ b, Cn.blank l = b := ⟨_, rfl⟩
  rw [hbl] at BC BR
  have hsf := store_float
  clear hv hE hbl SL hsl hl
  generalize l.length = n at *
  obtain ⟨x1, x2, x3, x4, x5, x6, x7, x8⟩ := v
  simp only [crV] at DC RD SM
  by_cases h0 : E = 0
  · have r1 : (E != 0) = false := by simp; omega
    have r2 : ((E : Int) != 0) = false := by simp; omega
    have r3 : ((E : Int) == (E : Int)) = true := by simp
    have r4 : (E == E) = true := by simp
    clear h0
    go_enter Try.func4, Try.ntmps4
    go_wp2_with (first
      | (go_at_call 10; (with_reducible refine (AW.out _).mono ?_); rintro e w1 ⟨rfl, hb1⟩)
      | (go_at_call 16; (with_reducible refine (DC.out _ hb1).mono ?_); rintro e w2 ⟨rfl, hb2⟩; obtain ⟨W3, q, hW3, hq, k3, hb3⟩ := tw_one ⟨x1, x2, x3, x4, x5, x6, x7, x8⟩ (hb1.trans (hb2.mono hb1.size)); simp only [crC] at hW3)
      | (go_at_call 18; (with_reducible refine (RD.out _ hb3).mono ?_); rintro e w4 ⟨rfl, hb4⟩; obtain ⟨W5, p, hW5, hp, h5'⟩ := tw_two ⟨x1, x2, x3, x4, x5, x6, x7, x8⟩ k3 hb3 hb4; simp only [crC] at hW5; obtain ⟨a0, a1, a2, a3, a4, a5, a6, a7⟩ := crcells h5'.one; obtain ⟨b0, b1, b2, b3, b4, b5, b6, b7⟩ := xcells h5'.two; simp only at a0 a1 a2 a3 a4 a5 a6 a7 b0 b1 b2 b3 b4 b5 b6 b7)
      | (go_at_call 17; (with_reducible refine (SM.out _ _ _ h5').mono ?_); rintro e w6 ⟨rfl, h6⟩)
      | (go_at_call 19; (with_reducible refine (BC.out _ h6.bel).mono ?_); rintro e w7 ⟨rfl, hw7⟩; subst hw7)
      | (go_at_call 20; (with_reducible refine (BR.out _ h6.bel).mono ?_); rintro e w7 ⟨rfl, hw7⟩; subst hw7))
    go_ret
    exact ⟨by simp, h6.bel⟩
  · have r1 : (E != 0) = true := by simp; omega
    have r2 : ((E : Int) != 0) = true := by simp; omega
    have r3 : ((E : Int) == (E : Int)) = true := by simp
    have r4 : (E == E) = true := by simp
    clear h0
    go_enter Try.func4, Try.ntmps4
    go_wp2_with (first
      | (go_at_call 10; (with_reducible refine (AW.out _).mono ?_); rintro e w1 ⟨rfl, hb1⟩)
      | (go_at_call 16; (with_reducible refine (DC.out _ hb1).mono ?_); rintro e w2 ⟨rfl, hb2⟩; obtain ⟨W3, q, hW3, hq, k3, hb3⟩ := tw_one ⟨x1, x2, x3, x4, x5, x6, x7, x8⟩ (hb1.trans (hb2.mono hb1.size)); simp only [crC] at hW3)
      | (go_at_call 18; (with_reducible refine (RD.out _ hb3).mono ?_); rintro e w4 ⟨rfl, hb4⟩; obtain ⟨W5, p, hW5, hp, h5'⟩ := tw_two ⟨x1, x2, x3, x4, x5, x6, x7, x8⟩ k3 hb3 hb4; simp only [crC] at hW5)
      | (go_at_call 19; (with_reducible refine (BC.out _ h5'.bel).mono ?_); rintro e w7 ⟨rfl, hw7⟩; subst hw7)
      | (go_at_call 20; (with_reducible refine (BR.out _ h5'.bel).mono ?_); rintro e w7 ⟨rfl, hw7⟩; subst hw7))
    go_ret
    exact ⟨by simp, h5'.bel⟩
end Go.Proofs.Ythdmghocfngfgaa
