/- The document's Blocks and Size. -/
import Derived.Test.YtpicalkcgioimaaLe
namespace Go.Proofs.Ytpicalkcgioimaa
open Go.RowKit

/-- Blocks. -/
def blk (n : Int) : Nat := if n < 0 ∨ 4096 < n then 0 else (n.toNat + 79) / 64
theorem blk_nat {n : Nat} (h : n ≤ 4096) : blk (n : Int) = (n + 79) / 64 := by
  unfold blk
  rw [if_neg (by omega), Int.toNat_natCast]
/-- The head says no form. -/
def badHead (l : List Nat) : Prop := l.getD 0 0 ≠ 197 ∨ l.getD 1 0 ≠ 126 ∨ l.getD 3 0 ≠ 0 ∨ 4096 < g4 l 8 ∨ 2147483647 < g4 l 4
instance (l : List Nat) : Decidable (badHead l) := by unfold badHead; exact inferInstance
/-- Size's error. -/
def sizeE (l : List Nat) : Nat := if l.length < 16 then 2 else if badHead l then 4 else 0
/-- Size: the blocks and the error. -/
def sizeV (l : List Nat) : Value := .tuple #[.int .i64 ((if sizeE l = 0 then blk (g4 l 8) else 0 : Nat) : Int), .int .i64 ((sizeE l : Nat) : Int)]

set_option maxHeartbeats 1000000 in
theorem rblocks_any (n : Int) (hn : IntKind.i64.wrap n = n) (w : World) : Calls Try.prog 13 #[.int .i64 n] w fun e w' => e = .returned (.int .i64 ((blk n : Nat) : Int)) ∧ w' = w := by
  by_cases h0 : n < 0
  · have q0 : decide (n < 0) = true := by simpa using h0
    have e : blk n = 0 := by unfold blk; rw [if_pos (.inl h0)]
    rw [e]
    clear e h0
    go_enter Try.func13, Try.ntmps13
    go_wp2_with fail
    go_ret
    exact ⟨rfl, rfl⟩
  · have q0 : decide (n < 0) = false := by simpa using h0
    by_cases h1 : 4096 < n
    · have q1 : decide (4096 < n) = true := by simpa using h1
      have e : blk n = 0 := by unfold blk; rw [if_pos (.inr h1)]
      rw [e]
      clear e h0 h1
      go_enter Try.func13, Try.ntmps13
      go_wp2_with fail
      go_ret
      exact ⟨rfl, rfl⟩
    · have q1 : decide (4096 < n) = false := by simpa using h1
      obtain ⟨m, rfl⟩ : ∃ m : Nat, n = m := ⟨n.toNat, by omega⟩
      have hm : m ≤ 4096 := by omega
      rw [blk_nat hm]
      clear h0 h1
      go_enter Try.func13, Try.ntmps13
      go_wp2_with fail
      go_ret
      exact ⟨by simp; omega, rfl⟩

def SizeR (l : List Nat) (w : World) (e : Ending) (w' : World) : Prop := e = .returned (sizeV l) ∧ ∃ n, w' = w.drewN n
set_option maxHeartbeats 4000000 in
theorem rsize_any (A : Option Addr) (cap : Nat) (l : List Nat) (hl : ∀ x ∈ l, x < 256) (hlen : l.length ≤ 1000000000) {w : World} {B : Nat} (hsl : Sl w B A (byts l)) :
    Calls Try.prog 17 #[.slice A l.length cap] w (SizeR l w) := by
  by_cases hs : l.length < 16
  · have q0 : decide (l.length < 16) = true := by simpa using hs
    have q0' : decide ((l.length : Int) < 16) = true := by simp; omega
    have e : sizeV l = .tuple #[.int .i64 0, .int .i64 2] := by unfold sizeV sizeE; rw [if_pos hs]; rfl
    unfold SizeR
    rw [e]
    clear e hs hl hsl
    go_enter Try.func17, Try.ntmps17
    go_wp2_with fail
    go_returns
    exact ⟨rfl, 0, rfl⟩
  have q0 : decide (l.length < 16) = false := by simpa using hs
  have q0' : decide ((l.length : Int) < 16) = false := by simp; omega
  have G8 := Lib.hid (get_lit A cap l hl 8 8 rfl (by omega) hlen hsl (W := w) ⟨0, (drewN_zero w).symm⟩)
  have G4 := Lib.hid (fun W hW => get_lit A cap l hl 4 4 rfl (by omega) hlen hsl (W := W) hW)
  have hx0 := getB_lt hl 0
  have hx1 := getB_lt hl 1
  have hx3 := getB_lt hl 3
  have hg8 := g4_lt hl 8
  have hg4 := g4_lt hl 4
  obtain ⟨b, o, rfl, c0⟩ := sl_cell hsl (k := 0) (by omega)
  obtain ⟨b', o', e, c1⟩ := sl_cell hsl (k := 1) (by omega)
  obtain ⟨rfl, rfl⟩ : b' = b ∧ o' = o := by simpa using e.symm
  obtain ⟨b2, o2, e, c3⟩ := sl_cell hsl (k := 3) (by omega)
  obtain ⟨rfl, rfl⟩ : b2 = b' ∧ o2 = o' := by simpa using e.symm
  have hv1 : badHead l → sizeV l = .tuple #[.int .i64 0, .int .i64 4] := fun hb => by
    have : sizeE l = 4 := by unfold sizeE; rw [if_neg hs, if_pos hb]
    simp [sizeV, this]
  have hv0 : ¬ badHead l → sizeV l = .tuple #[.int .i64 ((blk (g4 l 8) : Nat) : Int), .int .i64 0] := fun hb => by
    have : sizeE l = 0 := by unfold sizeE; rw [if_neg hs, if_neg hb]
    simp [sizeV, this]
  unfold badHead at hv1 hv0
  have Hv1 := Lib.hid hv1
  have Hv0 := Lib.hid hv0
  have RB := Lib.hid (fun w => rblocks_any (g4 l 8 : Nat) (IntWalk.i64_in _ (by omega)) w)
  unfold SizeR
  have hn16 : 16 ≤ l.length := by omega
  clear hv1 hv0 hl hsl hs
  generalize l.getD 0 0 = x0 at *
  generalize l.getD 1 0 = x1 at *
  generalize l.getD 3 0 = x3 at *
  generalize g4 l 8 = y8 at *
  generalize g4 l 4 = y4 at *
  generalize sizeV l = V at *
  generalize l.length = n at *
  obtain ⟨b0, p0⟩ : ∃ b, ((x0 : Int) != 197) = b := ⟨_, rfl⟩
  obtain ⟨b1, p1⟩ : ∃ b, ((x1 : Int) != 126) = b := ⟨_, rfl⟩
  obtain ⟨b3, p3⟩ : ∃ b, ((x3 : Int) != 0) = b := ⟨_, rfl⟩
  obtain ⟨b8, p8⟩ : ∃ b, decide (4096 < (y8 : Int)) = b := ⟨_, rfl⟩
  obtain ⟨b4, p4⟩ : ∃ b, decide (2147483647 < (y4 : Int)) = b := ⟨_, rfl⟩
  go_enter Try.func17, Try.ntmps17
  go_wp2_with fail
  refine G8.out.mono ?_
  rintro e w1 ⟨rfl, n1, rfl⟩
  have d0 : (w.drewN n1).cell? ⟨b2, o2, none⟩ = some (.int .u8 (x0 : Int)) := c0
  have d1 : (w.drewN n1).cell? ⟨b2, o2 + 1, none⟩ = some (.int .u8 (x1 : Int)) := c1
  have d3 : (w.drewN n1).cell? ⟨b2, o2 + 3, none⟩ = some (.int .u8 (x3 : Int)) := c3
  have HW : Hid (∃ n, w.drewN n1 = w.drewN n) := Lib.hid ⟨n1, rfl⟩
  have G4c := Lib.hid (G4.out _ HW.out)
  clear c0 c1 c3 G4 G8
  generalize w.drewN n1 = W1 at *
  cases b0 with
  | true =>
    have Hv := Lib.hid (Hv1.out (.inl (by have : (x0 : Int) ≠ 197 := by simpa using p0
                                          omega)))
    clear Hv1 Hv0
    go_wp2_with fail
    go_returns
    exact ⟨by rw [Hv.out]; rfl, HW.out⟩
  | false =>
  have r0 : x0 = 197 := by have : (x0 : Int) = 197 := by simpa using p0
                           omega
  cases b1 with
  | true =>
    have Hv := Lib.hid (Hv1.out (.inr (.inl (by have : (x1 : Int) ≠ 126 := by simpa using p1
                                                omega))))
    clear Hv1 Hv0 r0
    go_wp2_with fail
    go_returns
    exact ⟨by rw [Hv.out]; rfl, HW.out⟩
  | false =>
  have r1 : x1 = 126 := by have : (x1 : Int) = 126 := by simpa using p1
                           omega
  cases b3 with
  | true =>
    have Hv := Lib.hid (Hv1.out (.inr (.inr (.inl (by have : (x3 : Int) ≠ 0 := by simpa using p3
                                                      omega)))))
    clear Hv1 Hv0 r0 r1
    go_wp2_with fail
    go_returns
    exact ⟨by rw [Hv.out]; rfl, HW.out⟩
  | false =>
  have r3 : x3 = 0 := by have : (x3 : Int) = 0 := by simpa using p3
                         omega
  cases b8 with
  | true =>
    have Hv := Lib.hid (Hv1.out (.inr (.inr (.inr (.inl (by have : 4096 < (y8 : Int) := by simpa using p8
                                                            omega))))))
    clear Hv1 Hv0 r0 r1 r3
    go_wp2_with fail
    go_returns
    exact ⟨by rw [Hv.out]; rfl, HW.out⟩
  | false =>
  have r8 : y8 ≤ 4096 := by have : (y8 : Int) ≤ 4096 := by simpa using p8
                            omega
  cases b4 with
  | true =>
    have Hv := Lib.hid (Hv1.out (.inr (.inr (.inr (.inr (by have : 2147483647 < (y4 : Int) := by simpa using p4
                                                            omega))))))
    clear Hv1 Hv0 r0 r1 r3 r8
    go_wp2_with fail
    refine G4c.out.mono ?_
    rintro e w2 ⟨rfl, HW2⟩
    go_wp2_with fail
    go_returns
    exact ⟨by rw [Hv.out]; rfl, HW2⟩
  | false =>
    have r4 : y4 ≤ 2147483647 := by have : (y4 : Int) ≤ 2147483647 := by simpa using p4
                                    omega
    have Hv := Lib.hid (Hv0.out (by rintro (h | h | h | h | h) <;> omega))
    clear Hv1 Hv0 r0 r1 r3 r8 r4
    go_wp2_with fail
    refine G4c.out.mono ?_
    rintro e w2 ⟨rfl, HW2⟩
    go_wp2_with fail
    refine (RB.out w2).mono ?_
    rintro e w3 ⟨rfl, rfl⟩
    go_wp2_with fail
    go_returns
    exact ⟨by rw [Hv.out]; rfl, HW2⟩
end Go.Proofs.Ytpicalkcgioimaa
