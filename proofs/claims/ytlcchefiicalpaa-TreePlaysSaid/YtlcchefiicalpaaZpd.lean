/- The document's PlaceMay and Find; the statements' Few. -/
import Derived.Test.YtlcchefiicalpaaZpb
import Derived.Handy
namespace Go.Proofs.Ytlcchefiicalpaa
open Go.RowKit
set_option maxHeartbeats 4000000 in
theorem rplace_any (a n s g : Int) (w : World) : Calls Try.prog 57 #[.agg #[.int .i64 a, .int .i64 n, .int .i64 s], .int .i64 g] w fun e w' => e = .returned (.bool (decide (Nd.PlaceOk (a, n, s) g))) ∧ Below w.heap.size w w' := by
  obtain ⟨b, hb⟩ : ∃ b, w.heap.size = b := ⟨_, rfl⟩
  obtain ⟨W, hW⟩ : ∃ W, w.alloc (.cells #[.int .i64 a, .int .i64 n, .int .i64 s] 54) = W := ⟨_, rfl⟩
  have bx : Blk W b 54 #[.int .i64 a, .int .i64 n, .int .i64 s] := by rw [← hW, ← hb]; exact Blk.new _ _ _
  have x0 : W.cell? ⟨b, 0, none⟩ = some (.int .i64 a) := bx.cell 0
  have x1 : W.cell? ⟨b, 1, none⟩ = some (.int .i64 n) := bx.cell 1
  have x2 : W.cell? ⟨b, 2, none⟩ = some (.int .i64 s) := bx.cell 2
  have HB := Lib.hid (show Below b w W by rw [← hW, ← hb]; exact (Below.refl _ _).alloc (Nat.le_refl _) _)
  have N1 := Lib.hid (rrun_any a n W)
  have N2 := Lib.hid (rgen_any g W)
  obtain ⟨R, hR⟩ : ∃ R, R = decide (Nd.PlaceOk (a, n, s) g) := ⟨_, rfl⟩
  rw [hb, ← hR]
  clear bx
  by_cases h0 : Nd.RunOk a n
  case neg =>
    have E : R = false := by rw [hR, decide_eq_false_iff_not]; exact fun h => h0 h.1
    rw [decide_eq_false h0] at N1
    clear hR h0
    go_enter Try.func57, Try.ntmps57
    go_wp2_with (first | (refine N1.out.mono ?_; rintro e w2 ⟨rfl, h2⟩; subst h2) | (refine N2.out.mono ?_; rintro e w2 ⟨rfl, h2⟩; subst h2))
    go_ret
    exact ⟨by rw [E]; rfl, HB.out⟩
  by_cases h1 : 0 ≤ s
  case neg =>
    have E : R = false := by rw [hR, decide_eq_false_iff_not]; exact fun h => h1 h.2.1
    rw [decide_eq_true h0] at N1
    have z1 : decide ((0 : Int) ≤ s) = false := by rw [decide_eq_false_iff_not]; exact h1
    clear hR h0 h1
    go_enter Try.func57, Try.ntmps57
    go_wp2_with (first | (refine N1.out.mono ?_; rintro e w2 ⟨rfl, h2⟩; subst h2) | (refine N2.out.mono ?_; rintro e w2 ⟨rfl, h2⟩; subst h2))
    go_ret
    exact ⟨by rw [E]; rfl, HB.out⟩
  by_cases h2 : s < 8
  case neg =>
    have E : R = false := by rw [hR, decide_eq_false_iff_not]; exact fun h => h2 h.2.2.1
    rw [decide_eq_true h0] at N1
    have z1 : decide ((0 : Int) ≤ s) = true := by rw [decide_eq_true_eq]; exact h1
    have z2 : decide (s < 8) = false := by rw [decide_eq_false_iff_not]; exact h2
    clear hR h0 h1 h2
    go_enter Try.func57, Try.ntmps57
    go_wp2_with (first | (refine N1.out.mono ?_; rintro e w2 ⟨rfl, h2⟩; subst h2) | (refine N2.out.mono ?_; rintro e w2 ⟨rfl, h2⟩; subst h2))
    go_ret
    exact ⟨by rw [E]; rfl, HB.out⟩
  by_cases h3 : Nd.GenOk g
  case neg =>
    have E : R = false := by rw [hR, decide_eq_false_iff_not]; exact fun h => h3 h.2.2.2
    rw [decide_eq_true h0] at N1
    have z1 : decide ((0 : Int) ≤ s) = true := by rw [decide_eq_true_eq]; exact h1
    have z2 : decide (s < 8) = true := by rw [decide_eq_true_eq]; exact h2
    rw [decide_eq_false h3] at N2
    clear hR h0 h1 h2 h3
    go_enter Try.func57, Try.ntmps57
    go_wp2_with (first | (refine N1.out.mono ?_; rintro e w2 ⟨rfl, h2⟩; subst h2) | (refine N2.out.mono ?_; rintro e w2 ⟨rfl, h2⟩; subst h2))
    go_ret
    exact ⟨by rw [E]; rfl, HB.out⟩
  have E : R = true := by rw [hR, decide_eq_true_eq]; exact ⟨h0, h1, h2, h3⟩
  rw [decide_eq_true h0] at N1
  rw [decide_eq_true h3] at N2
  have z1 : decide ((0 : Int) ≤ s) = true := by rw [decide_eq_true_eq]; exact h1
  have z2 : decide (s < 8) = true := by rw [decide_eq_true_eq]; exact h2
  clear hR h0 h1 h2 h3
  go_enter Try.func57, Try.ntmps57
  go_wp2_with (first | (refine N1.out.mono ?_; rintro e w2 ⟨rfl, h2⟩; subst h2) | (refine N2.out.mono ?_; rintro e w2 ⟨rfl, h2⟩; subst h2))
  go_ret
  exact ⟨by rw [E]; rfl, HB.out⟩
/-- A node put into a block of its own. -/
theorem nd_box {w W : World} {n : Nd.N} {A1 A2 A3 A4 : Option Addr} {c1 c2 c3 c4 : Nat} {t : TypeId} (hW : w.alloc (.cells #[.int .i64 n.h, .slice A1 n.ks.length c1, .slice A2 n.ps.length c2, .slice A3 n.gs.length c3, .slice A4 n.cs.length c4] t) = W) :
    Blk W w.heap.size t #[.int .i64 n.h, .slice A1 n.ks.length c1, .slice A2 n.ps.length c2, .slice A3 n.gs.length c3, .slice A4 n.cs.length c4] ∧ Below w.heap.size w W := by
  rw [← hW]
  exact ⟨Blk.new _ _ _, (Below.refl _ _).alloc (Nat.le_refl _) _⟩
def FewOk (n : Nd.N) : Prop := n.ks.length ≤ 40 ∧ n.ps.length ≤ 40 ∧ n.gs.length ≤ 40 ∧ n.cs.length ≤ 40
instance (n : Nd.N) : Decidable (FewOk n) := by unfold FewOk; infer_instance
/-- The last of the first k keys that is not greater. -/
def Nd.last (ks : List Int) (key : Int) : Nat → Option Nat
  | 0 => none
  | k + 1 => if Nd.at_ ks k ≤ key then some k else Nd.last ks key k
/-- What Find answers. -/
def Nd.find (ks : List Int) (key : Int) : Nat × Bool := match Nd.last ks key ks.length with | none => (0, false) | some i => (i, decide (Nd.at_ ks i = key))
end Go.Proofs.Ytlcchefiicalpaa
