/- Nodes in memory; the document's run, gen, PlaceMay; the statements' Few. -/
import Derived.Test.YtlcchefiicalpaaNd2
import Derived.Test.YtlcchefiicalpaaLaw
import Derived.Test.YtlcchefiicalpaaChecked
import Derived.Lib.Hide
import Derived.Deep.QuietTactic
import Derived.BigQuiet
namespace Go.Proofs.Ytlcchefiicalpaa
open Go.RowKit

/-- Ints, and threes of ints, as cells. -/
def ivs (l : List Int) : List Value := l.map (Value.int .i64)
theorem ivs_len (l : List Int) : (ivs l).length = l.length := by unfold ivs; rw [List.length_map]
theorem ivs_at {l : List Int} {i : Nat} (h : i < l.length) : (ivs l)[i]? = some (.int .i64 (Nd.at_ l i)) := by
  unfold ivs Nd.at_
  rw [List.getElem?_map, List.getD_eq_getElem?_getD, List.getElem?_eq_getElem h]
  rfl
theorem ivs_app (l m : List Int) : ivs (l ++ m) = ivs l ++ ivs m := List.map_append
theorem ivs_one (l : List Int) : ∀ u ∈ ivs l, u.oneCell' = true := by
  intro u hu
  obtain ⟨x, _, rfl⟩ := List.mem_map.1 hu
  rfl
def tcs : List Nd.T3 → List Value
  | [] => []
  | x :: l => .int .i64 x.1 :: .int .i64 x.2.1 :: .int .i64 x.2.2 :: tcs l
theorem tcs_len : ∀ l : List Nd.T3, (tcs l).length = l.length * 3
  | [] => rfl
  | x :: l => by rw [tcs]; simp only [List.length_cons]; rw [tcs_len l]; omega
theorem tcs_app : ∀ l m : List Nd.T3, tcs (l ++ m) = tcs l ++ tcs m
  | [], _ => rfl
  | x :: l, m => by rw [List.cons_append, tcs, tcs, tcs_app l m]; rfl
theorem tcs_at : ∀ {l : List Nd.T3} {k : Nat}, k < l.length → (tcs l)[k * 3]? = some (.int .i64 (Nd.t3 l k).1) ∧ (tcs l)[k * 3 + 1]? = some (.int .i64 (Nd.t3 l k).2.1) ∧ (tcs l)[k * 3 + 2]? = some (.int .i64 (Nd.t3 l k).2.2)
  | x :: l, 0, _ => ⟨rfl, rfl, rfl⟩
  | x :: l, k + 1, h => by
    have := tcs_at (l := l) (k := k) (by simpa using h)
    rw [show (k + 1) * 3 = k * 3 + 1 + 1 + 1 by omega, tcs]
    simp only [List.getElem?_cons_succ]
    exact this
theorem tcs_one (l : List Nd.T3) : ∀ u ∈ tcs l, u.oneCell' = true := by
  induction l with
  | nil => simp [tcs]
  | cons a l ih =>
    intro u hu
    rw [tcs] at hu
    simp only [List.mem_cons] at hu
    rcases hu with rfl | rfl | rfl | hu
    · rfl
    · rfl
    · rfl
    · exact ih u hu
/-- A slice that may be read. -/
structure SlC (w : World) (B : Nat) (A : Option Addr) (c n : Nat) (xs : List Value) : Prop where
  le : n ≤ c
  nil : A = none → c = 0
  sl : Sl w B A xs
section
variable {w w' : World} {B B' : Nat} {A : Option Addr} {c n : Nat} {xs : List Value}
theorem SlC.below (h : SlC w B A c n xs) (hb : Below B w w') : SlC w' B A c n xs := ⟨h.le, h.nil, h.sl.below hb⟩
theorem SlC.more (h : SlC w B A c n xs) (hB : B ≤ B') : SlC w B' A c n xs := ⟨h.le, h.nil, h.sl.more hB⟩
theorem SlC.none_ (w : World) (B : Nat) : SlC w B none 0 0 [] := ⟨Nat.le_refl _, fun _ => rfl, .inl rfl⟩
theorem SlC.int {l : List Int} {m : Nat} (h : SlC w B A c m (ivs l)) {i : Nat} (hi : i < l.length) : ∃ b o, A = some ⟨b, o, none⟩ ∧ b < B ∧ w.cell? ⟨b, o + i, none⟩ = some (.int .i64 (Nd.at_ l i)) := by
  have hl : i < (ivs l).length := by rw [ivs_len]; exact hi
  obtain ⟨b, o, e, hb, hc⟩ := h.sl.at_ hl
  exact ⟨b, o, e, hb, by rw [hc i hl, ← List.getElem?_eq_getElem, ivs_at hi]⟩
theorem SlC.three {l : List Nd.T3} {m : Nat} (h : SlC w B A c m (tcs l)) {i : Nat} (hi : i < l.length) : ∃ b o, A = some ⟨b, o, none⟩ ∧ b < B ∧ w.cell? ⟨b, o + i * 3, none⟩ = some (.int .i64 (Nd.t3 l i).1) ∧ w.cell? ⟨b, o + i * 3 + 1, none⟩ = some (.int .i64 (Nd.t3 l i).2.1) ∧ w.cell? ⟨b, o + i * 3 + 2, none⟩ = some (.int .i64 (Nd.t3 l i).2.2) := by
  have hl := tcs_len l
  obtain ⟨b, o, e, hb, hc⟩ := h.sl.at_ (show i * 3 < (tcs l).length by omega)
  obtain ⟨e1, e2, e3⟩ := tcs_at hi
  refine ⟨b, o, e, hb, ?_, ?_, ?_⟩
  · rw [hc (i * 3) (by omega), ← List.getElem?_eq_getElem, e1]
  · rw [Nat.add_assoc, hc (i * 3 + 1) (by omega), ← List.getElem?_eq_getElem, e2]
  · rw [Nat.add_assoc, hc (i * 3 + 2) (by omega), ← List.getElem?_eq_getElem, e3]
end
/-- The five cells of a node, its slices below block B. -/
structure NdF (w : World) (B : Nat) (n : Nd.N) (A1 : Option Addr) (c1 : Nat) (A2 : Option Addr) (c2 : Nat) (A3 : Option Addr) (c3 : Nat) (A4 : Option Addr) (c4 : Nat) : Prop where
  ks : SlC w B A1 c1 n.ks.length (ivs n.ks)
  ps : SlC w B A2 c2 n.ps.length (tcs n.ps)
  gs : SlC w B A3 c3 n.gs.length (ivs n.gs)
  cs : SlC w B A4 c4 n.cs.length (tcs n.cs)
def NdAt (w : World) (B : Nat) (v : Value) (n : Nd.N) : Prop := ∃ A1 c1 A2 c2 A3 c3 A4 c4, v = .agg #[.int .i64 n.h, .slice A1 n.ks.length c1, .slice A2 n.ps.length c2, .slice A3 n.gs.length c3, .slice A4 n.cs.length c4] ∧ NdF w B n A1 c1 A2 c2 A3 c3 A4 c4
section
variable {w w' : World} {B B' : Nat} {v : Value} {n : Nd.N} {A1 A2 A3 A4 : Option Addr} {c1 c2 c3 c4 : Nat}
theorem NdF.below (h : NdF w B n A1 c1 A2 c2 A3 c3 A4 c4) (hb : Below B w w') : NdF w' B n A1 c1 A2 c2 A3 c3 A4 c4 := ⟨h.ks.below hb, h.ps.below hb, h.gs.below hb, h.cs.below hb⟩
theorem NdF.more (h : NdF w B n A1 c1 A2 c2 A3 c3 A4 c4) (hB : B ≤ B') : NdF w B' n A1 c1 A2 c2 A3 c3 A4 c4 := ⟨h.ks.more hB, h.ps.more hB, h.gs.more hB, h.cs.more hB⟩
theorem NdAt.below (h : NdAt w B v n) (hb : Below B w w') : NdAt w' B v n := by
  obtain ⟨A1, c1, A2, c2, A3, c3, A4, c4, e, hf⟩ := h
  exact ⟨A1, c1, A2, c2, A3, c3, A4, c4, e, hf.below hb⟩
theorem NdAt.more (h : NdAt w B v n) (hB : B ≤ B') : NdAt w B' v n := by
  obtain ⟨A1, c1, A2, c2, A3, c3, A4, c4, e, hf⟩ := h
  exact ⟨A1, c1, A2, c2, A3, c3, A4, c4, e, hf.more hB⟩
theorem NdAt.zero (w : World) (B : Nat) : NdAt w B (.agg #[.int .i64 0, .slice none 0 0, .slice none 0 0, .slice none 0 0, .slice none 0 0]) Nd.zero :=
  ⟨none, 0, none, 0, none, 0, none, 0, rfl, SlC.none_ _ _, SlC.none_ _ _, SlC.none_ _ _, SlC.none_ _ _⟩
end

instance (a n : Int) : Decidable (Nd.RunOk a n) := by unfold Nd.RunOk; infer_instance
instance (a : Int) : Decidable (Nd.GenOk a) := by unfold Nd.GenOk; infer_instance
instance (p : Nd.T3) (g : Int) : Decidable (Nd.PlaceOk p g) := by unfold Nd.PlaceOk; infer_instance
instance (c : Nd.T3) : Decidable (Nd.KidOk c) := by unfold Nd.KidOk; infer_instance

set_option maxHeartbeats 2000000 in
theorem rrun_any (a n : Int) (w : World) : Calls Try.prog 58 #[.int .i64 a, .int .i64 n] w fun e w' => e = .returned (.bool (decide (Nd.RunOk a n))) ∧ w = w' := by
  by_cases h0 : 0 ≤ a
  case neg =>
    have E : decide (Nd.RunOk a n) = false := by rw [decide_eq_false_iff_not]; intro h; unfold Nd.RunOk at h; omega
    have z0 : decide ((0 : Int) ≤ a) = false := by rw [decide_eq_false_iff_not]; omega
    rw [E]
    clear E 
    go_enter Try.func58, Try.ntmps58
    go_wp2_with fail
    go_ret
    exact ⟨rfl, rfl⟩
  by_cases h1 : a < 8192
  case neg =>
    have E : decide (Nd.RunOk a n) = false := by rw [decide_eq_false_iff_not]; intro h; unfold Nd.RunOk at h; omega
    have z0 : decide ((0 : Int) ≤ a) = true := by rw [decide_eq_true_eq]; omega
    have z1 : decide (a < 8192) = false := by rw [decide_eq_false_iff_not]; omega
    rw [E]
    clear E 
    go_enter Try.func58, Try.ntmps58
    go_wp2_with fail
    go_ret
    exact ⟨rfl, rfl⟩
  by_cases h2 : 1 ≤ n
  case neg =>
    have E : decide (Nd.RunOk a n) = false := by rw [decide_eq_false_iff_not]; intro h; unfold Nd.RunOk at h; omega
    have z0 : decide ((0 : Int) ≤ a) = true := by rw [decide_eq_true_eq]; omega
    have z1 : decide (a < 8192) = true := by rw [decide_eq_true_eq]; omega
    have z2 : decide ((1 : Int) ≤ n) = false := by rw [decide_eq_false_iff_not]; omega
    rw [E]
    clear E h2
    go_enter Try.func58, Try.ntmps58
    go_wp2_with fail
    go_ret
    exact ⟨rfl, rfl⟩
  by_cases h3 : n ≤ 128
  case neg =>
    have E : decide (Nd.RunOk a n) = false := by rw [decide_eq_false_iff_not]; intro h; unfold Nd.RunOk at h; omega
    have z0 : decide ((0 : Int) ≤ a) = true := by rw [decide_eq_true_eq]; omega
    have z1 : decide (a < 8192) = true := by rw [decide_eq_true_eq]; omega
    have z2 : decide ((1 : Int) ≤ n) = true := by rw [decide_eq_true_eq]; omega
    have z3 : decide (n ≤ 128) = false := by rw [decide_eq_false_iff_not]; omega
    rw [E]
    clear E h2 h3
    go_enter Try.func58, Try.ntmps58
    go_wp2_with fail
    go_ret
    exact ⟨rfl, rfl⟩
  by_cases h4 : n ≤ 8192 - a
  case neg =>
    have E : decide (Nd.RunOk a n) = false := by rw [decide_eq_false_iff_not]; intro h; unfold Nd.RunOk at h; omega
    have z0 : decide ((0 : Int) ≤ a) = true := by rw [decide_eq_true_eq]; omega
    have z1 : decide (a < 8192) = true := by rw [decide_eq_true_eq]; omega
    have z2 : decide ((1 : Int) ≤ n) = true := by rw [decide_eq_true_eq]; omega
    have z3 : decide (n ≤ 128) = true := by rw [decide_eq_true_eq]; omega
    have z4 : decide (n ≤ 8192 - a) = false := by rw [decide_eq_false_iff_not]; omega
    rw [E]
    clear E h2 h3 h4
    go_enter Try.func58, Try.ntmps58
    go_wp2_with fail
    go_ret
    exact ⟨rfl, rfl⟩
  have E : decide (Nd.RunOk a n) = true := by rw [decide_eq_true_eq]; unfold Nd.RunOk; omega
  have z0 : decide ((0 : Int) ≤ a) = true := by rw [decide_eq_true_eq]; omega
  have z1 : decide (a < 8192) = true := by rw [decide_eq_true_eq]; omega
  have z2 : decide ((1 : Int) ≤ n) = true := by rw [decide_eq_true_eq]; omega
  have z3 : decide (n ≤ 128) = true := by rw [decide_eq_true_eq]; omega
  have z4 : decide (n ≤ 8192 - a) = true := by rw [decide_eq_true_eq]; omega
  rw [E]
  clear E h2 h3 h4
  go_enter Try.func58, Try.ntmps58
  go_wp2_with fail
  go_ret
  exact ⟨rfl, rfl⟩

set_option maxHeartbeats 2000000 in
theorem rgen_any (a : Int) (w : World) : Calls Try.prog 59 #[.int .i64 a] w fun e w' => e = .returned (.bool (decide (Nd.GenOk a))) ∧ w = w' := by
  by_cases h0 : 0 ≤ a
  case neg =>
    have E : decide (Nd.GenOk a) = false := by rw [decide_eq_false_iff_not]; intro h; unfold Nd.GenOk at h; omega
    have z0 : decide ((0 : Int) ≤ a) = false := by rw [decide_eq_false_iff_not]; omega
    rw [E]
    clear E h0
    go_enter Try.func59, Try.ntmps59
    go_wp2_with fail
    go_ret
    exact ⟨rfl, rfl⟩
  by_cases h1 : a < 268435456
  case neg =>
    have E : decide (Nd.GenOk a) = false := by rw [decide_eq_false_iff_not]; intro h; unfold Nd.GenOk at h; omega
    have z0 : decide ((0 : Int) ≤ a) = true := by rw [decide_eq_true_eq]; omega
    have z1 : decide (a < 268435456) = false := by rw [decide_eq_false_iff_not]; omega
    rw [E]
    clear E h0 h1
    go_enter Try.func59, Try.ntmps59
    go_wp2_with fail
    go_ret
    exact ⟨rfl, rfl⟩
  have E : decide (Nd.GenOk a) = true := by rw [decide_eq_true_eq]; unfold Nd.GenOk; omega
  have z0 : decide ((0 : Int) ≤ a) = true := by rw [decide_eq_true_eq]; omega
  have z1 : decide (a < 268435456) = true := by rw [decide_eq_true_eq]; omega
  rw [E]
  clear E h0 h1
  go_enter Try.func59, Try.ntmps59
  go_wp2_with fail
  go_ret
  exact ⟨rfl, rfl⟩
end Go.Proofs.Ytlcchefiicalpaa
