/- Numbers in groups of seven bits: writing and reading them, as plain mathematics. Nodes of the tree and their bytes (plain Lean, no program). What nodes' bytes say: read back, cut short, with one byte more (plain Lean, no program). Nodes in memory; the document's run, gen, PlaceMay; the statements' Few. -/
import Derived.Test.YtlcchefiicalpaaZwa
import Derived.Lib.Hide
import Derived.Deep.QuietTactic
import Derived.BigQuiet
import Derived.Test.YtlcchefiicalpaaChecked
namespace Go.Proofs.Ytlcchefiicalpaa.Vint
/-- The bytes of a number. -/
def vint (x : Nat) : List Nat := if x < 128 then [x] else (x % 128 + 128) :: vint (x / 128)
termination_by x
decreasing_by omega
end Go.Proofs.Ytlcchefiicalpaa.Vint
namespace Go.Proofs.Ytlcchefiicalpaa.Nd
open Vint
abbrev T3 := Int × Int × Int
/-- A node: height, keys, places (first block, blocks, slot), generations, children (first block, blocks, generation). -/
structure N where
  h : Int
  ks : List Int
  ps : List T3
  gs : List Int
  cs : List T3
def zero : N := ⟨0, [], [], [], []⟩
def RunOk (a n : Int) : Prop := 0 ≤ a ∧ a < 8192 ∧ 1 ≤ n ∧ n ≤ 128 ∧ n ≤ 8192 - a
def GenOk (g : Int) : Prop := 0 ≤ g ∧ g < 268435456
def PlaceOk (p : T3) (g : Int) : Prop := RunOk p.1 p.2.1 ∧ 0 ≤ p.2.2 ∧ p.2.2 < 8 ∧ GenOk g
def KidOk (c : T3) : Prop := RunOk c.1 c.2.1 ∧ GenOk c.2.2
def t3 (l : List T3) (i : Nat) : T3 := l.getD i (0, 0, 0)
def at_ (l : List Int) (i : Nat) : Int := l.getD i 0
/-- What a node must be. -/
structure Ok (n : N) : Prop where
  h0 : 0 ≤ n.h
  h6 : n.h < 6
  few : n.ks.length ≤ 8
  key : ∀ i, i < n.ks.length → 0 ≤ at_ n.ks i ∧ at_ n.ks i < 512
  asc : ∀ i, i + 1 < n.ks.length → at_ n.ks i < at_ n.ks (i + 1)
  leaf : n.h = 0 → n.ps.length = n.ks.length ∧ n.gs.length = n.ks.length ∧ n.cs = [] ∧ ∀ i, i < n.ks.length → PlaceOk (t3 n.ps i) (at_ n.gs i)
  inner : n.h ≠ 0 → n.cs.length = n.ks.length ∧ 1 ≤ n.ks.length ∧ n.ps = [] ∧ n.gs = [] ∧ ∀ i, i < n.ks.length → KidOk (t3 n.cs i)
/-- Numbers as bytes. -/
def putL (l : List Nat) : List Nat := l.flatMap vint
/-- The numbers of the entry at i. -/
def entry (n : N) (i : Nat) : List Nat := if n.h = 0 then [(at_ n.ks i).toNat, (t3 n.ps i).1.toNat, (t3 n.ps i).2.1.toNat, (t3 n.ps i).2.2.toNat, (at_ n.gs i).toNat] else [(at_ n.ks i).toNat, (t3 n.cs i).1.toNat, (t3 n.cs i).2.1.toNat, (t3 n.cs i).2.2.toNat]
def entries (n : N) (k : Nat) : List Nat := (List.range k).flatMap (entry n)
def nums (n : N) : List Nat := n.h.toNat :: n.ks.length :: entries n n.ks.length
def enc (n : N) : List Nat := putL (nums n)
/-- Entries out of numbers: one, then all. -/
def width (h : Nat) : Nat := if h = 0 then 5 else 4
/-- One entry more. -/
def more (n : N) (xs : List Nat) : N :=
  if n.h = 0 then { n with ks := n.ks ++ [(xs.getD 0 0 : Int)], ps := n.ps ++ [((xs.getD 1 0 : Int), (xs.getD 2 0 : Int), (xs.getD 3 0 : Int))], gs := n.gs ++ [(xs.getD 4 0 : Int)] }
  else { n with ks := n.ks ++ [(xs.getD 0 0 : Int)], cs := n.cs ++ [((xs.getD 1 0 : Int), (xs.getD 2 0 : Int), (xs.getD 3 0 : Int))] }
end Go.Proofs.Ytlcchefiicalpaa.Nd
namespace Go.Proofs.Ytlcchefiicalpaa.Nd
open Vint
/-- The first k entries of a node. -/
def pre (n : N) (k : Nat) : N := ⟨n.h, n.ks.take k, n.ps.take k, n.gs.take k, n.cs.take k⟩
theorem take_getD {α : Type} (l : List α) (k : Nat) (d : α) (h : k < l.length) : l.take (k + 1) = l.take k ++ [l.getD k d] := by
  rw [List.take_add_one, List.getElem?_eq_getElem h, List.getD_eq_getElem?_getD, List.getElem?_eq_getElem h]
  rfl
theorem Ok.more {n : N} (h : Ok n) {k : Nat} (hk : k < n.ks.length) : more (pre n k) (entry n k) = pre n (k + 1) := by
  have hkey := h.key k hk
  unfold Nd.more pre entry
  dsimp only
  by_cases h0 : n.h = 0
  · obtain ⟨h1, h2, h3, h4⟩ := h.leaf h0
    obtain ⟨⟨p1, p2, p3, p4, p5⟩, p6, p7, p8, p9⟩ := h4 k hk
    rw [if_pos h0, if_pos h0, take_getD n.ks k 0 hk, take_getD n.ps k (0, 0, 0) (by omega), take_getD n.gs k 0 (by omega), h3, List.take_nil, List.take_nil]
    simp only [List.getD_cons_zero, List.getD_cons_succ]
    have e1 : ((at_ n.ks k).toNat : Int) = n.ks.getD k 0 := Int.toNat_of_nonneg hkey.1
    have e2 : ((t3 n.ps k).1.toNat : Int) = (t3 n.ps k).1 := Int.toNat_of_nonneg p1
    have e3 : ((t3 n.ps k).2.1.toNat : Int) = (t3 n.ps k).2.1 := Int.toNat_of_nonneg (by omega)
    have e4 : ((t3 n.ps k).2.2.toNat : Int) = (t3 n.ps k).2.2 := Int.toNat_of_nonneg p6
    have e5 : ((at_ n.gs k).toNat : Int) = n.gs.getD k 0 := Int.toNat_of_nonneg p8
    rw [e1, e2, e3, e4, e5]
    rfl
  · obtain ⟨h1, -, h3, h5, h4⟩ := h.inner h0
    obtain ⟨⟨p1, p2, p3, p4, p5⟩, p8, p9⟩ := h4 k hk
    rw [if_neg h0, if_neg h0, take_getD n.ks k 0 hk, take_getD n.cs k (0, 0, 0) (by omega), h3, h5, List.take_nil, List.take_nil]
    simp only [List.getD_cons_zero, List.getD_cons_succ]
    have e1 : ((at_ n.ks k).toNat : Int) = n.ks.getD k 0 := Int.toNat_of_nonneg hkey.1
    have e2 : ((t3 n.cs k).1.toNat : Int) = (t3 n.cs k).1 := Int.toNat_of_nonneg p1
    have e3 : ((t3 n.cs k).2.1.toNat : Int) = (t3 n.cs k).2.1 := Int.toNat_of_nonneg (by omega)
    have e4 : ((t3 n.cs k).2.2.toNat : Int) = (t3 n.cs k).2.2 := Int.toNat_of_nonneg p8
    rw [e1, e2, e3, e4]
    rfl
/-- What the entries that were read look like. -/
structure EntsI (h k : Nat) (n : N) : Prop where
  hh : n.h = (h : Int)
  ks : n.ks.length = k
  ps : n.ps.length = if h = 0 then k else 0
  gs : n.gs.length = if h = 0 then k else 0
  cs : n.cs.length = if h = 0 then 0 else k
end Go.Proofs.Ytlcchefiicalpaa.Nd
namespace Go.Proofs.Ytlcchefiicalpaa
open Go.RowKit
/-- Ints, and threes of ints, as cells. -/
def ivs (l : List Int) : List Value := l.map (Value.int .i64)
theorem ivs_len (l : List Int) : (ivs l).length = l.length := by unfold ivs; rw [List.length_map]
theorem ivs_at {l : List Int} {i : Nat} (h : i < l.length) : (ivs l)[i]? = some (.int .i64 (Nd.at_ l i)) := by
  unfold ivs Nd.at_
  rw [List.getElem?_map, List.getD_eq_getElem?_getD, List.getElem?_eq_getElem h]
  rfl
theorem ivs_app (l m : List Int) : ivs (l ++ m) = ivs l ++ ivs m := List.map_append
theorem ivs_one (l : List Int) : ∀ u ∈ ivs l, u.oneCell' = true := by
  intro u hu
  obtain ⟨x, _, rfl⟩ := List.mem_map.1 hu
  rfl
def tcs : List Nd.T3 → List Value
  | [] => []
  | x :: l => .int .i64 x.1 :: .int .i64 x.2.1 :: .int .i64 x.2.2 :: tcs l
theorem tcs_len : ∀ l : List Nd.T3, (tcs l).length = l.length * 3
  | [] => rfl
  | x :: l => by rw [tcs]; simp only [List.length_cons]; rw [tcs_len l]; omega
theorem tcs_app : ∀ l m : List Nd.T3, tcs (l ++ m) = tcs l ++ tcs m
  | [], _ => rfl
  | x :: l, m => by rw [List.cons_append, tcs, tcs, tcs_app l m]; rfl
theorem tcs_at : ∀ {l : List Nd.T3} {k : Nat}, k < l.length → (tcs l)[k * 3]? = some (.int .i64 (Nd.t3 l k).1) ∧ (tcs l)[k * 3 + 1]? = some (.int .i64 (Nd.t3 l k).2.1) ∧ (tcs l)[k * 3 + 2]? = some (.int .i64 (Nd.t3 l k).2.2)
  | x :: l, 0, _ => ⟨rfl, rfl, rfl⟩
  | x :: l, k + 1, h => by
    have := tcs_at (l := l) (k := k) (by simpa using h)
    rw [show (k + 1) * 3 = k * 3 + 1 + 1 + 1 by omega, tcs]
    simp only [List.getElem?_cons_succ]
    exact this
theorem tcs_one (l : List Nd.T3) : ∀ u ∈ tcs l, u.oneCell' = true := by
  induction l with
  | nil => simp [tcs]
  | cons a l ih =>
    intro u hu
    rw [tcs] at hu
    simp only [List.mem_cons] at hu
    rcases hu with rfl | rfl | rfl | hu
    · rfl
    · rfl
    · rfl
    · exact ih u hu
/-- A slice that may be read. -/
structure SlC (w : World) (B : Nat) (A : Option Addr) (c n : Nat) (xs : List Value) : Prop where
  le : n ≤ c
  nil : A = none → c = 0
  sl : Sl w B A xs
section
variable {w w' : World} {B B' : Nat} {A : Option Addr} {c n : Nat} {xs : List Value}
theorem SlC.below (h : SlC w B A c n xs) (hb : Below B w w') : SlC w' B A c n xs := ⟨h.le, h.nil, h.sl.below hb⟩
theorem SlC.more (h : SlC w B A c n xs) (hB : B ≤ B') : SlC w B' A c n xs := ⟨h.le, h.nil, h.sl.more hB⟩
theorem SlC.none_ (w : World) (B : Nat) : SlC w B none 0 0 [] := ⟨Nat.le_refl _, fun _ => rfl, .inl rfl⟩
theorem SlC.int {l : List Int} {m : Nat} (h : SlC w B A c m (ivs l)) {i : Nat} (hi : i < l.length) : ∃ b o, A = some ⟨b, o, none⟩ ∧ b < B ∧ w.cell? ⟨b, o + i, none⟩ = some (.int .i64 (Nd.at_ l i)) := by
  have hl : i < (ivs l).length := by rw [ivs_len]; exact hi
  obtain ⟨b, o, e, hb, hc⟩ := h.sl.at_ hl
  exact ⟨b, o, e, hb, by rw [hc i hl, ← List.getElem?_eq_getElem, ivs_at hi]⟩
theorem SlC.three {l : List Nd.T3} {m : Nat} (h : SlC w B A c m (tcs l)) {i : Nat} (hi : i < l.length) : ∃ b o, A = some ⟨b, o, none⟩ ∧ b < B ∧ w.cell? ⟨b, o + i * 3, none⟩ = some (.int .i64 (Nd.t3 l i).1) ∧ w.cell? ⟨b, o + i * 3 + 1, none⟩ = some (.int .i64 (Nd.t3 l i).2.1) ∧ w.cell? ⟨b, o + i * 3 + 2, none⟩ = some (.int .i64 (Nd.t3 l i).2.2) := by
  have hl := tcs_len l
  obtain ⟨b, o, e, hb, hc⟩ := h.sl.at_ (show i * 3 < (tcs l).length by omega)
  obtain ⟨e1, e2, e3⟩ := tcs_at hi
  refine ⟨b, o, e, hb, ?_, ?_, ?_⟩
  · rw [hc (i * 3) (by omega), ← List.getElem?_eq_getElem, e1]
  · rw [Nat.add_assoc, hc (i * 3 + 1) (by omega), ← List.getElem?_eq_getElem, e2]
  · rw [Nat.add_assoc, hc (i * 3 + 2) (by omega), ← List.getElem?_eq_getElem, e3]
end
/-- The five cells of a node, its slices below block B. -/
structure NdF (w : World) (B : Nat) (n : Nd.N) (A1 : Option Addr) (c1 : Nat) (A2 : Option Addr) (c2 : Nat) (A3 : Option Addr) (c3 : Nat) (A4 : Option Addr) (c4 : Nat) : Prop where
  ks : SlC w B A1 c1 n.ks.length (ivs n.ks)
  ps : SlC w B A2 c2 n.ps.length (tcs n.ps)
  gs : SlC w B A3 c3 n.gs.length (ivs n.gs)
  cs : SlC w B A4 c4 n.cs.length (tcs n.cs)
def NdAt (w : World) (B : Nat) (v : Value) (n : Nd.N) : Prop := ∃ A1 c1 A2 c2 A3 c3 A4 c4, v = .agg #[.int .i64 n.h, .slice A1 n.ks.length c1, .slice A2 n.ps.length c2, .slice A3 n.gs.length c3, .slice A4 n.cs.length c4] ∧ NdF w B n A1 c1 A2 c2 A3 c3 A4 c4
section
variable {w w' : World} {B B' : Nat} {v : Value} {n : Nd.N} {A1 A2 A3 A4 : Option Addr} {c1 c2 c3 c4 : Nat}
theorem NdF.below (h : NdF w B n A1 c1 A2 c2 A3 c3 A4 c4) (hb : Below B w w') : NdF w' B n A1 c1 A2 c2 A3 c3 A4 c4 := ⟨h.ks.below hb, h.ps.below hb, h.gs.below hb, h.cs.below hb⟩
theorem NdF.more (h : NdF w B n A1 c1 A2 c2 A3 c3 A4 c4) (hB : B ≤ B') : NdF w B' n A1 c1 A2 c2 A3 c3 A4 c4 := ⟨h.ks.more hB, h.ps.more hB, h.gs.more hB, h.cs.more hB⟩
theorem NdAt.below (h : NdAt w B v n) (hb : Below B w w') : NdAt w' B v n := by
  obtain ⟨A1, c1, A2, c2, A3, c3, A4, c4, e, hf⟩ := h
  exact ⟨A1, c1, A2, c2, A3, c3, A4, c4, e, hf.below hb⟩
theorem NdAt.more (h : NdAt w B v n) (hB : B ≤ B') : NdAt w B' v n := by
  obtain ⟨A1, c1, A2, c2, A3, c3, A4, c4, e, hf⟩ := h
  exact ⟨A1, c1, A2, c2, A3, c3, A4, c4, e, hf.more hB⟩
theorem NdAt.zero (w : World) (B : Nat) : NdAt w B (.agg #[.int .i64 0, .slice none 0 0, .slice none 0 0, .slice none 0 0, .slice none 0 0]) Nd.zero :=
  ⟨none, 0, none, 0, none, 0, none, 0, rfl, SlC.none_ _ _, SlC.none_ _ _, SlC.none_ _ _, SlC.none_ _ _⟩
end
instance (a n : Int) : Decidable (Nd.RunOk a n) := by unfold Nd.RunOk; infer_instance
instance (a : Int) : Decidable (Nd.GenOk a) := by unfold Nd.GenOk; infer_instance
instance (p : Nd.T3) (g : Int) : Decidable (Nd.PlaceOk p g) := by unfold Nd.PlaceOk; infer_instance
instance (c : Nd.T3) : Decidable (Nd.KidOk c) := by unfold Nd.KidOk; infer_instance
end Go.Proofs.Ytlcchefiicalpaa
