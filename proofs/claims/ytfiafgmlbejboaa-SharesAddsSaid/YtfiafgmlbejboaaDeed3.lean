/- How an argument that is a slice of structures of three ints reads. -/
import Derived.Test.YtfiafgmlbejboaaLaw
import Derived.Test.YtfiafgmlbejboaaWide
import Derived.ChangeArms
namespace Go.Proofs.Ytfiafgmlbejboaa
open Go.ChangeShapes Go.WideShapes Go.ChangeAt Go.RowKit

section
variable {H : Type} {enc : TypeId × Value → H} {P : Program} {w : World} {base : Nat}
/-- A slice's address, and the threes that its elements are. -/
def ThreesAt (w : World) (B : Nat) (A : Option Addr) (l : List (Int × Int × Int)) : Prop :=
  ∀ i, i < l.length → ∃ b o, A = some ⟨b, o, none⟩ ∧ b < B ∧ w.cell? ⟨b, o + i * 3, none⟩ = some (.int .i64 (l.getD i (0, 0, 0)).1) ∧ w.cell? ⟨b, o + i * 3 + 1, none⟩ = some (.int .i64 (l.getD i (0, 0, 0)).2.1) ∧ w.cell? ⟨b, o + i * 3 + 2, none⟩ = some (.int .i64 (l.getD i (0, 0, 0)).2.2)
def ThreeWf (x : Int × Int × Int) : Prop := (-9223372036854775808 ≤ x.1 ∧ x.1 < 9223372036854775808) ∧ (-9223372036854775808 ≤ x.2.1 ∧ x.2.1 < 9223372036854775808) ∧ (-9223372036854775808 ≤ x.2.2 ∧ x.2.2 < 9223372036854775808)
theorem wf_i64 {z : Int} (h : (Lit.int .i64 z).wf = true) : -9223372036854775808 ≤ z ∧ z < 9223372036854775808 := by have := wf_int64 h; omega
theorem threes_arg {t e i0 : TypeId} {fs : Array Field} {f0 f1 f2 : Field} (ht : P.underlying t = some (.slice e)) (he : P.underlying e = some (.struct fs)) (hfs : fs = #[f0, f1, f2]) (h0 : f0.type = i0) (h1 : f1.type = i0) (h2 : f2.type = i0) (hi0 : P.underlying i0 = some (.int .i64))
    (hflat : flatB P fs = true) (hC : P.cellsOf e = fs.size) {r : Reach} {b0 : Nat} {v : Value} {d : DataW H} {p : List MemPlace} (hval : Value.okWide P w r b0 t v) (h : DataW.Trod enc P w base (fun _ => true) true t v d p) (hlt : ∀ x ∈ p, x.block < w.heap.size) :
    ∃ (A : Option Addr) (cap : Nat) (l : List (Int × Int × Int)), v = .slice A l.length cap ∧ l.length ≤ cap ∧ cap ≤ maxLen ∧ ThreesAt w w.heap.size A l ∧ (∀ x ∈ l, ThreeWf x) ∧ (A = none → cap = 0) := by
  obtain ⟨a1, len1, cap1, rfl⟩ := okWide_slice ht hval
  obtain ⟨fuel, hf⟩ := h
  have hsz : fs.size = 3 := by rw [hfs]; rfl
  rcases wide_trod ht he hflat hC hf hlt with hcs | ⟨a, len, cap, hcs, hl, hm, hb, hi⟩
  · simp [Value.cells] at hcs
    obtain ⟨rfl, rfl, rfl⟩ := hcs
    exact ⟨none, 0, [], rfl, Nat.le_refl _, Nat.zero_le _, fun i hi => by simp at hi, by simp, fun _ => rfl⟩
  simp [Value.cells] at hcs
  obtain ⟨rfl, rfl, rfl⟩ := hcs
  rw [hsz] at hb
  have each : ∀ i, i < len1 → ∃ y : Int × Int × Int, (w.cell? ((a.add (i * 3)).add 0) = some (.int .i64 y.1) ∧ w.cell? ((a.add (i * 3)).add 1) = some (.int .i64 y.2.1) ∧ w.cell? ((a.add (i * 3)).add 2) = some (.int .i64 y.2.2)) ∧ ThreeWf y := by
    intro i hil
    obtain ⟨vs, _, hc, hfd⟩ := hi i (by omega)
    rw [hsz] at hc
    obtain ⟨v0, y0, n0, e0, t0, _⟩ := hfd 0 f0 (by rw [hfs]; rfl)
    obtain ⟨v1, y1, n1, e1, t1, _⟩ := hfd 1 f1 (by rw [hfs]; rfl)
    obtain ⟨v2, y2, n2, e2, t2, _⟩ := hfd 2 f2 (by rw [hfs]; rfl)
    rw [h0] at t0
    rw [h1] at t1
    rw [h2] at t2
    obtain ⟨z0, hz0, _, w0⟩ := DataW.trod_int hi0 t0
    obtain ⟨z1, hz1, _, w1⟩ := DataW.trod_int hi0 t1
    obtain ⟨z2, hz2, _, w2⟩ := DataW.trod_int hi0 t2
    injection hz0 with hz0
    injection hz1 with hz1
    injection hz2 with hz2
    exact ⟨(z0, z1, z2), ⟨(hc 0 (by decide)).trans (by rw [e0, hz0]), (hc 1 (by decide)).trans (by rw [e1, hz1]), (hc 2 (by decide)).trans (by rw [e2, hz2])⟩, wf_i64 w0, wf_i64 w1, wf_i64 w2⟩
  obtain ⟨l, hll, hp⟩ := list_of_fn _ len1 each
  refine ⟨some a, cap1, l, by rw [hll], by omega, hm, fun i hii => ?_, fun f hfm => ?_, by simp⟩
  · obtain ⟨ab, ao, spot⟩ := a
    have hspot : spot = none := by simpa [Addr.add] using World.cell?_spot (hp 0 (by omega)).1.1
    subst hspot
    obtain ⟨⟨c0, c1, c2⟩, -⟩ := hp i hii
    rw [Addr.add_lit, Addr.add_lit] at c0 c1 c2
    have hg : l.getD i (0, 0, 0) = l[i] := by rw [List.getD_eq_getElem?_getD, List.getElem?_eq_getElem hii]; rfl
    rw [hg]
    exact ⟨ab, ao, rfl, hb (Nat.mul_pos (by omega) (by decide)), c0, c1, c2⟩
  · obtain ⟨i, hil, rfl⟩ := List.mem_iff_getElem.1 hfm
    exact (hp i hil).2
theorem ThreesAt.wf {l : List (Int × Int × Int)} (h : ∀ x ∈ l, ThreeWf x) (i : Nat) : ThreeWf (l.getD i (0, 0, 0)) := by
  rcases Nat.lt_or_ge i l.length with hi | hi
  · rw [List.getD_eq_getElem?_getD, List.getElem?_eq_getElem hi]
    exact h _ (List.getElem_mem hi)
  · rw [List.getD_eq_getElem?_getD, List.getElem?_eq_none hi]
    exact ⟨by decide, by decide, by decide⟩
end
end Go.Proofs.Ytfiafgmlbejboaa
