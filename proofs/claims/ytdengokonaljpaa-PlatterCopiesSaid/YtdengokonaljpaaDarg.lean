/- How an argument that is a slice of deeds reads. -/
import Derived.Test.YtdengokonaljpaaFair
import Derived.Test.YtdengokonaljpaaBool
import Derived.ChangeArms
namespace Go.Proofs.Ytdengokonaljpaa
open Go.ChangeShapes Go.WideShapes Go.ChangeAt Go.RowKit

/-- Are the fields cells, one behind the other? -/
def flatB (P : Program) (fs : Array Field) : Bool := (List.range fs.size).all fun j => match fs[j]? with
  | some f => f.offset == j && P.cellsOf f.type == 1
  | none => false
theorem flat_of {P : Program} {fs : Array Field} (h : flatB P fs = true) {j : Nat} {f : Field} (hj : fs[j]? = some f) : f.offset = j ∧ P.cellsOf f.type = 1 := by
  have hlt : j < fs.size := by
    rcases Nat.lt_or_ge j fs.size with h | h
    · exact h
    · rw [Array.getElem?_eq_none h] at hj; cases hj
  have := List.all_eq_true.1 h j (List.mem_range.2 hlt)
  rw [hj] at this
  simpa using this

section
variable {H : Type} {enc : TypeId × Value → H} {P : Program} {w : World} {base : Nat}
/-- A slice of structures whose fields are single cells. -/
theorem wide_trod {t e : TypeId} {fs : Array Field} {fuel : Nat} {cs : List Value} {x : DataW H × List MemPlace} (ht : P.underlying t = some (.slice e)) (he : P.underlying e = some (.struct fs)) (hflat : flatB P fs = true) (hC : P.cellsOf e = fs.size)
    (hf : DataW.trod enc P w base (fun _ => true) true fuel t cs = some x) (hlt : ∀ y ∈ x.2, y.block < w.heap.size) :
    cs = [.slice none 0 0] ∨ ∃ (a : Addr) (len cap : Nat), cs = [.slice (some a) len cap] ∧ len ≤ cap ∧ cap ≤ maxLen ∧ (0 < cap * fs.size → a.block < w.heap.size) ∧
      ∀ i, i < cap → ∃ vs : List Value, vs.length = fs.size ∧ (∀ j, j < fs.size → w.cell? ((a.add (i * fs.size)).add j) = vs[j]?) ∧
        ∀ (j : Nat) (f : Field), fs[j]? = some f → ∃ (v : Value) (y : DataW H × List MemPlace) (n : Nat), vs[j]? = some v ∧ DataW.trod enc P w base (fun _ => true) true n f.type [v] = some y ∧ ∀ z ∈ y.2, z.block < w.heap.size := by
  rcases Deep.open_slice ht hf with ⟨hcs, _⟩ | ⟨a, len, cap, m, n, D, Pl, hcs, _, hl, hm, hmm, hx, hi⟩
  · exact .inl hcs
  right
  simp only [if_true] at hmm
  subst hmm
  rw [hx] at hlt
  refine ⟨a, len, m, hcs, hl, hm, fun hpos => ?_, fun i him => ?_⟩
  · rw [hC] at hlt
    have := hlt (.cell a.block (a.off + 0)) (List.mem_append_left _ (by simp only [MemPlace.row, List.mem_map, List.mem_range]; exact ⟨0, hpos, rfl⟩))
    exact this
  · obtain ⟨cs', hc, ht'⟩ := hi i him
    rw [hC] at hc
    obtain ⟨_, hcl, hat⟩ := World.cells?_some hc
    obtain ⟨ys, n', _, hy, _, hyl, hfd⟩ := DataW.trod_struct he ht'
    refine ⟨cs', hcl, hat, fun j f hj => ?_⟩
    obtain ⟨ho, hc1⟩ := flat_of hflat hj
    have hjl : j < fs.size := by
      rcases Nat.lt_or_ge j fs.size with h | h
      · exact h
      · rw [Array.getElem?_eq_none h] at hj; cases hj
    have hcj : j < cs'.length := by omega
    have h1 := hfd j f hj
    rw [ho, hc1, List.drop_eq_getElem_cons hcj, List.take_succ_cons, List.take_zero] at h1
    rw [List.getElem?_eq_getElem (show j < ys.length by omega)] at h1
    refine ⟨cs'[j], ys[j]'(by omega), n', List.getElem?_eq_getElem hcj, h1, fun z hz => hlt z (List.mem_append_right _ ?_)⟩
    simp only [Prod.mk.injEq] at hy
    rw [List.mem_flatMap]
    exact ⟨i, List.mem_range.2 him, by rw [hy.2]; exact List.mem_flatMap.2 ⟨_, List.getElem_mem _, hz⟩⟩
end

section
variable {H : Type} {enc : TypeId × Value → H} {w : World} {base : Nat}
theorem plans_trod {fuel : Nat} {cs : List Value} {x : DataW H × List MemPlace} (hf : DataW.trod enc Try.prog w base (fun _ => true) true fuel 33 cs = some x) (hlt : ∀ y ∈ x.2, y.block < w.heap.size) :
    ∃ (A : Option Addr) (cap : Nat) (l : List (Int × Int)), cs = [.slice A l.length cap] ∧ l.length ≤ cap ∧ cap ≤ maxLen ∧ Sl w w.heap.size A (planCells l) ∧ (∀ f ∈ l, (Lit.int .i64 f.1).wf = true ∧ (Lit.int .i64 f.2).wf = true) ∧ (A = none → cap = 0) := by
  rcases wide_trod Try.underlying33 Try.underlying92 (by kernel_rfl) (by kernel_rfl) hf hlt with hcs | ⟨a, len, cap, hcs, hl, hm, hb, hi⟩
  · exact ⟨none, 0, [], hcs, Nat.le_refl _, Nat.zero_le _, .inl rfl, by simp, fun _ => rfl⟩
  have each : ∀ i, i < len → ∃ y : Int × Int, w.cell? ((a.add (i * 2)).add 0) = some (.int .i64 y.1) ∧ w.cell? ((a.add (i * 2)).add 1) = some (.int .i64 y.2) ∧ (Lit.int .i64 y.1).wf = true ∧ (Lit.int .i64 y.2).wf = true := by
    intro i hil
    obtain ⟨vs, _, hc, hfd⟩ := hi i (by omega)
    obtain ⟨v0, y0, n0, e0, t0, _⟩ := hfd 0 _ rfl
    obtain ⟨v1, y1, n1, e1, t1, _⟩ := hfd 1 _ rfl
    obtain ⟨z0, hz0, _, w0⟩ := DataW.trod_int Try.underlying3 t0
    obtain ⟨z1, hz1, _, w1⟩ := DataW.trod_int Try.underlying3 t1
    injection hz0 with hz0
    injection hz1 with hz1
    exact ⟨(z0, z1), (hc 0 (by decide)).trans (by rw [e0, hz0]), (hc 1 (by decide)).trans (by rw [e1, hz1]), w0, w1⟩
  obtain ⟨l, hll, hp⟩ := list_of_fn _ len each
  refine ⟨some a, cap, l, by rw [hll, hcs], by omega, hm, ?_, fun f hfm => ?_, by simp⟩
  · by_cases h0 : len = 0
    · exact .inl (by have : l = [] := List.eq_nil_of_length_eq_zero (by omega)
                     rw [this]; rfl)
    right
    obtain ⟨ab, ao, spot⟩ := a
    have hspot : spot = none := by simpa [Addr.add] using World.cell?_spot (hp 0 (by omega)).1
    subst hspot
    refine ⟨ab, ao, rfl, hb (Nat.mul_pos (by omega) (by decide)), fun i hii => ?_⟩
    rw [planCells_length] at hii
    have hq : i / 2 < l.length := by omega
    obtain ⟨h1, h2, _, _⟩ := hp (i / 2) hq
    rw [Addr.add_lit, Addr.add_lit] at h1 h2
    obtain ⟨g1, g2⟩ := planCells_at hq
    rcases Nat.mod_two_eq_zero_or_one i with hm2 | hm2
    · have e : i = i / 2 * 2 := by omega
      rw [show ao + i = ao + i / 2 * 2 + 0 by omega, h1, ← g1, ← e, List.getElem?_eq_getElem]
    · have e : i = i / 2 * 2 + 1 := by omega
      rw [show ao + i = ao + i / 2 * 2 + 1 by omega, h2, ← g2, ← e, List.getElem?_eq_getElem]
  · obtain ⟨i, hil, rfl⟩ := List.mem_iff_getElem.1 hfm
    exact (hp i hil).2.2
/-- A slice's address, and the deeds that its elements read as. -/
def DeedsAt (w : World) (B : Nat) (A : Option Addr) (l : List Deed) : Prop :=
  l = [] ∨ ∃ b o, A = some ⟨b, o, none⟩ ∧ b < B ∧ ∀ (i : Nat) (h : i < l.length) (j : Nat) (v : Value), (l[i].cells)[j]? = some v → w.cell? ⟨b, o + i * 6 + j, none⟩ = some v
theorem DeedsAt.below {w w' : World} {B : Nat} {A : Option Addr} {l : List Deed} (h : DeedsAt w B A l) (hb : Below B w w') : DeedsAt w' B A l := by
  rcases h with h | ⟨b, o, e, hlt, hc⟩
  · exact .inl h
  · exact .inr ⟨b, o, e, hlt, fun i hi j v hv => (hb.cell (p := ⟨b, o + i * 6 + j, none⟩) hlt).trans (hc i hi j v hv)⟩
theorem deeds_arg {r : Reach} {b0 : Nat} {v : Value} {d : DataW H} {p : List MemPlace} (hval : Value.okWide Try.prog w r b0 22 v) (h : DataW.Trod enc Try.prog w base (fun _ => true) true 22 v d p) (hlt : ∀ x ∈ p, x.block < w.heap.size) :
    ∃ (A : Option Addr) (cap : Nat) (l : List Deed), v = .slice A l.length cap ∧ l.length ≤ cap ∧ cap ≤ maxLen ∧ DeedsAt w w.heap.size A l ∧ (∀ x ∈ l, x.ok w w.heap.size) ∧ (A = none → cap = 0) := by
  obtain ⟨a1, len1, cap1, rfl⟩ := okWide_slice Try.underlying22 hval
  obtain ⟨fuel, hf⟩ := h
  rcases wide_trod Try.underlying22 Try.underlying35 (by kernel_rfl) (by kernel_rfl) hf hlt with hcs | ⟨a, len, cap, hcs, hl, hm, hb, hi⟩
  · simp [Value.cells] at hcs
    obtain ⟨rfl, rfl, rfl⟩ := hcs
    exact ⟨none, 0, [], rfl, Nat.le_refl _, Nat.zero_le _, .inl rfl, by simp, fun _ => rfl⟩
  simp [Value.cells] at hcs
  obtain ⟨rfl, rfl, rfl⟩ := hcs
  have each : ∀ i, i < len1 → ∃ y : Deed, (∀ (j : Nat) (v : Value), y.cells[j]? = some v → w.cell? ((a.add (i * 6)).add j) = some v) ∧ y.ok w w.heap.size := by
    intro i hil
    obtain ⟨vs, _, hc, hfd⟩ := hi i (by omega)
    obtain ⟨v0, y0, n0, e0, t0, _⟩ := hfd 0 _ rfl
    obtain ⟨v1, y1, n1, e1, t1, _⟩ := hfd 1 _ rfl
    obtain ⟨v2, y2, n2, e2, t2, _⟩ := hfd 2 _ rfl
    obtain ⟨v3, y3, n3, e3, t3, _⟩ := hfd 3 _ rfl
    obtain ⟨v4, y4, n4, e4, t4, p4⟩ := hfd 4 _ rfl
    obtain ⟨v5, y5, n5, e5, t5, p5⟩ := hfd 5 _ rfl
    obtain ⟨z0, hz0, _, w0⟩ := DataW.trod_int Try.underlying3 t0
    obtain ⟨z1, hz1, _, w1⟩ := DataW.trod_int Try.underlying3 t1
    obtain ⟨z2, hz2, _, w2⟩ := DataW.trod_int Try.underlying5 t2
    obtain ⟨z3, hz3, _, w3⟩ := DataW.trod_int Try.underlying31 t3
    obtain ⟨K, ck, keep, hz4, k1, k2, k3, k4⟩ := bools_trod Try.underlying32 Try.underlying4 (by kernel_rfl) t4 p4
    obtain ⟨Q, cq, fl, hz5, q1, q2, q3, q4, q5⟩ := plans_trod t5 p5
    injection hz0 with hz0
    injection hz1 with hz1
    injection hz2 with hz2
    injection hz3 with hz3
    injection hz4 with hz4
    injection hz5 with hz5
    obtain ⟨b, rfl, hb2⟩ := nat_of (b := 256) (wf_nat8 w2)
    obtain ⟨mk, rfl, hb3⟩ := nat_of (b := 4294967296) (wf_nat32 w3)
    refine ⟨⟨z0, z1, b, mk, K, ck, keep, Q, cq, fl⟩, fun j v hv => ?_, ⟨hb2, hb3, w0, w1, k1, k4, k3, q1, q5, q3, q4, Nat.le_trans k1 k2, Nat.le_trans q1 q2⟩⟩
    have hj : j < 6 := by
      rcases Nat.lt_or_ge j 6 with h | h
      · exact h
      · rw [Array.getElem?_eq_none h] at hv; cases hv
    rw [← hv]
    have : j = 0 ∨ j = 1 ∨ j = 2 ∨ j = 3 ∨ j = 4 ∨ j = 5 := by omega
    rcases this with rfl | rfl | rfl | rfl | rfl | rfl
    · exact (hc 0 (by decide)).trans (by rw [e0, hz0]; rfl)
    · exact (hc 1 (by decide)).trans (by rw [e1, hz1]; rfl)
    · exact (hc 2 (by decide)).trans (by rw [e2, hz2]; rfl)
    · exact (hc 3 (by decide)).trans (by rw [e3, hz3]; rfl)
    · exact (hc 4 (by decide)).trans (by rw [e4, hz4]; rfl)
    · exact (hc 5 (by decide)).trans (by rw [e5, hz5]; rfl)
  obtain ⟨l, hll, hp⟩ := list_of_fn _ len1 each
  refine ⟨some a, cap1, l, by rw [hll], by omega, hm, ?_, fun f hfm => ?_, by simp⟩
  · by_cases h0 : len1 = 0
    · exact .inl (List.eq_nil_of_length_eq_zero (by omega))
    right
    obtain ⟨ab, ao, spot⟩ := a
    have hspot : spot = none := by simpa [Addr.add] using World.cell?_spot ((hp 0 (by omega)).1 0 _ rfl)
    subst hspot
    refine ⟨ab, ao, rfl, hb (Nat.mul_pos (by omega) (by decide)), fun i hii j v hv => ?_⟩
    have h1 := (hp i hii).1 j v hv
    rw [Addr.add_lit, Addr.add_lit] at h1
    exact h1
  · obtain ⟨i, hil, rfl⟩ := List.mem_iff_getElem.1 hfm
    exact (hp i hil).2
end
end Go.Proofs.Ytdengokonaljpaa
