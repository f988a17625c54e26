/- How an argument that is a slice of entries reads: a key, a place of three ints, a generation, five cells each. -/
import Derived.Test.YtlcchefiicalpaaTrnJ
import Derived.Test.YtlcchefiicalpaaLaw
import Derived.ChangeArms
import Derived.Deep.Slices
namespace Go.Proofs.Ytlcchefiicalpaa
open Go.ChangeShapes Go.WideShapes Go.ChangeAt Go.RowKit
section
variable {H : Type} {enc : TypeId × Value → H} {P : Program} {w : World} {base : Nat}
theorem one_int {i0 : TypeId} {cs : List Value} {o n : Nat} {x : DataW H × List MemPlace} (hi : P.underlying i0 = some (.int .i64)) (h : DataW.trod enc P w base (fun _ => true) true n i0 ((cs.drop o).take 1) = some x) : ∃ z, cs[o]? = some (.int .i64 z) := by
  obtain ⟨z, hz, -⟩ := DataW.trod_int hi h
  refine ⟨z, ?_⟩
  have := congrArg (fun l : List Value => l[0]?) hz
  simpa [List.getElem?_take, List.getElem?_drop] using this
theorem ents_arg {t e pl i0 : TypeId} {fs ps : Array Field} {f0 f1 f2 p0 p1 p2 : Field} (ht : P.underlying t = some (.slice e)) (he : P.underlying e = some (.struct fs)) (hp : P.underlying pl = some (.struct ps)) (hi0 : P.underlying i0 = some (.int .i64))
    (hf0 : fs[0]? = some f0) (hf1 : fs[1]? = some f1) (hf2 : fs[2]? = some f2) (hfs : fs.size = 3) (h0 : f0.type = i0 ∧ f0.offset = 0) (h1 : f1.type = pl ∧ f1.offset = 1) (h2 : f2.type = i0 ∧ f2.offset = 4)
    (hp0 : ps[0]? = some p0) (hp1 : ps[1]? = some p1) (hp2 : ps[2]? = some p2) (hps : ps.size = 3) (j0 : p0.type = i0 ∧ p0.offset = 0) (j1 : p1.type = i0 ∧ p1.offset = 1) (j2 : p2.type = i0 ∧ p2.offset = 2)
    (c1 : P.cellsOf i0 = 1) (c3 : P.cellsOf pl = 3) (c5 : P.cellsOf e = 5) {r : Reach} {b0 : Nat} {v : Value} {d : DataW H} {p : List MemPlace} (hval : Value.okWide P w r b0 t v) (h : DataW.Trod enc P w base (fun _ => true) true t v d p) (hlt : ∀ x ∈ p, x.block < w.heap.size) :
    ∃ (A : Option Addr) (cap : Nat) (l : List Tr.E), v = .slice A l.length cap ∧ cap ≤ maxLen ∧ SlC w w.heap.size A cap l.length (evs l) := by
  obtain ⟨a1, len1, cap1, rfl⟩ := okWide_slice ht hval
  obtain ⟨fuel, hf⟩ := h
  rcases Deep.open_slice ht hf with ⟨hcs, _⟩ | ⟨a, len, cap, m, n, D, Pl, hcs, _, hl, hm, hmm, hx, hi⟩
  · simp [Value.cells] at hcs
    obtain ⟨rfl, rfl, rfl⟩ := hcs
    exact ⟨none, 0, [], rfl, Nat.zero_le _, ⟨Nat.le_refl _, fun _ => rfl, .inl rfl⟩⟩
  simp [Value.cells] at hcs
  obtain ⟨rfl, rfl, rfl⟩ := hcs
  simp only [if_true] at hmm
  subst hmm
  rw [c5] at hi
  obtain ⟨-, hP⟩ := Prod.mk.inj hx
  rw [c5] at hP
  have each : ∀ i, i < len1 → ∃ y : Tr.E, w.cell? ((a.add (i * 5)).add 0) = some (.int .i64 y.k) ∧ w.cell? ((a.add (i * 5)).add 1) = some (.int .i64 y.p.1) ∧ w.cell? ((a.add (i * 5)).add 2) = some (.int .i64 y.p.2.1) ∧ w.cell? ((a.add (i * 5)).add 3) = some (.int .i64 y.p.2.2) ∧ w.cell? ((a.add (i * 5)).add 4) = some (.int .i64 y.g) := by
    intro i hil
    obtain ⟨cs, hc, ht'⟩ := hi i (by omega)
    obtain ⟨_, hcl, hat⟩ := World.cells?_some hc
    obtain ⟨ys, n', _, -, _, hyl, hfd⟩ := DataW.trod_struct he ht'
    have k0 := hfd 0 f0 hf0
    have k1 := hfd 1 f1 hf1
    have k2 := hfd 2 f2 hf2
    rw [h0.1, h0.2, c1, List.getElem?_eq_getElem (show 0 < ys.length by omega)] at k0
    rw [h1.1, h1.2, c3, List.getElem?_eq_getElem (show 1 < ys.length by omega)] at k1
    rw [h2.1, h2.2, c1, List.getElem?_eq_getElem (show 2 < ys.length by omega)] at k2
    obtain ⟨z0, e0⟩ := one_int hi0 k0
    obtain ⟨z4, e4⟩ := one_int hi0 k2
    obtain ⟨zs, n2, _, -, _, hzl, hgd⟩ := DataW.trod_struct hp k1
    have q0 := hgd 0 p0 hp0
    have q1 := hgd 1 p1 hp1
    have q2 := hgd 2 p2 hp2
    rw [j0.1, j0.2, c1, List.getElem?_eq_getElem (show 0 < zs.length by omega)] at q0
    rw [j1.1, j1.2, c1, List.getElem?_eq_getElem (show 1 < zs.length by omega)] at q1
    rw [j2.1, j2.2, c1, List.getElem?_eq_getElem (show 2 < zs.length by omega)] at q2
    obtain ⟨z1, e1⟩ := one_int hi0 q0
    obtain ⟨z2, e2⟩ := one_int hi0 q1
    obtain ⟨z3, e3⟩ := one_int hi0 q2
    have e1 : cs[1]? = some (.int .i64 z1) := by simpa [List.getElem?_take, List.getElem?_drop] using e1
    have e2 : cs[2]? = some (.int .i64 z2) := by simpa [List.getElem?_take, List.getElem?_drop] using e2
    have e3 : cs[3]? = some (.int .i64 z3) := by simpa [List.getElem?_take, List.getElem?_drop] using e3
    exact ⟨⟨z0, (z1, z2, z3), z4⟩, (hat 0 (by decide)).trans e0, (hat 1 (by decide)).trans e1, (hat 2 (by decide)).trans e2, (hat 3 (by decide)).trans e3, (hat 4 (by decide)).trans e4⟩
  obtain ⟨l, hll, hp⟩ := list_of_fn _ len1 each
  subst hll
  refine ⟨some a, _, l, rfl, hm, ⟨hl, (fun h => by cases h), ?_⟩⟩
  rcases Nat.eq_zero_or_pos l.length with h00 | hpos
  · rw [List.length_eq_zero_iff] at h00
    subst h00
    exact .inl rfl
  · obtain ⟨ab, ao, spot⟩ := a
    have hspot : spot = none := by simpa [Addr.add] using World.cell?_spot (hp 0 hpos).1
    subst hspot
    refine .inr ⟨ab, ao, rfl, ?_, fun i hi => ?_⟩
    · refine hlt (.cell ab (ao + 0)) ?_
      rw [hP]
      exact List.mem_append_left _ (by simp only [MemPlace.row, List.mem_map, List.mem_range]; exact ⟨0, by omega, rfl⟩)
    · have hl5 := evs_len l
      obtain ⟨g0, g1, g2, g3, g4⟩ := hp (i / 5) (by omega)
      obtain ⟨v0, v1, v2, v3, v4⟩ := evs_at (l := l) (k := i / 5) (by omega)
      have hg : l.getD (i / 5) Tr.z = l[i / 5]'(by omega) := by rw [List.getD_eq_getElem?_getD, List.getElem?_eq_getElem (by omega)]; rfl
      rw [hg] at v0 v1 v2 v3 v4
      rw [Addr.add_lit, Addr.add_lit] at g0 g1 g2 g3 g4
      rw [← List.getElem?_eq_getElem hi]
      have : i % 5 = 0 ∨ i % 5 = 1 ∨ i % 5 = 2 ∨ i % 5 = 3 ∨ i % 5 = 4 := by omega
      rcases this with h | h | h | h | h
      · rw [show ao + i = ao + i / 5 * 5 + 0 by omega, g0, show (evs l)[i]? = (evs l)[i / 5 * 5]? by congr 1; omega]; exact v0.symm
      · rw [show ao + i = ao + i / 5 * 5 + 1 by omega, g1, show (evs l)[i]? = (evs l)[i / 5 * 5 + 1]? by congr 1; omega]; exact v1.symm
      · rw [show ao + i = ao + i / 5 * 5 + 2 by omega, g2, show (evs l)[i]? = (evs l)[i / 5 * 5 + 2]? by congr 1; omega]; exact v2.symm
      · rw [show ao + i = ao + i / 5 * 5 + 3 by omega, g3, show (evs l)[i]? = (evs l)[i / 5 * 5 + 3]? by congr 1; omega]; exact v3.symm
      · rw [show ao + i = ao + i / 5 * 5 + 4 by omega, g4, show (evs l)[i]? = (evs l)[i / 5 * 5 + 4]? by congr 1; omega]; exact v4.symm
end
end Go.Proofs.Ytlcchefiicalpaa
