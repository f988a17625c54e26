/- An argument that is a node of the document's. -/
import Derived.Test.YtdfelkkibolheaaNdm
import Derived.Test.YtdfelkkibolheaaWide
import Derived.ChangeArms
namespace Go.Proofs.Ytdfelkkibolheaa
open Go.ChangeShapes Go.WideShapes Go.ChangeAt Go.RowKit

section
variable {H : Type} {enc : TypeId × Value → H} {P : Program} {w : World} {base : Nat}
theorem struct_trod {e : TypeId} {fs : Array Field} {fuel : Nat} {cs : List Value} {x : DataW H × List MemPlace} (he : P.underlying e = some (.struct fs)) (hflat : flatB P fs = true) (hcl : cs.length = fs.size)
    (hf : DataW.trod enc P w base (fun _ => true) true fuel e cs = some x) (hlt : ∀ y ∈ x.2, y.block < w.heap.size) :
    ∀ (j : Nat) (f : Field), fs[j]? = some f → ∃ (v : Value) (y : DataW H × List MemPlace) (n : Nat), cs[j]? = some v ∧ DataW.trod enc P w base (fun _ => true) true n f.type [v] = some y ∧ ∀ z ∈ y.2, z.block < w.heap.size := by
  obtain ⟨ys, n', _, hy, _, hyl, hfd⟩ := DataW.trod_struct he hf
  intro j f hj
  obtain ⟨ho, hc1⟩ := flat_of hflat hj
  have hjl : j < fs.size := by
    rcases Nat.lt_or_ge j fs.size with h | h
    · exact h
    · rw [Array.getElem?_eq_none h] at hj; cases hj
  have hcj : j < cs.length := by omega
  have h1 := hfd j f hj
  rw [ho, hc1, List.drop_eq_getElem_cons hcj, List.take_succ_cons, List.take_zero] at h1
  rw [List.getElem?_eq_getElem (show j < ys.length by omega)] at h1
  refine ⟨cs[j], ys[j]'(by omega), n', List.getElem?_eq_getElem hcj, h1, fun z hz => hlt z ?_⟩
  rw [hy]
  exact List.mem_flatMap.2 ⟨_, List.getElem_mem _, hz⟩
theorem tcs_cell {l : List Nd.T3} {k : Nat} (h : k < l.length * 3) : (tcs l)[k]? = some (.int .i64 (if k % 3 = 0 then (Nd.t3 l (k / 3)).1 else if k % 3 = 1 then (Nd.t3 l (k / 3)).2.1 else (Nd.t3 l (k / 3)).2.2)) := by
  obtain ⟨e0, e1, e2⟩ := tcs_at (l := l) (k := k / 3) (by omega)
  have hk : k = k / 3 * 3 ∨ k = k / 3 * 3 + 1 ∨ k = k / 3 * 3 + 2 := by omega
  rcases hk with h | h | h
  · rw [if_pos (by omega), ← e0, ← h]
  · rw [if_neg (by omega), if_pos (by omega), ← e1, ← h]
  · rw [if_neg (by omega), if_neg (by omega), ← e2, ← h]
theorem threes_trod {t e i0 : TypeId} {fs : Array Field} {f0 f1 f2 : Field} (ht : P.underlying t = some (.slice e)) (he : P.underlying e = some (.struct fs)) (hfs : fs = #[f0, f1, f2]) (h0 : f0.type = i0) (h1 : f1.type = i0) (h2 : f2.type = i0) (hi0 : P.underlying i0 = some (.int .i64))
    (hflat : flatB P fs = true) (hC : P.cellsOf e = fs.size) {fuel : Nat} {cs : List Value} {x : DataW H × List MemPlace} (hf : DataW.trod enc P w base (fun _ => true) true fuel t cs = some x) (hlt : ∀ y ∈ x.2, y.block < w.heap.size) :
    ∃ (A : Option Addr) (cap : Nat) (l : List Nd.T3), cs = [.slice A l.length cap] ∧ SlC w w.heap.size A cap l.length (tcs l) := by
  have hsz : fs.size = 3 := by rw [hfs]; rfl
  rcases wide_trod ht he hflat hC hf hlt with hcs | ⟨a, len, cap, hcs, hl, hm, hb, hi⟩
  · exact ⟨none, 0, [], hcs, SlC.none_ _ _⟩
  rw [hsz] at hb
  have each : ∀ i, i < len → ∃ y : Nd.T3, w.cell? ((a.add (i * 3)).add 0) = some (.int .i64 y.1) ∧ w.cell? ((a.add (i * 3)).add 1) = some (.int .i64 y.2.1) ∧ w.cell? ((a.add (i * 3)).add 2) = some (.int .i64 y.2.2) := by
    intro i hil
    obtain ⟨vs, _, hc, hfd⟩ := hi i (by omega)
    rw [hsz] at hc
    obtain ⟨v0, y0, n0, e0, t0, _⟩ := hfd 0 f0 (by rw [hfs]; rfl)
    obtain ⟨v1, y1, n1, e1, t1, _⟩ := hfd 1 f1 (by rw [hfs]; rfl)
    obtain ⟨v2, y2, n2, e2, t2, _⟩ := hfd 2 f2 (by rw [hfs]; rfl)
    rw [h0] at t0
    rw [h1] at t1
    rw [h2] at t2
    obtain ⟨z0, hz0, _, _⟩ := DataW.trod_int hi0 t0
    obtain ⟨z1, hz1, _, _⟩ := DataW.trod_int hi0 t1
    obtain ⟨z2, hz2, _, _⟩ := DataW.trod_int hi0 t2
    injection hz0 with hz0
    injection hz1 with hz1
    injection hz2 with hz2
    exact ⟨(z0, z1, z2), (hc 0 (by decide)).trans (by rw [e0, hz0]), (hc 1 (by decide)).trans (by rw [e1, hz1]), (hc 2 (by decide)).trans (by rw [e2, hz2])⟩
  obtain ⟨l, hll, hp⟩ := list_of_fn _ len each
  refine ⟨some a, cap, l, by rw [hcs, hll], by omega, (fun h => by cases h), ?_⟩
  by_cases hz : len = 0
  · left
    rw [hz] at hll
    rw [List.eq_nil_of_length_eq_zero hll]
    rfl
  obtain ⟨ab, ao, spot⟩ := a
  have hspot : spot = none := by simpa [Addr.add] using World.cell?_spot (hp 0 (by omega)).1
  subst hspot
  refine .inr ⟨ab, ao, rfl, hb (Nat.mul_pos (by omega) (by decide)), fun k hk => ?_⟩
  rw [← List.getElem?_eq_getElem hk]
  rw [tcs_len, hll] at hk
  have hkl : k / 3 < l.length := by omega
  obtain ⟨c0, c1, c2⟩ := hp (k / 3) hkl
  rw [Addr.add_lit, Addr.add_lit] at c0 c1 c2
  rw [tcs_cell (by omega)]
  have hg : Nd.t3 l (k / 3) = l[k / 3] := by unfold Nd.t3; rw [List.getD_eq_getElem?_getD, List.getElem?_eq_getElem hkl]; rfl
  rw [hg]
  have hk3 : k % 3 = 0 ∨ k % 3 = 1 ∨ k % 3 = 2 := by omega
  rcases hk3 with h | h | h
  · rw [if_pos h, ← c0, show ao + k = ao + k / 3 * 3 + 0 by omega]
  · rw [if_neg (by omega), if_pos h, ← c1, show ao + k = ao + k / 3 * 3 + 1 by omega]
  · rw [if_neg (by omega), if_neg (by omega), ← c2, show ao + k = ao + k / 3 * 3 + 2 by omega]
end
section
variable {H : Type} {enc : TypeId × Value → H} {w : World} {base : Nat}
set_option maxRecDepth 16000 in
theorem node_arg {r : Reach} {b0 : Nat} {v : Value} {d : DataW H} {p : List MemPlace} (hval : Value.okWide Try.prog w r b0 60 v) (h : DataW.Trod enc Try.prog w base (fun _ => true) true 60 v d p) (hlt : ∀ x ∈ p, x.block < w.heap.size) :
    ∃ n : Nd.N, NdAt w w.heap.size v n := by
  obtain ⟨cs, rfl, hcs⟩ := okWide_struct Try.underlying60 hval
  obtain ⟨fuel, hf⟩ := h
  have h5 : Try.prog.cellsOf 60 = 5 := by kernel_rfl
  rw [h5] at hcs
  have hfd := struct_trod Try.underlying60 (by kernel_rfl) (by show cs.toList.length = 5; rw [Array.length_toList]; exact hcs) hf hlt
  obtain ⟨v0, y0, n0, e0, t0, l0⟩ := hfd 0 _ rfl
  obtain ⟨v1, y1, n1, e1, t1, l1⟩ := hfd 1 _ rfl
  obtain ⟨v2, y2, n2, e2, t2, l2⟩ := hfd 2 _ rfl
  obtain ⟨v3, y3, n3, e3, t3, l3⟩ := hfd 3 _ rfl
  obtain ⟨v4, y4, n4, e4, t4, l4⟩ := hfd 4 _ rfl
  obtain ⟨z0, hz0, _, _⟩ := DataW.trod_int Try.underlying3 t0
  obtain ⟨A1, c1, ks, k1, k2, k3, k4, k5, k6⟩ := ints_trod Try.underlying51 Try.underlying3 (by kernel_rfl) t1 l1
  obtain ⟨A2, c2, ps, p1, p2⟩ := threes_trod Try.underlying57 Try.underlying84 rfl rfl rfl rfl Try.underlying3 (by kernel_rfl) (by kernel_rfl) t2 l2
  obtain ⟨A3, c3, gs, g1, g2, g3, g4, g5, g6⟩ := ints_trod Try.underlying51 Try.underlying3 (by kernel_rfl) t3 l3
  obtain ⟨A4, c4, kk, q1, q2⟩ := threes_trod Try.underlying58 Try.underlying86 rfl rfl rfl rfl Try.underlying3 (by kernel_rfl) (by kernel_rfl) t4 l4
  injection hz0 with hz0
  injection k1 with k1
  injection p1 with p1
  injection g1 with g1
  injection q1 with q1
  subst hz0 k1 p1 g1 q1
  refine ⟨⟨z0, ks, ps, gs, kk⟩, A1, c1, A2, c2, A3, c3, A4, c4, ?_, ⟨k2, k6, k4⟩, p2, ⟨g2, g6, g4⟩, q2⟩
  have hl : cs.toList = [.int .i64 z0, .slice A1 ks.length c1, .slice A2 ps.length c2, .slice A3 gs.length c3, .slice A4 kk.length c4] := by
    have hlen : cs.toList.length = 5 := by rw [Array.length_toList]; exact hcs
    apply List.ext_getElem?
    intro i
    rcases Nat.lt_or_ge i 5 with h | h
    · have hi : i = 0 ∨ i = 1 ∨ i = 2 ∨ i = 3 ∨ i = 4 := by omega
      rcases hi with rfl | rfl | rfl | rfl | rfl
      · exact e0
      · exact e1
      · exact e2
      · exact e3
      · exact e4
    · rw [List.getElem?_eq_none (by omega), List.getElem?_eq_none (by simpa using h)]
  show Value.agg cs = _
  rw [← Array.toArray_toList (xs := cs), hl]
end
end Go.Proofs.Ytdfelkkibolheaa
