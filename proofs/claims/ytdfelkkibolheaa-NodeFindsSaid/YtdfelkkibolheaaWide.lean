/- How an argument that is a slice of structures reads, each field a single cell. -/
import Derived.Test.YtdfelkkibolheaaLaw
import Derived.ChangeArms
import Derived.Deep.Slices
namespace Go.Proofs.Ytdfelkkibolheaa
open Go.ChangeShapes Go.WideShapes Go.ChangeAt Go.RowKit

/-- Are the fields cells, one behind the other? -/
def flatB (P : Program) (fs : Array Field) : Bool := (List.range fs.size).all fun j => match fs[j]? with
  | some f => f.offset == j && P.cellsOf f.type == 1
  | none => false
theorem flat_of {P : Program} {fs : Array Field} (h : flatB P fs = true) {j : Nat} {f : Field} (hj : fs[j]? = some f) : f.offset = j ∧ P.cellsOf f.type = 1 := by
  have hlt : j < fs.size := by
    rcases Nat.lt_or_ge j fs.size with h | h
    · exact h
    · rw [Array.getElem?_eq_none h] at hj; cases hj
  have := List.all_eq_true.1 h j (List.mem_range.2 hlt)
  rw [hj] at this
  simpa using this

section
variable {H : Type} {enc : TypeId × Value → H} {P : Program} {w : World} {base : Nat}
/-- A slice of structures whose fields are single cells. -/
theorem wide_trod {t e : TypeId} {fs : Array Field} {fuel : Nat} {cs : List Value} {x : DataW H × List MemPlace} (ht : P.underlying t = some (.slice e)) (he : P.underlying e = some (.struct fs)) (hflat : flatB P fs = true) (hC : P.cellsOf e = fs.size)
    (hf : DataW.trod enc P w base (fun _ => true) true fuel t cs = some x) (hlt : ∀ y ∈ x.2, y.block < w.heap.size) :
    cs = [.slice none 0 0] ∨ ∃ (a : Addr) (len cap : Nat), cs = [.slice (some a) len cap] ∧ len ≤ cap ∧ cap ≤ maxLen ∧ (0 < cap * fs.size → a.block < w.heap.size) ∧
      ∀ i, i < cap → ∃ vs : List Value, vs.length = fs.size ∧ (∀ j, j < fs.size → w.cell? ((a.add (i * fs.size)).add j) = vs[j]?) ∧
        ∀ (j : Nat) (f : Field), fs[j]? = some f → ∃ (v : Value) (y : DataW H × List MemPlace) (n : Nat), vs[j]? = some v ∧ DataW.trod enc P w base (fun _ => true) true n f.type [v] = some y ∧ ∀ z ∈ y.2, z.block < w.heap.size := by
  rcases Deep.open_slice ht hf with ⟨hcs, _⟩ | ⟨a, len, cap, m, n, D, Pl, hcs, _, hl, hm, hmm, hx, hi⟩
  · exact .inl hcs
  right
  simp only [if_true] at hmm
  subst hmm
  rw [hx] at hlt
  refine ⟨a, len, m, hcs, hl, hm, fun hpos => ?_, fun i him => ?_⟩
  · rw [hC] at hlt
    have := hlt (.cell a.block (a.off + 0)) (List.mem_append_left _ (by simp only [MemPlace.row, List.mem_map, List.mem_range]; exact ⟨0, hpos, rfl⟩))
    exact this
  · obtain ⟨cs', hc, ht'⟩ := hi i him
    rw [hC] at hc
    obtain ⟨_, hcl, hat⟩ := World.cells?_some hc
    obtain ⟨ys, n', _, hy, _, hyl, hfd⟩ := DataW.trod_struct he ht'
    refine ⟨cs', hcl, hat, fun j f hj => ?_⟩
    obtain ⟨ho, hc1⟩ := flat_of hflat hj
    have hjl : j < fs.size := by
      rcases Nat.lt_or_ge j fs.size with h | h
      · exact h
      · rw [Array.getElem?_eq_none h] at hj; cases hj
    have hcj : j < cs'.length := by omega
    have h1 := hfd j f hj
    rw [ho, hc1, List.drop_eq_getElem_cons hcj, List.take_succ_cons, List.take_zero] at h1
    rw [List.getElem?_eq_getElem (show j < ys.length by omega)] at h1
    refine ⟨cs'[j], ys[j]'(by omega), n', List.getElem?_eq_getElem hcj, h1, fun z hz => hlt z (List.mem_append_right _ ?_)⟩
    simp only [Prod.mk.injEq] at hy
    rw [List.mem_flatMap]
    exact ⟨i, List.mem_range.2 him, by rw [hy.2]; exact List.mem_flatMap.2 ⟨_, List.getElem_mem _, hz⟩⟩
end
end Go.Proofs.Ytdfelkkibolheaa
