/- Whole blocks of cells, loaded and stored at once (arrays by value). -/
import Derived.Test.YtpaefpjggglmaaaHeap
import Derived.Test.YtpaefpjggglmaaaChecked
import Derived.Lib.LazyBuf
import Derived.Deep.WholeRow
namespace Go.Proofs.Ytpaefpjggglmaaa
open Go.RowKit

theorem load_blk {W : World} {b N : Nat} {t : TypeId} {cs : Array Value} (hl : cs.size = N) (h : Blk W b t cs) : (loadCellsFrom ⟨b, 0, none⟩ 0 N #[]).run Try.prog W = .ok cs W := by
  have := run_loadCells_list (P := Try.prog) W ⟨b, 0, none⟩ cs.toList (fun j v hv => by rw [Addr.add_lit, Nat.zero_add, h.cell]; simpa using hv)
  rw [Array.length_toList, hl, Array.toArray_toList] at this
  exact this
theorem set_all (cs : Array Value) : ∀ (ds : List Value) (o : Nat), o + ds.length = cs.size → ∀ (W : World) (b : Nat) (t : TypeId) (pre : List Value), pre.length = o → Blk W b t (pre ++ (cs.toList.drop o)).toArray → Blk (W.setCells b o ds) b t (pre ++ ds).toArray
  | [], o, h, W, b, t, pre, hp, hb => by
    have : cs.toList.drop o = [] := List.drop_eq_nil_of_le (by rw [Array.length_toList]; simp at h; omega)
    rw [this] at hb
    exact hb
  | d :: ds, o, h, W, b, t, pre, hp, hb => by
    have ho : o < cs.toList.length := by rw [Array.length_toList]; simp at h; omega
    have := set_all cs ds (o + 1) (by simp at h; omega) (W.setCell ⟨b, o, none⟩ d) b t (pre ++ [d]) (by simp [hp]) (by
      have hs := hb.set_ o d
      rw [List.drop_eq_getElem_cons ho] at hs
      have e : (pre ++ cs.toList[o] :: cs.toList.drop (o + 1)).toArray.setIfInBounds o d = (pre ++ [d] ++ cs.toList.drop (o + 1)).toArray := by
        simp [List.setIfInBounds_toArray, hp]
      rwa [e] at hs)
    simpa [World.setCells] using this
theorem store_blk {W : World} {b : Nat} {t : TypeId} {cs ds : Array Value} (hl : ds.size = cs.size) (h : Blk W b t cs) (h1 : ∀ u ∈ ds.toList, u.oneCell' = true) :
    (storeCells ⟨b, 0, none⟩ ds.toList 0).run Try.prog W = .ok () (W.setCells b 0 ds.toList) ∧ Blk (W.setCells b 0 ds.toList) b t ds := by
  refine ⟨?_, ?_⟩
  · have := run_storeCells_cells (P := Try.prog) b 0 ds.toList 0 W (fun j hj => by rw [Nat.add_zero, Nat.zero_add, h.cell]; rw [Array.length_toList, hl] at hj; simp [hj]) (fun j _ => h.frozen _) h1
    simpa using this
  · have := set_all cs ds.toList 0 (by simp [hl]) W b t [] rfl (by simpa using h)
    simpa using this
theorem below_cells {B : Nat} {w : World} : ∀ (ds : List Value) (b o : Nat), B ≤ b → Below B w (w.setCells b o ds)
  | [], _, _, _ => Below.refl _ _
  | d :: ds, b, o, h => by
    have h1 : Below B w (w.setCell ⟨b, o, none⟩ d) := (Below.refl _ _).setCell h d
    have h2 := below_cells (w := w.setCell ⟨b, o, none⟩ d) ds b (o + 1) h
    simpa [World.setCells] using h1.trans h2
end Go.Proofs.Ytpaefpjggglmaaa
