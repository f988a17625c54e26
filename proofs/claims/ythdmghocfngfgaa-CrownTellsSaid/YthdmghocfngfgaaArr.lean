/- How an argument that is an array of integers is read, and read again: for any array type of integers, no condition. -/
import Derived.OpenShut
import Derived.ProofKit
import Derived.DataShut
namespace Go.Proofs.Ythdmghocfngfgaa
open Go.ChangeShapes Go.WideShapes Go.ChangeAt Go.RowKit

section
variable {H : Type} {enc : TypeId × Value → H} {P : Program} {w : World} {base : Nat} {spare : Nat → Bool} {held : Bool}

def arrV (k : IntKind) (zs : List Int) : Value := .agg (zs.map (Value.int k)).toArray
def arrD (H : Type) (k : IntKind) (zs : List Int) : DataW H := .agg (zs.map fun z => .lit (.int k z))

theorem open_arr_ints {r : Reach} {b0 : Nat} {t e : TypeId} {n : Nat} {k : IntKind} {v : Value} {d : DataW H} {p : List MemPlace} (ht : P.underlying t = some (.array n e)) (he : P.underlying e = some (.int k))
    (hce : P.cellsOf e = 1) (hct : P.cellsOf t = n) (hv : Value.okWide P w r b0 t v) (h : DataW.Trod enc P w base spare held t v d p) :
    ∃ zs : List Int, zs.length = n ∧ v = arrV k zs ∧ d = arrD H k zs ∧ p = [] ∧ ∀ z ∈ zs, (Lit.int k z).wf = true := by
  simp only [Value.okWide, ht] at hv
  obtain ⟨cs, rfl, hsz, -⟩ := hv
  obtain ⟨fuel, hf⟩ := h
  obtain ⟨xs, m, -, hx, -, hxl, hg⟩ := DataW.trod_array ht hf
  have hcl : cs.toList.length = n := by simpa using hsz.trans hct
  have key : ∀ i, i < n → ∃ z, cs.toList[i]? = some (.int k z) ∧ xs[i]? = some (.lit (.int k z), []) ∧ (Lit.int k z).wf = true := by
    intro i hi
    have g := hg i hi
    simp only [hce, Nat.mul_one, Value.cells] at g
    have hxi : xs[i]? = some xs[i] := List.getElem?_eq_getElem (by omega)
    rw [hxi] at g
    obtain ⟨z, h1, h2, h3⟩ := DataW.trod_int he g
    refine ⟨z, ?_, by rw [hxi, h2], h3⟩
    have := congrArg (fun l => l[0]?) h1
    simpa [List.getElem?_take, List.getElem?_drop] using this
  have hzs : ∃ zs : List Int, cs.toList = zs.map (Value.int k) ∧ xs = zs.map (fun z => ((.lit (.int k z) : DataW H), ([] : List MemPlace))) ∧ ∀ z ∈ zs, (Lit.int k z).wf = true := by
    clear hg hx hf hsz
    generalize cs.toList = l at *
    clear cs ht hct
    induction l generalizing xs n with
    | nil =>
      have : xs = [] := List.eq_nil_of_length_eq_zero (by simp at hcl; omega)
      exact ⟨[], rfl, by simp [this], by simp⟩
    | cons c l ih =>
      obtain ⟨z, h1, h2, h3⟩ := key 0 (by simp at hcl; omega)
      cases xs with
      | nil => simp at hcl hxl; omega
      | cons x xs =>
        simp at h1 h2 hcl hxl
        obtain ⟨zs, e1, e2, e3⟩ := ih (n := n - 1) xs (by omega) (by omega) (fun i hi => by simpa using key (i + 1) (by omega))
        refine ⟨z :: zs, by simp [h1, e1], by simp [h2, e2], ?_⟩
        intro y hy
        rcases List.mem_cons.1 hy with rfl | hy
        · exact h3
        · exact e3 y hy
  obtain ⟨zs, e1, e2, e3⟩ := hzs
  refine ⟨zs, by rw [e1] at hcl; simpa using hcl, ?_, ?_, ?_, e3⟩
  · rw [arrV, ← e1]
  · have := congrArg Prod.fst hx; rw [e2] at this; simpa [arrD, Function.comp_def] using this
  · have := congrArg Prod.snd hx; rw [e2] at this; simp only at this; rw [this]; simp [List.flatMap_eq_nil_iff]

theorem shut_arr_ints {t e : TypeId} {n : Nat} {k : IntKind} {zs : List Int} (ht : P.underlying t = some (.array n e)) (he : P.underlying e = some (.int k)) (hce : P.cellsOf e = 1) (hct : P.cellsOf t = n)
    (hn : zs.length = n) (hw : ∀ z ∈ zs, (Lit.int k z).wf = true) : DataW.Trod enc P w base spare held t (arrV k zs) (arrD H k zs) [] := by
  refine ⟨2, ?_⟩
  have hm : (List.range n).mapM (fun i => DataW.trod enc P w base spare held 1 e ((((zs.map (Value.int k)).drop (i * P.cellsOf e))).take (P.cellsOf e))) = some (zs.map fun z => ((.lit (.int k z) : DataW H), ([] : List MemPlace))) := by
    refine mapM_some_of_get _ _ (by simp [hn]) fun i x hx => ?_
    have hi : i < n := by
      rcases Nat.lt_or_ge i n with h | h
      · exact h
      · rw [List.getElem?_eq_none (by simpa using h)] at hx; cases hx
    obtain rfl : i = x := by rw [List.getElem?_range hi] at hx; simpa using hx
    have hz : zs[i]? = some zs[i] := List.getElem?_eq_getElem (by omega)
    have e1 : ((zs.map (Value.int k)).drop (i * P.cellsOf e)).take (P.cellsOf e) = [.int k zs[i]] := by
      rw [hce, Nat.mul_one, List.drop_eq_getElem_cons (by simp; omega)]
      simp
    rw [e1]
    have := hw zs[i] (List.getElem_mem _)
    simp [DataW.trod, he, this, hz]
  unfold DataW.trod
  rw [ht]
  simp only [arrV, Value.cells]
  rw [hct]
  simp only [List.length_map, hn, hm]
  simp [arrD, Function.comp_def]

end
end Go.Proofs.Ythdmghocfngfgaa
