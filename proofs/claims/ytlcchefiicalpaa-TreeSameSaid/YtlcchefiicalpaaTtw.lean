/- What TreeSame wants: entries put in turn are the same map, one entry of a row. -/
import Derived.Test.YtlcchefiicalpaaTlv
import Derived.Test.YtlcchefiicalpaaTcv
namespace Go.Proofs.Ytlcchefiicalpaa
open Go.RowKit
theorem Tr.puts_same {M L : List Tr.E} (h : Tr.Asc M) (hm : ∀ e, e ∈ L ↔ e ∈ M) : Tr.puts [] L = M := by
  refine Tr.asc_ext (Tr.puts_asc List.Pairwise.nil L) h fun k => ?_
  rw [Tr.puts_get List.Pairwise.nil]
  rcases hf : L.reverse.find? (fun e => e.k == k) with _ | e
  · have hn : ∀ x ∈ M, x.k ≠ k := fun x hx hk => by
      have := List.find?_eq_none.1 hf x (List.mem_reverse.2 ((hm x).2 hx))
      simp [hk] at this
    rw [hf]
    show Tr.get [] k = Tr.get M k
    rw [Tr.get_none hn]
    rfl
  · have h1 := List.mem_reverse.1 (List.mem_of_find?_eq_some hf)
    have h2 : e.k = k := by have := List.find?_some hf; simpa using this
    rw [hf]
    show some e = Tr.get M k
    rw [← h2]
    exact (Tr.get_some h ((hm e).1 h1) rfl).symm
/-- The first i of a list that is begun at t. -/
def Tr.turn (M : List Tr.E) (t i : Nat) : List Tr.E := (List.range i).map fun j => M.getD ((j + t) % M.length) Tr.z
theorem Tr.turn_next (M : List Tr.E) (t i : Nat) : Tr.turn M t (i + 1) = Tr.turn M t i ++ [M.getD ((i + t) % M.length) Tr.z] := by
  unfold Tr.turn
  rw [List.range_succ, List.map_append]
  rfl
theorem turn_mod {n t j : Nat} (hj : j < n) : ((j + (n - t % n)) % n + t) % n = j := by
  have hn : 0 < n := by omega
  have h1 := Nat.mod_lt t hn
  have h2 := Nat.div_add_mod t n
  rw [Nat.mod_add_mod]
  have h3 : j + (n - t % n) + t = j + n * (t / n + 1) := by
    rw [Nat.mul_add, Nat.mul_one]; omega
  rw [h3, Nat.add_mul_mod_self_left, Nat.mod_eq_of_lt hj]
theorem Tr.turn_all (M : List Tr.E) (t : Nat) (h : Tr.Asc M) : Tr.puts [] (Tr.turn M t M.length) = M := by
  refine Tr.puts_same h fun e => ?_
  unfold Tr.turn
  rw [List.mem_map]
  constructor
  · rintro ⟨i, hi, rfl⟩
    have hi := List.mem_range.1 hi
    have hl := Nat.mod_lt (i + t) (show 0 < M.length by omega)
    rw [List.getD_eq_getElem?_getD, List.getElem?_eq_getElem hl]
    exact List.getElem_mem _
  · intro he
    obtain ⟨j, hj, rfl⟩ := List.mem_iff_getElem.1 he
    refine ⟨(j + (M.length - t % M.length)) % M.length, List.mem_range.2 (Nat.mod_lt _ (by omega)), ?_⟩
    rw [turn_mod hj, List.getD_eq_getElem?_getD, List.getElem?_eq_getElem hj]
    rfl
theorem Tr.turn_put (M : List Tr.E) (t i : Nat) : Tr.puts (Tr.puts [] (Tr.turn M t i)) [M.getD ((i + t) % M.length) Tr.z] = Tr.puts [] (Tr.turn M t (i + 1)) := by
  rw [Tr.turn_next, Tr.puts_next]
  rfl
/-- One entry of a row, as a row. -/
theorem slc_one {w : World} {B b o c n : Nat} {M : List Tr.E} (h : SlC w B (some ⟨b, o, none⟩) c n (evs M)) {k : Nat} (hk : k < M.length) (hn : n = M.length) : SlC w B (some ⟨b, o + k * 5, none⟩) (c - k) 1 (evs [M.getD k Tr.z]) := by
  obtain ⟨b', o', e, hb, v0, v1, v2, v3, v4⟩ := h.ev hk
  injection e with e
  injection e with e1 e2
  subst e1
  subst e2
  have hle := h.le
  refine ⟨by omega, (fun e => by cases e), .inr ⟨b, o + k * 5, rfl, hb, fun i hi => ?_⟩⟩
  have hi : i < 5 := hi
  have : i = 0 ∨ i = 1 ∨ i = 2 ∨ i = 3 ∨ i = 4 := by omega
  rcases this with rfl | rfl | rfl | rfl | rfl
  · exact v0
  · exact v1
  · exact v2
  · exact v3
  · exact v4
/-- The slice of one element of five cells. -/
theorem run_slice_one {P : Program} {t e : TypeId} {i : TypeInfo} (ht : P.underlying t = some (.slice e)) (hi : P.info? e = some i) (hs : i.size = 5) (b o n cap k : Nat) (hk : k < cap) (w : World) :
    (Instr.slice t (.slice (some ⟨b, o, none⟩) n cap) (some (.int .i64 (k : Int))) (some (.int .i64 ((k : Int) + 1))) none).run P w = .ok (.slice (some ⟨b, o + k * 5, none⟩) 1 (cap - k)) w := by
  have h1 : ((k : Int) + 1) = ((k + 1 : Nat) : Int) := by omega
  rw [h1]
  simp only [Instr.slice, Instr.sliceBounds, Instr.sliceBound, sizeOf, typeInfo, asIntOf]
  simp [run_underlying ht, hi, hs, Addr.add_lit]
  rw [if_pos (by omega)]
  simp [show cap ≠ k by omega]
end Go.Proofs.Ytlcchefiicalpaa
