/- slices.SortStableFunc at a row of edits of one's own, by inOrder's closure. -/
import Derived.Test.YtlcchefiicalpaaTsoJ
import Derived.Test.YtlcchefiicalpaaTmsJ
import Derived.Test.YtlcchefiicalpaaTpcJ
namespace Go.Proofs.Ytlcchefiicalpaa.Srt6
open Go.RowKit Go.Shelf Go.Lib Go.Sort

/-- An edit's cells, by its place. -/
def ix (l : List Tr.Ed) (i : Nat) : List Value := ed1 (ex l i)
theorem ix_len (l : List Tr.Ed) (i : Nat) : (ix l i).length = 6 := rfl
theorem ix_one (l : List Tr.Ed) (i : Nat) : ∀ v ∈ ix l i, v.oneCell' = true := by
  intro v hv
  simp only [ix, ed1, edcs, List.mem_cons, List.not_mem_nil, or_false] at hv
  rcases hv with rfl | rfl | rfl | rfl | rfl | rfl <;> rfl
theorem flat_at (l : List Tr.Ed) (Z : List Nat) {j : Nat} (hj : j < Z.length * 6) : (edcs (Z.map (ex l)))[j]? = some (flatK (ix l) 6 Z.toArray)[j]! := by
  rw [get_flatK _ _ _ _ (by simpa using hj)]
  have hk : j / 6 < Z.length := by omega
  have h := edcs_at (l := Z.map (ex l)) (k := j / 6) (j := j % 6) (x := ex l Z[j / 6]) (by rw [List.getElem?_map, List.getElem?_eq_getElem hk]; rfl) (Nat.mod_lt _ (by omega))
  rw [show j / 6 * 6 + j % 6 = j by omega] at h
  rw [h]
  have h6 : j % 6 < (ed1 (ex l Z[j / 6])).length := Nat.mod_lt _ (by show 0 < 6; omega)
  rw [List.getElem?_eq_getElem h6, show Z.toArray[j / 6]! = Z[j / 6] by simp [hk]]
  congr 1
  exact (getElem!_pos (ix l Z[j / 6]) (j % 6) h6).symm
theorem map_range (l : List Tr.Ed) : (List.range l.length).map (ex l) = l := by
  apply List.ext_getElem
  · simp
  · intro i h1 h2
    rw [List.getElem_map, List.getElem_range]
    unfold ex
    rw [List.getD_eq_getElem?_getD, List.getElem?_eq_getElem h2]; rfl
theorem putRow_heap (w : World) (blk off : Nat) (d : Array Value) (i : Nat) (h : i ≠ blk) : (putRow id w blk off d).heap[i]? = w.heap[i]? := by
  simp only [putRow, mapBlock, Array.getElem?_modify]
  rw [if_neg (fun e => h e.symm)]
/-- Nothing but the row has changed. -/
theorem sorted_chg {E : Nat → List Value} {w0 W : World} {blk : Nat} {L : List Nat} (h : Sl1 E w0 blk L W) : Chg (fun b => b = blk) w0 W := by
  obtain ⟨m, os, rfl⟩ := h
  have hs : (putRow id (Sort.ahead w0 m) blk 0 (flatK E 6 L.toArray)).heap.size = w0.heap.size := by simp [putRow, mapBlock, Sort.ahead]
  unfold sortWorldK putRowK
  refine ⟨rfl, rfl, rfl, by rw [size_grow, hs]; omega, fun b hb hne => ?_⟩
  rw [heap_grow_old _ _ (by rw [hs]; exact hb), putRow_heap _ _ _ _ _ hne]
  rfl
theorem cmp_same (l : List Tr.Ed) (x y : Nat) : cmpI (ex l x).x.k (ex l y).x.k = cmpV (kx l) x y := rfl

set_option maxRecDepth 8000 in
set_option maxHeartbeats 4000000 in
theorem order1_ex (x y : Tr.Ed) (w : World) : Calls Try.prog 101 #[edv x, edv y] w fun e w' => e = .returned (.int .i64 (cmpI x.x.k y.x.k)) ∧ ∃ o1 o2, w' = (w.alloc o1).alloc o2 := by
  have N1 := Lib.hid (fun u => compare_any x.x.k y.x.k u)
  dsimp only [edv]
  go_enter Try.func101, Try.ntmps101
  go_wp2_with (go_at_call 102; (with_reducible refine (N1.out _).mono ?_); rintro e w2 ⟨rfl, rfl⟩)
  go_ret
  exact ⟨rfl, _, _, rfl⟩

theorem cmp_ok (l : List Tr.Ed) (w : World) (blk N : Nat) : Cmp (ix l) (kx l) 101 #[] w blk N := by
  refine ⟨enters_of Try.func101 (by kernel_rfl) rfl, fun m os dk _ x y => ?_⟩
  refine (order1_ex (ex l x) (ex l y) _).mono ?_
  rintro e w' ⟨rfl, o1, o2, rfl⟩
  refine ⟨rfl, 0, #[o1, o2], ?_⟩
  rw [alloc_eq_grow, alloc_eq_grow, grow_grow]; rfl

theorem sort_own {w : World} {B : Nat} {A : Option Addr} {c n : Nat} {l : List Tr.Ed} (own : w.ownsRow B 146 6 (.slice A n c) n (edcs l)) (hl : l.length = n) (hn : 0 < n) (few : n ≤ 100000) :
    Calls Try.prog 100 #[.slice A n c, .func (.func 101) #[] #[]] w fun e w' => e = .returned (.tuple #[]) ∧ Sl w' w'.heap.size A (edcs (Tr.sortE l)) ∧ Chg (fun b => (Value.slice A n c).ownBlock = some b) w w' := by
  have hle := edcs_len l
  obtain ⟨g, cap, cur, hv, hbg, hgw, hncap, hcm, hsz, hcur⟩ := own.2.resolve_left (fun h => by omega)
  injection hv with hA _ _
  subst hA
  have hglt : g < w.heap.size := (Array.getElem?_eq_some_iff.1 hgw).1
  have hH : HoldsK (ix l) 6 w g 0 (List.range n).toArray := by
    intro j hj
    have hj' : j < n * 6 := by simpa using hj
    have hf := flat_at l (List.range n) (j := j) (by simpa using hj')
    have hm : (List.range n).map (ex l) = l := by rw [← hl]; exact map_range l
    rw [hm] at hf
    refine ⟨?_, own.frozenAt _⟩
    rw [Nat.zero_add, own.cellAt _ hj', hf]; rfl
  have R : RowK (ix l) 6 w g 0 (List.range n).toArray := ⟨ix_len l, ix_one l, hH, hglt⟩
  have s : Srt (ix l) w g n := ⟨⟨_, by simp, R⟩, few⟩
  refine (sort_any s (cmp_ok l w g n) c (List.range n) List.pairwise_lt_range (by simp) w (SWK.start hH)).mono ?_
  rintro e w' ⟨rfl, Z, hZ, hp, hw⟩
  have hZl : Z.length = n := by rw [hZ.length_eq]; simp
  have hch := sorted_chg hw
  have hmap : Z.map (ex l) = Tr.sortE l := sorted_is (by rw [hl]; exact hZ) hp
  have hH2 := SWK.holds hw hglt hH (by simp [hZl])
  refine ⟨rfl, .inr ⟨g, 0, rfl, Nat.lt_of_lt_of_le hglt hch.size, fun i hi => ?_⟩, hch.mono fun b hb => by rw [hb]; rfl⟩
  have hi' : i < Z.length * 6 := by rw [← hmap, edcs_len, List.length_map] at hi; omega
  have hf := flat_at l Z hi'
  rw [hmap, List.getElem?_eq_getElem hi] at hf
  injection hf with hf
  rw [(hH2 i (by simpa using hi')).1, hf]; rfl
end Go.Proofs.Ytlcchefiicalpaa.Srt6
