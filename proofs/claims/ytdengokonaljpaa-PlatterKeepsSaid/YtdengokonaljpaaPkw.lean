/- The two arrays that PlatterKeeps keeps beside the platter. -/
import Derived.Test.YtdengokonaljpaaPkp
import Derived.Test.YtdengokonaljpaaPawake
namespace Go.Proofs.Ytdengokonaljpaa
open Go.RowKit Go.Maps

/-- What the first eight blocks are to hold. -/
def nowL (ws : List Nat) (f : Nat → Bool) (i : Nat) : List Nat := (List.range 8).map fun n => kw ws f n i
theorem nowL_length (ws : List Nat) (f : Nat → Bool) (i : Nat) : (nowL ws f i).length = 8 := by simp [nowL]
theorem nowL_get (ws : List Nat) (f : Nat → Bool) (i : Nat) {n : Nat} (h : n < 8) : (nowL ws f i)[n]? = some (kw ws f n i) := by
  unfold nowL
  rw [List.getElem?_map, List.getElem?_range h]; rfl
theorem nowL_zero (ws : List Nat) (f : Nat → Bool) : nowL ws f 0 = List.replicate 8 0 := rfl
theorem nowL_yes {ws : List Nat} {f : Nat → Bool} {i : Nat} (h : f i = true) : (nowL ws f i).set (kn ws i) (i + 1) = nowL ws f (i + 1) := by
  refine List.ext_getElem? fun n => ?_
  by_cases hn : n < 8
  · rw [nowL_get _ _ _ hn, kw]
    by_cases e : kn ws i = n
    · rw [e, List.getElem?_set_self (by rw [nowL_length]; exact hn), if_pos ⟨rfl, h⟩]
    · rw [List.getElem?_set_ne e, nowL_get _ _ _ hn, if_neg (fun x => e x.1)]
  · rw [List.getElem?_eq_none (by rw [List.length_set, nowL_length]; omega), List.getElem?_eq_none (by rw [nowL_length]; omega)]
theorem nowL_no {ws : List Nat} {f : Nat → Bool} {i : Nat} (h : f i = false) : nowL ws f i = nowL ws f (i + 1) := by
  unfold nowL
  refine List.map_congr_left fun n _ => ?_
  rw [kw, if_neg (fun x => by rw [h] at x; cases x.2)]
theorem kn_lt (ws : List Nat) (j : Nat) : kn ws j < 8 := Nat.mod_lt _ (by decide)

section
variable {B : Nat} {w w' : World} {p : Nat} {st : PSt} {ks : List (Nat × List Nat)}
/-- A byte of a kept block is stored into. -/
theorem At.set_ {g : Nat} {l : List Nat} (h : At B w p st ((g, l) :: ks)) (hB : B ≤ g) (hn : ∀ x ∈ ks, x.1 ≠ g) (i v : Nat) : At B (w.setCell ⟨g, i, none⟩ (.int .u8 (v : Int))) p st ((g, l.set i v) :: ks) ∧ Below B w (w.setCell ⟨g, i, none⟩ (.int .u8 (v : Int))) := by
  obtain ⟨hBw, F, hd, hF, hk⟩ := h
  obtain ⟨t, h1, h2⟩ := hk _ (List.mem_cons_self ..)
  have far : ∀ b, b ≠ g → (w.setCell ⟨g, i, none⟩ (.int .u8 (v : Int))).heap[b]? = w.heap[b]? := fun b hb => Below.heap_setCell _ _ _ _ (by exact hb)
  have hz : (w.setCell ⟨g, i, none⟩ (.int .u8 (v : Int))).heap.size = w.heap.size := by simp
  refine ⟨⟨by rw [hz]; exact hBw, F, hd.keep (by rw [hz]; exact Nat.le_refl _) (fun b hb => far b (fun e => h2 (e ▸ hb))), hF, fun x hx => ?_⟩, (Below.refl _ _).setCell (by exact hB) _⟩
  rcases List.mem_cons.1 hx with rfl | hx
  · refine ⟨t, ?_, h2⟩
    have := h1.set_ i (.int .u8 (v : Int))
    rw [List.setIfInBounds_toArray, show (byts l).set i (.int .u8 (v : Int)) = byts (l.set i v) by unfold byts; rw [List.map_set]] at this
    exact this
  · obtain ⟨t', h1', h2'⟩ := hk x (List.mem_cons_of_mem _ hx)
    exact ⟨t', h1'.keep (far _ (hn x hx)), h2'⟩
theorem At.cell_ {g : Nat} {l : List Nat} (h : At B w p st ks) (hm : (g, l) ∈ ks) {i v : Nat} (hv : l[i]? = some v) : w.cell? ⟨g, i, none⟩ = some (.int .u8 (v : Int)) := by
  obtain ⟨_, _, _, _, hk⟩ := h
  obtain ⟨t, h1, _⟩ := hk _ hm
  rw [h1.cell]
  simp [byts, hv]
theorem At.fz_ {g : Nat} {l : List Nat} (h : At B w p st ks) (hm : (g, l) ∈ ks) (i : Nat) : w.frozen? ⟨g, i, none⟩ = false := by
  obtain ⟨_, _, _, _, hk⟩ := h
  obtain ⟨t, h1, _⟩ := hk _ hm
  exact h1.frozen i
theorem At.zeros (h : At B w p st ks) (t : TypeId) : At B (w.alloc (.cells #[.int .u8 0, .int .u8 0, .int .u8 0, .int .u8 0, .int .u8 0, .int .u8 0, .int .u8 0, .int .u8 0] t)) p st ((w.heap.size, List.replicate 8 0) :: ks) :=
  h.more ((Below.refl _ _).alloc (Nat.le_refl _) _) (Nat.le_refl _) (Blk.new w t _)
/-- A block of one byte is made, behind a draw; what is kept reads as it did. -/
theorem full_kept (h : At B w p st ks) {v : Nat} {m1 : Nat} (hm : (m1, all64 v) ∈ ks) {g : Nat} {l : List Nat} (hg : (g, l) ∈ ks) {r u : Nat} (hr : l[r]? = some u) {s : ByteArray} (hs : str (all64 v) = s) :
    Calls Try.prog 19 #[.int .u8 (v : Int)] w.drew fun e w' => e = .returned (.slice (some ⟨w.heap.size, 0, none⟩) 64 64) ∧ At B w' p st ks ∧ Below B w w' ∧
      (convert 49 9 (.slice (some ⟨w.heap.size, 0, none⟩) 64 64)).run Try.prog w' = .ok (.string s) w' ∧ (convert 49 9 (.slice (some ⟨m1, 0, none⟩) 64 64)).run Try.prog w' = .ok (.string s) w' ∧ w'.cell? ⟨g, r, none⟩ = some (.int .u8 (u : Int)) := by
  subst hs
  refine (at_full h.drew v).mono ?_
  rintro e w' ⟨rfl, hA, hb⟩
  have hA' : At B w' p st ((w.heap.size, all64 v) :: ks) := hA
  exact ⟨rfl, hA'.less (fun x hx => List.mem_cons_of_mem _ hx), ((Below.refl _ _).drew).trans hb, at_conv hA' (List.mem_cons_self ..) (all64_length v), at_conv hA' (List.mem_cons_of_mem _ hm) (all64_length v), hA'.cell_ (List.mem_cons_of_mem _ hg) hr⟩
end

end Go.Proofs.Ytdengokonaljpaa
