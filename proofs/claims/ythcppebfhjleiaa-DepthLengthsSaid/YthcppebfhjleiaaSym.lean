/- The order of the byte values by their counts, and what a comparison of two of them says. -/
import Derived.Test.YthcppebfhjleiaaDrot
namespace Go.Proofs.Ythcppebfhjleiaa
open Go.RowKit Go.Shelf Go.Lib Go.Sort

/-- Byte values in their order: by counts, then by themselves. -/
def Tot (c : Fin 256 → Int) (x y : Fin 256) : Prop := c x < c y ∨ (c x = c y ∧ x.val < y.val)
theorem Tot.trans {c : Fin 256 → Int} {x y z : Fin 256} (h1 : Tot c x y) (h2 : Tot c y z) : Tot c x z := by unfold Tot at *; omega
theorem Tot.of_not {c : Fin 256 → Int} {x y : Fin 256} (hv : x.val < y.val) (h : ¬ c y < c x) : Tot c x y := by unfold Tot; omega
theorem Tot.of_lt {c : Fin 256 → Int} {x y : Fin 256} (h : c x < c y) : Tot c x y := .inl h
def cmpV (c : Fin 256 → Int) (x y : Fin 256) : Int := if c x < c y then -1 else if c y < c x then 1 else 0
theorem cmpV_neg (c : Fin 256 → Int) (x y : Fin 256) : decide (cmpV c x y < 0) = decide (c x < c y) := by
  unfold cmpV
  split
  · rename_i h; simp [h]
  · rename_i h; split <;> simp [h]

/-- What is asked of the comparison. -/
structure Cmp (c : Fin 256 → Int) (g : Nat) (cb : Array Value) (w0 : World) (blk N : Nat) : Prop where
  enter : ∀ args w, (callFunc g args).run Try.prog w = .ok (.enter g args) w
  lays : CmpLays1 Try.prog g cb encF (cmpV c) blk 0 N w0

section
variable {c : Fin 256 → Int} {g : Nat} {cb : Array Value} {w0 W : World} {blk N : Nat} {L : List (Fin 256)}
theorem Sl1.cmp (h : Sl1 w0 blk L W) (k : Cmp c g cb w0 blk N) (hL : L.length = N) (x y : Fin 256) (n : Nat) (os : Array Obj) :
    Calls Try.prog g (#[encF x, encF y] ++ cb) (grow (W.drewN n) os) fun e w' => e = .returned (.int .i64 (cmpV c x y)) ∧ ∃ q os', w' = grow ((grow (W.drewN n) os).drewN q) os' :=
  SW.cmp h k.lays (by simp; omega) x y n os
theorem Sl1.grown (h : Sl1 w0 blk L W) (n : Nat) (os : Array Obj) : Sl1 w0 blk L (grow (W.drewN n) os) := SW.grown h n os
end

/-- Where a search stands between lo and hi. -/
structure Se (f : Nat → Bool) (lo hi i j : Nat) : Prop where
  l1 : lo ≤ i
  mid : i ≤ j
  l2 : j ≤ hi
  yes : i = lo ∨ f (i - 1) = true
  no : j = hi ∨ f j = false
theorem Se.start (f : Nat → Bool) {lo hi : Nat} (h : lo ≤ hi) : Se f lo hi lo hi := ⟨Nat.le_refl _, h, Nat.le_refl _, .inl rfl, .inl rfl⟩
theorem Se.up {f : Nat → Bool} {lo hi i j h : Nat} (s : Se f lo hi i j) (h1 : i ≤ h) (h2 : h < j) (hf : f h = true) : Se f lo hi (h + 1) j :=
  ⟨by have := s.l1; omega, by omega, s.l2, .inr (by simpa using hf), s.no⟩
theorem Se.down {f : Nat → Bool} {lo hi i j h : Nat} (s : Se f lo hi i j) (h1 : i ≤ h) (h2 : h < j) (hf : f h = false) : Se f lo hi i h :=
  ⟨s.l1, h1, by have := s.l2; omega, s.yes, .inr hf⟩

/-- One element set into a row that is in order. -/
theorem put_in {c : Fin 256 → Int} {Y : List (Fin 256)} {x : Fin 256} (hY : Y.Pairwise (Tot c)) {f : Nat → Bool} {lo i : Nat} (s : Se f lo (lo + Y.length) i i)
    (h1 : ∀ k (hk : k < Y.length), f (lo + k) = true → Tot c Y[k] x) (h2 : ∀ k (hk : k < Y.length), f (lo + k) = false → Tot c x Y[k]) :
    (Y.take (i - lo) ++ x :: Y.drop (i - lo)).Pairwise (Tot c) := by
  have hlo := s.l1
  have hhi := s.l2
  obtain ⟨k, rfl⟩ : ∃ k, i = lo + k := ⟨i - lo, by omega⟩
  rw [show lo + k - lo = k by omega]
  have hp : ∀ u v (hu : u < Y.length) (hv : v < Y.length), u < v → Tot c Y[u] Y[v] := fun u v hu hv huv => List.pairwise_iff_getElem.1 hY u v hu hv huv
  have hA : ∀ u (hu : u < Y.length), u < k → Tot c Y[u] x := by
    intro u hu huk
    have hy := s.yes.resolve_left (by omega)
    rw [show lo + k - 1 = lo + (k - 1) by omega] at hy
    have h0 := h1 (k - 1) (by omega) hy
    rcases Nat.lt_or_ge u (k - 1) with h | h
    · exact (hp u (k - 1) hu (by omega) h).trans h0
    · obtain rfl : u = k - 1 := by omega
      exact h0
  have hB : ∀ u (hu : u < Y.length), k ≤ u → Tot c x Y[u] := by
    intro u hu huk
    have hn := s.no.resolve_left (by omega)
    have h0 := h2 k (by omega) hn
    rcases Nat.lt_or_ge k u with h | h
    · exact h0.trans (hp k u (by omega) hu h)
    · obtain rfl : k = u := by omega
      exact h0
  rw [List.pairwise_append, List.pairwise_cons]
  refine ⟨hY.sublist (List.take_sublist _ _), ⟨?_, hY.sublist (List.drop_sublist _ _)⟩, ?_⟩
  · intro y hy
    obtain ⟨u, hu, rfl⟩ := List.mem_drop_iff_getElem.1 hy
    exact hB _ _ (by omega)
  · intro y hy z hz
    obtain ⟨u, hu, rfl⟩ := List.mem_take_iff_getElem.1 hy
    rcases List.mem_cons.1 hz with rfl | hz
    · exact hA _ _ (by omega)
    · obtain ⟨v, hv, rfl⟩ := List.mem_drop_iff_getElem.1 hz
      exact hp _ _ _ _ (by omega)
theorem half_is (i j : Nat) : ∃ h : Nat, ((i : Int) + (j : Int)) / 2 = (h : Int) ∧ h = (i + j) / 2 := ⟨(i + j) / 2, by omega, rfl⟩
end Go.Proofs.Ythcppebfhjleiaa
