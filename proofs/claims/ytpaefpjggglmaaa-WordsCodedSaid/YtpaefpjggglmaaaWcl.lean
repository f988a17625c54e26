/- WordsCoded's bytes and lengths, in memory. -/
import Derived.Test.YtpaefpjggglmaaaWcs
import Derived.Test.YtpaefpjggglmaaaWcdd
import Derived.Test.YtpaefpjggglmaaaWc
namespace Go.Proofs.Ytpaefpjggglmaaa
open Go.RowKit

def symV (sy : List Nat) : List Value := sy.map fun x => Value.int .i64 ((x : Nat) : Int)
/-- The lengths in block g, the bytes that have words in a row of the call's own. -/
structure WS (w1 w : World) (t : TypeId) (g : Nat) (A : Option Addr) (m c : Nat) (sy : List Nat) (k : Nat) : Prop where
  bel : Below g w1 w
  blk : Blk w g t (ints (Wd.lwK sy k))
  own : w.ownsRow (g + 1) 3 1 (.slice A m c) m (symV sy)
  len : sy.length = m
  few : m ≤ 12
  nodup : sy.Nodup
  lt : ∀ x ∈ sy, x < 256
section
variable {w1 w w' : World} {t : TypeId} {g m c k : Nat} {A : Option Addr} {sy : List Nat}
theorem WS.gl (h : WS w1 w t g A m c sy k) : g < w.heap.size := h.blk.lt
theorem WS.below (h : WS w1 w t g A m c sy k) (hb : Below w.heap.size w w') : WS w1 w' t g A m c sy k :=
  ⟨h.bel.trans (hb.mono (Nat.le_of_lt h.gl)), h.blk.keep (hb.block g h.gl), own_keep h.own fun b _ hlt => hb.block b hlt, h.len, h.few, h.nodup, h.lt⟩
theorem WS.sym (h : WS w1 w t g A m c sy k) {i : Nat} (hi : i < m) : ∃ b, A = some ⟨b, 0, none⟩ ∧ w.cell? ⟨b, i, none⟩ = some (.int .i64 ((sy.getD i 0 : Nat) : Int)) ∧ sy.getD i 0 < 256 := by
  have hi' : i < sy.length := by rw [h.len]; exact hi
  obtain ⟨b, o, e, _, hc⟩ := (Sl.of_own h.own).at_ (i := i) (by unfold symV; rw [List.length_map]; exact hi')
  have hA : o = 0 := by
    rcases h.own.2 with ⟨h', h0⟩ | ⟨g', cap, cur, h', _⟩
    · omega
    · injection h' with h' _ _; rw [e] at h'; injection h' with h'; injection h'
  subst hA
  refine ⟨b, e, ?_, h.lt _ (Wd.mem_at hi')⟩
  have := hc i (by unfold symV; rw [List.length_map]; exact hi')
  rw [Nat.zero_add] at this
  rw [this]
  unfold symV
  rw [List.getElem_map, List.getD_eq_getElem?_getD, List.getElem?_eq_getElem hi']
  rfl
theorem WS.at_ (h : WS w1 w t g A m c sy k) {x : Nat} (hx : x < 256) : w.cell? ⟨g, x, none⟩ = some (.int .i64 ((Wd.lwK sy k).getD x 0)) := by
  rw [h.blk.cell, ints_at (by rw [Wd.lwK_len]; exact hx)]
theorem WS.far (h : WS w1 w t g A m c sy k) : (Value.slice A m c).ownBlock ≠ some g := fun e => by have := (h.own.lt g e).1; omega
/-- A byte's length is set. -/
theorem WS.set_ (h : WS w1 w t g A m c sy k) (hk : k < m) : WS w1 (w.setCell ⟨g, sy.getD k 0, none⟩ (.int .i64 ((Wd.fS m k : Nat) : Int))) t g A m c sy (k + 1) := by
  refine ⟨h.bel.setCell (Nat.le_refl _) _, ?_, own_far h.own h.far _, h.len, h.few, h.nodup, h.lt⟩
  have := h.blk.set_ (sy.getD k 0) (.int .i64 ((Wd.fS m k : Nat) : Int))
  rw [ints_set, ← h.len, Wd.lwK_next h.nodup (by rw [h.len]; exact hk)] at this
  rw [← h.len]
  exact this
/-- A byte more. -/
theorem WS.mark (h : WS w1 w t g A m c sy 0) {y : Nat} (hy : y < 256) (hn : y ∉ sy) (hm : m < 12) {o : Obj} {v' : Value} (hown : w'.ownsRow (g + 1) 3 1 v' (m + 1) (symV sy ++ [.int .i64 (y : Int)])) (hg : ((w.setCell ⟨g, y, none⟩ (.int .i64 1)).alloc o).grownBy w' (Value.slice A m c).ownBlock) :
    ∃ A' c', v' = .slice A' (m + 1) c' ∧ WS w1 w' t g A' (m + 1) c' (sy ++ [y]) 0 := by
  obtain ⟨A', c', rfl⟩ := own_slice hown
  have hgl : g < (w.setCell ⟨g, y, none⟩ (.int .i64 1)).heap.size := by simpa using h.gl
  have hb : Below g w1 ((w.setCell ⟨g, y, none⟩ (.int .i64 1)).alloc o) := (h.bel.setCell (p := ⟨g, y, none⟩) (Nat.le_refl _) _).alloc (Nat.le_of_lt hgl) o
  have hs := h.blk.set_ y (.int .i64 1)
  rw [ints_set, Wd.lwK_mark] at hs
  refine ⟨A', c', rfl, hb.grown hg (by rw [World.size_alloc]; omega) (fun b e => by have := (h.own.lt b e).1; omega), (hs.alloc o).grown hg h.far, ?_, by rw [List.length_append, h.len]; rfl, by omega, ?_, ?_⟩
  · unfold symV at *; rw [List.map_append]; exact hown
  · rw [List.nodup_append]
    exact ⟨h.nodup, by simp, fun a ha b hb e => by rw [List.mem_singleton] at hb; subst hb; subst e; exact hn ha⟩
  · intro x hx
    rcases List.mem_append.1 hx with hx | hx
    · exact h.lt x hx
    · rw [List.mem_singleton] at hx; subst hx; exact hy
end
/-- The bytes that are packed. -/
def inV (sy : List Nat) (b : List Nat) : List Nat := b.map fun x => sy.getD (x % sy.length) 0
theorem inV_mem {sy : List Nat} (h : 0 < sy.length) (b : List Nat) : ∀ x ∈ inV sy b, x ∈ sy := by
  intro x hx
  unfold inV at hx
  obtain ⟨y, _, rfl⟩ := List.mem_map.1 hx
  exact Wd.mem_at (Nat.mod_lt _ h)
theorem inV_len (sy b : List Nat) : (inV sy b).length = b.length := List.length_map _
theorem inV_next (sy : List Nat) {b : List Nat} {i : Nat} (hi : i < b.length) : inV sy (b.take (i + 1)) = inV sy (b.take i) ++ [sy.getD (b.getD i 0 % sy.length) 0] := by
  unfold inV
  rw [List.take_add_one, List.getElem?_eq_getElem hi, List.map_append, List.getD_eq_getElem?_getD (l := b), List.getElem?_eq_getElem hi]
  rfl
theorem inV_at (sy : List Nat) {b : List Nat} {i : Nat} (hi : i < b.length) : (inV sy b).getD i 0 = sy.getD (b.getD i 0 % sy.length) 0 := by
  unfold inV
  rw [List.getD_eq_getElem?_getD, List.getElem?_map, List.getElem?_eq_getElem hi, List.getD_eq_getElem?_getD (l := b), List.getElem?_eq_getElem hi]
  rfl
/-- How many bits the first i bytes have. -/
def bitsK (l : List Int) (ss : List Nat) (i : Nat) : Nat := ((ss.take i).map fun x => (l.getD x 0).toNat).sum
theorem bitsK_next (l : List Int) {ss : List Nat} {i : Nat} (hi : i < ss.length) : bitsK l ss (i + 1) = bitsK l ss i + (l.getD (ss.getD i 0) 0).toNat := by
  unfold bitsK
  rw [List.take_add_one, List.getElem?_eq_getElem hi, List.map_append, List.sum_append, List.getD_eq_getElem?_getD (l := ss), List.getElem?_eq_getElem hi]
  simp
theorem bitsK_le (l : List Int) (ss : List Nat) (h : ∀ x ∈ ss, Wd.Has l x) : ∀ i, i ≤ ss.length → bitsK l ss i ≤ 11 * i
  | 0, _ => by simp [bitsK]
  | i + 1, hi => by
    have := bitsK_le l ss h i (by omega)
    have h1 := (h _ (Wd.mem_at (sy := ss) (k := i) (by omega))).most
    rw [bitsK_next l (by omega)]; omega
theorem bitsK_all (l : List Int) (ss : List Nat) : bitsK l ss ss.length = (ss.flatMap (Wd.wordOf l)).length := by
  unfold bitsK; rw [List.take_length, Wd.words_len]
end Go.Proofs.Ytpaefpjggglmaaa
