/- The program's Copy: a platter of its own in the same state. -/
import Derived.Test.YtdengokonaljpaaDarg
import Derived.Shelf.SlMaps.Clone
import Derived.Laws.Externs
import Derived.Lib.LazyBuf
namespace Go.Proofs.Ytdengokonaljpaa
open Go.RowKit Go.Maps

theorem run_clone {w : World} {r : Nat} {es : Array MapEntry} {clock : Nat} (t : TypeId) (hb : w.heap[r]? = some (.map es clock)) :
    (callFunc 45 #[.iface t (.map (some r))]).run Try.prog w = .ok (.value (.iface t (.map (some w.heap.size)))) (w.alloc (.map es clock)) := by
  rw [run_callFunc_extern Try.func45 (by kernel_rfl) (by kernel_rfl) (by kernel_rfl) (e := Extern.MapsClone.clone) (by kernel_rfl), run_maps_clone_sl w t hb]
  rfl
set_option maxHeartbeats 400000 in
theorem cloneI_any (b : Nat) (es : Array MapEntry) (clock : Nat) (w : World) (hb : w.heap[b]? = some (.map es clock)) :
    Calls Try.prog 35 #[.map (some b)] w fun e w' => e = .returned (.map (some w.heap.size)) ∧ w' = w.alloc (.map es clock) := by
  have hq := fun w => run_eql_map_nil_sl (P := Try.prog) w 69 _ _ (some b) Try.underlying69
  have hc := run_clone 69 hb
  have ha := fun w v => run_typeAssert_map_sl (P := Try.prog) w 69 20 _ _ v Try.underlying69
  go_enter Try.func35, Try.ntmps35
  go_wp2_with fail
  go_ret
  exact ⟨rfl, rfl⟩
set_option maxHeartbeats 400000 in
theorem cloneF_any (b : Nat) (es : Array MapEntry) (clock : Nat) (w : World) (hb : w.heap[b]? = some (.map es clock)) :
    Calls Try.prog 36 #[.map (some b)] w fun e w' => e = .returned (.map (some w.heap.size)) ∧ w' = w.alloc (.map es clock) := by
  have hq := fun w => run_eql_map_nil_sl (P := Try.prog) w 70 _ _ (some b) Try.underlying70
  have hc := run_clone 70 hb
  have ha := fun w v => run_typeAssert_map_sl (P := Try.prog) w 70 20 _ _ v Try.underlying70
  go_enter Try.func36, Try.ntmps36
  go_wp2_with fail
  go_ret
  exact ⟨rfl, rfl⟩
set_option maxHeartbeats 400000 in
theorem cloneF_nil (w : World) :
    Calls Try.prog 36 #[.map none] w fun e w' => e = .returned (.map none) ∧ w' = w := by
  have hq := fun w => run_eql_map_nil_sl (P := Try.prog) w 70 _ _ none Try.underlying70
  go_enter Try.func36, Try.ntmps36
  go_wp2_with fail
  go_ret
  exact ⟨rfl, rfl⟩

theorem World.ownsRow_lit_any {e : TypeId} {size : Nat} (w : World) : (w.alloc (.cells #[] e)).ownsRow w.heap.size e size (.slice (some ⟨w.heap.size, 0, none⟩) 0 0) 0 [] :=
  ⟨by simp, .inr ⟨w.heap.size, 0, #[], rfl, Nat.le_refl _, heap_alloc_new w _, by simp⟩⟩
theorem run_eql_slice_nil {P : Program} (w : World) (t e : TypeId) (a : Option Addr) (l c : Nat) (h : P.underlying t = some (.slice e)) : (binOp .eql t (.slice a l c) (.slice none 0 0)).run P w = .ok (.bool a.isNone) w := by
  simp only [binOp]
  simp [run_equal_slice_nil w t e a l c h]
def ClonePost (w : World) (t : TypeId) (size n : Nat) (xs : List Value) (e : Ending) (w' : World) : Prop :=
  ∃ A' c', e = .returned (.slice A' n c') ∧ w'.ownsRow w.heap.size t size (.slice A' n c') n xs ∧ Below w.heap.size w w'
theorem own_none {w : World} {base : Nat} {e : TypeId} {size n c : Nat} {xs : List Value} (h : w.ownsRow base e size (.slice none n c) n xs) : n = 0 ∧ xs = [] ∧ c = 0 := by
  rcases h.2 with ⟨h', hn⟩ | ⟨g, cap, cur, h', _⟩
  · injection h' with _ _ hc
    refine ⟨hn, List.eq_nil_of_length_eq_zero ?_, hc⟩
    have := h.1
    rw [hn] at this
    simpa using this
  · injection h' with h' _ _; cases h'
theorem own_len {w : World} {base : Nat} {e : TypeId} {size n c : Nat} {A : Option Addr} {xs : List Value} (h : w.ownsRow base e size (.slice A n c) n xs) : n ≤ c := by
  rcases h.2 with ⟨h', hn⟩ | ⟨g, cap, cur, h', _, _, hnc, _⟩
  · omega
  · injection h' with _ _ hc; omega
theorem block_parts : ∃ i z, Try.prog.info? 79 = some i ∧ i.zero = some z ∧ i.size = 64 ∧ i.bytes = 64 ∧ z.cells.size = 64 := by
  have h : (Try.prog.info? 79).map (fun i => (i.zero.map (fun z => z.cells.size), i.size, i.bytes)) = some (some 64, 64, 64) := by kernel_rfl
  obtain ⟨i, hi, hh⟩ := Option.map_eq_some_iff.1 h
  simp only [Prod.mk.injEq] at hh
  obtain ⟨z, hz, hz2⟩ := Option.map_eq_some_iff.1 hh.1
  exact ⟨i, z, hi, hz, hh.2.1, hh.2.2, hz2⟩
theorem write_parts2 : ∃ i z, Try.prog.info? 82 = some i ∧ i.zero = some z ∧ i.size = 65 ∧ i.bytes = 72 ∧ z.cells.size = 65 := by
  have h : (Try.prog.info? 82).map (fun i => (i.zero.map (fun z => z.cells.size), i.size, i.bytes)) = some (some 65, 65, 72) := by kernel_rfl
  obtain ⟨i, hi, hh⟩ := Option.map_eq_some_iff.1 h
  simp only [Prod.mk.injEq] at hh
  obtain ⟨z, hz, hz2⟩ := Option.map_eq_some_iff.1 hh.1
  exact ⟨i, z, hi, hz, hh.2.1, hh.2.2, hz2⟩
set_option maxRecDepth 10000 in
set_option maxHeartbeats 1000000 in
theorem cloneB_any (A : Option Addr) (c n base : Nat) (xs : List Value) (w : World) (h : w.ownsRow base 79 64 (.slice A n c) n xs) (hn : n ≤ 1000000) (h1 : ∀ u ∈ xs, u.oneCell' = true) :
    Calls Try.prog 33 #[.slice A n c] w (ClonePost w 79 64 n xs) := by
  have hl := h.1
  cases A with
  | none =>
    obtain ⟨rfl, rfl, rfl⟩ := own_none h
    have hq := fun w => run_eql_slice_nil (P := Try.prog) w 67 _ none 0 0 Try.underlying67
    clear h hl
    go_enter Try.func33, Try.ntmps33
    go_wp2_with fail
    go_ret
    exact ⟨none, 0, rfl, World.ownsRow_nil _ _ _ _, Below.refl _ _⟩
  | some a =>
    obtain ⟨hs, _⟩ := sl_of_own h hl
    have hnc := own_len h
    have hq := fun w n c => run_eql_slice_nil (P := Try.prog) w 67 _ (some a) n c Try.underlying67
    obtain ⟨i0, z0, hi0, hz0, hs0, hb0, hzc⟩ := block_parts
    clear h
    go_enter Try.func33, Try.ntmps33
    go_wp2_with (at_builtin; refine wpList_append_sls (v := .slice (some ⟨w.heap.size, 0, none⟩) 0 0) (B := w.heap.size) _ rfl (.tmp 5) (.tmp 6) _ rfl Try.underlying67 hi0 hz0 hs0 hb0 hzc (by decide) rfl (World.ownsRow_lit_any w) rfl hl (by simp) hnc (hs.below ((Below.refl _ _).alloc (Nat.le_refl _) _)) h1 (by unfold maxLen; omega) (by omega) (by simp) ?_; intro v2 w2 hown hgr hbl)
    have hown' : w2.ownsRow w.heap.size 79 64 v2 n xs := by simpa using hown
    obtain ⟨A', c', rfl⟩ := own_slice hown'
    have hb2 : Below w.heap.size w w2 := ((Below.refl _ _).alloc (Nat.le_refl _) _).grown hgr (by simp) (fun k hk => own_is hk)
    have Ho := Lib.hid hown'
    have Hb := Lib.hid hb2
    clear hown hown' hgr hbl hb2
    go_wp2_with fail
    go_ret
    exact ⟨A', c', rfl, Ho.out, Hb.out⟩
set_option maxRecDepth 10000 in
set_option maxHeartbeats 1000000 in
theorem cloneC_any (A : Option Addr) (c n base : Nat) (xs : List Value) (w : World) (h : w.ownsRow base 82 65 (.slice A n c) n xs) (hn : n ≤ 1000000) (h1 : ∀ u ∈ xs, u.oneCell' = true) :
    Calls Try.prog 34 #[.slice A n c] w (ClonePost w 82 65 n xs) := by
  have hl := h.1
  cases A with
  | none =>
    obtain ⟨rfl, rfl, rfl⟩ := own_none h
    have hq := fun w => run_eql_slice_nil (P := Try.prog) w 68 _ none 0 0 Try.underlying68
    clear h hl
    go_enter Try.func34, Try.ntmps34
    go_wp2_with fail
    go_ret
    exact ⟨none, 0, rfl, World.ownsRow_nil _ _ _ _, Below.refl _ _⟩
  | some a =>
    obtain ⟨hs, _⟩ := sl_of_own h hl
    have hnc := own_len h
    have hq := fun w n c => run_eql_slice_nil (P := Try.prog) w 68 _ (some a) n c Try.underlying68
    obtain ⟨i0, z0, hi0, hz0, hs0, hb0, hzc⟩ := write_parts2
    clear h
    go_enter Try.func34, Try.ntmps34
    go_wp2_with (at_builtin; refine wpList_append_sls (v := .slice (some ⟨w.heap.size, 0, none⟩) 0 0) (B := w.heap.size) _ rfl (.tmp 5) (.tmp 6) _ rfl Try.underlying68 hi0 hz0 hs0 hb0 hzc (by decide) rfl (World.ownsRow_lit_any w) rfl hl (by simp) hnc (hs.below ((Below.refl _ _).alloc (Nat.le_refl _) _)) h1 (by unfold maxLen; omega) (by omega) (by simp) ?_; intro v2 w2 hown hgr hbl)
    have hown' : w2.ownsRow w.heap.size 82 65 v2 n xs := by simpa using hown
    obtain ⟨A', c', rfl⟩ := own_slice hown'
    have hb2 : Below w.heap.size w w2 := ((Below.refl _ _).alloc (Nat.le_refl _) _).grown hgr (by simp) (fun k hk => own_is hk)
    have Ho := Lib.hid hown'
    have Hb := Lib.hid hb2
    clear hown hown' hgr hbl hb2
    go_wp2_with fail
    go_ret
    exact ⟨A', c', rfl, Ho.out, Hb.out⟩
end Go.Proofs.Ytdengokonaljpaa
