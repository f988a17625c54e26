/- Rows of ints: cloned, made. -/
import Derived.Test.YtnkgcibdibgmjaaDkr
import Derived.Test.YtnkgcibdibgmjaaLaw
import Derived.Deep.OwnRows
namespace Go.Proofs.Ytnkgcibdibgmjaa
open Go.RowKit

theorem int_info : (Try.prog.info? 3).map (fun i => (i.zero, i.size, i.bytes)) = some (some (.int .i64 0), 1, 8) := by kernel_rfl
theorem int_row : ∃ i : TypeInfo, Try.prog.info? 3 = some i ∧ i.zero = some (.int .i64 0) ∧ i.size = 1 ∧ i.bytes = 8 := by
  obtain ⟨i, hi, hh⟩ := Option.map_eq_some_iff.1 int_info
  simp only [Prod.mk.injEq] at hh
  exact ⟨i, hi, hh.1, hh.2.1, hh.2.2⟩
theorem ints_one' (l : List Int) : ∀ u ∈ l.map (Value.int .i64), u.oneCell' = true := by
  intro u hu
  obtain ⟨z, _, rfl⟩ := List.mem_map.1 hu
  rfl
theorem eql_slice_nil {P : Program} (w : World) (t e : TypeId) (a : Option Addr) (l c : Nat) (h : P.underlying t = some (.slice e)) : (binOp .eql t (.slice a l c) (.slice none 0 0)).run P w = .ok (.bool a.isNone) w := by
  simp only [binOp]
  simp [run_equal_slice_nil w t e a l c h]

set_option maxHeartbeats 2000000 in
/-- slices.Clone at ints: the same in new memory. -/
theorem iclone_any (a : Addr) (cap : Nat) (l : List Int) (n : Nat) (hn : l.length = n) (w : World) {B : Nat} (hsl : Sl w B (some a) (l.map (Value.int .i64))) (hB : B ≤ w.heap.size) (hcap : n ≤ cap) (hlen : n ≤ 1000000) :
    Calls Try.prog 57 #[.slice (some a) n cap] w fun e w' => ∃ A c, e = .returned (.slice A n c) ∧ w'.ownsRow w.heap.size 3 1 (.slice A n c) n (l.map (Value.int .i64)) ∧ Below w.heap.size w w' := by
  obtain ⟨i0, hi0, hz0, hs0, hb0⟩ := int_row
  have hl : (l.map (Value.int .i64)).length = n := by rw [List.length_map, hn]
  have hq := fun w => eql_slice_nil (P := Try.prog) w 74 3 (some a) n cap Try.underlying74
  rw [show (some a : Option Addr).isNone = false from rfl] at hq
  have hown := own_empty (e := 3) (size := 1) w
  have hal : Below w.heap.size w (w.alloc (.cells #[] 3)) := (Below.refl _ _).alloc (Nat.le_refl _) _
  have hsl' : Sl (w.alloc (.cells #[] 3)) B (some a) (l.map (Value.int .i64)) := hsl.below (hal.mono hB)
  have H1 := Lib.hid (ints_one' l)
  have Hl := Lib.hid hl
  clear hl hn
  go_enter Try.func57, Try.ntmps57
  go_wp2_with (at_builtin; refine wpList_append_sl (base := w.heap.size) _ rfl (.tmp 5) (.tmp 6) _ rfl Try.underlying74 hi0 hz0 hs0 hb0 rfl rfl hown rfl Hl.out.symm (by simp) hsl' H1.out (by rw [Hl.out]; exact hcap) (by rw [Hl.out]; unfold maxLen; omega) (by rw [Hl.out]; omega) hal.size ?_; intro v2 w2 hown2 hgr hbl)
  go_ret
  rw [Hl.out, Nat.zero_add, List.nil_append] at hown2
  obtain ⟨A2, c2, rfl⟩ := own_slice hown2
  exact ⟨A2, c2, rfl, hown2, hal.grown hgr hal.size (fun g hg => by injection hg with hg; subst hg; exact Nat.le_refl _)⟩
def icells (n : Nat) : Array Value := madeCells #[.int .i64 0] n
theorem make_ints (n : Nat) (hn : n ≤ 17592186044416) (w : World) :
    (Instr.makeSlice 74 (.int .i64 (n : Int)) (.int .i64 (n : Int))).run Try.prog w = .ok (.slice (some ⟨w.heap.size, 0, none⟩) n n) (w.alloc (.cells (icells n) 3)) :=
  run_make_row' _ _ _ 8 Try.underlying74 int_info rfl .i64 .i64 n (by omega) (by omega) w
theorem icells_ints (n : Nat) : icells n = ints (List.replicate n 0) := by
  apply Array.ext_getElem?
  intro i
  unfold icells madeCells ints
  rcases Nat.lt_or_ge i n with h | h
  · simp [h, Nat.mod_one]
  · simp [h]
end Go.Proofs.Ytnkgcibdibgmjaa
