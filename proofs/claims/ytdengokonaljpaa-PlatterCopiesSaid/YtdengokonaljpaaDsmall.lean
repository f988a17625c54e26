/- The program's platter: the small methods. -/
import Derived.Test.YtdengokonaljpaaDop
namespace Go.Proofs.Ytdengokonaljpaa
open Go.RowKit Go.Maps

theorem has_any {w : World} {F : Nat → Prop} {g : Nat} {st : PSt} {Bv Cv : Value} {bm : Nat} {Pm : Option Nat} {D E : DataW Unit} (h : DevS w F g st Bv Cv bm Pm D E) (n : Int) :
    Calls Try.prog 40 #[.pointer (some ⟨g, 0, none⟩), .int .i64 n] w fun e w' => e = .returned (.bool (decide (0 ≤ n) && decide (n < (st.blocks.length : Int)))) ∧ w' = w := by
  obtain ⟨A, c, rfl, hnc, hA⟩ := h.B.form
  have c0 : w.cell? ⟨g, 0, none⟩ = some (.slice A st.blocks.length c) := h.blk.cell 0
  clear h
  cases h1 : decide (0 ≤ n) with
  | false =>
    go_enter Try.func40, Try.ntmps40
    go_wp2_with fail
    go_ret
    exact ⟨rfl, rfl⟩
  | true =>
    go_enter Try.func40, Try.ntmps40
    go_wp2_with fail
    go_ret
    exact ⟨rfl, rfl⟩
theorem kind_any (n : Int) (w : World) :
    Calls Try.prog 37 #[.int .i64 n] w fun e w' => e = .returned (.bool (decide (1 ≤ n) && decide (n ≤ 3))) ∧ w' = w := by
  cases h1 : decide (1 ≤ n) with
  | false =>
    go_enter Try.func37, Try.ntmps37
    go_wp2_with fail
    go_ret
    exact ⟨rfl, rfl⟩
  | true =>
    go_enter Try.func37, Try.ntmps37
    go_wp2_with fail
    go_ret
    exact ⟨rfl, rfl⟩
theorem dblocks {w : World} {F : Nat → Prop} {g : Nat} {st : PSt} (h : Dev w F g st) :
    Calls Try.prog 25 #[.pointer (some ⟨g, 0, none⟩)] w fun e w' => e = .returned (.int .i64 (st.blocks.length : Int)) ∧ w' = w := by
  obtain ⟨Bv, Cv, bm, Pm, D, E, h⟩ := h
  obtain ⟨A, c, rfl, hnc, hA⟩ := h.B.form
  have c0 : w.cell? ⟨g, 0, none⟩ = some (.slice A st.blocks.length c) := h.blk.cell 0
  go_enter Try.func25, Try.ntmps25
  go_wp2_with fail
  go_ret
  exact ⟨rfl, rfl⟩
theorem dcached {w : World} {F : Nat → Prop} {g : Nat} {st : PSt} (h : Dev w F g st) :
    Calls Try.prog 15 #[.pointer (some ⟨g, 0, none⟩)] w fun e w' => e = .returned (.int .i64 (st.cache.length : Int)) ∧ w' = w := by
  obtain ⟨Bv, Cv, bm, Pm, D, E, h⟩ := h
  obtain ⟨A, c, rfl, hnc, hA⟩ := h.C.form
  have c0 : w.cell? ⟨g, 1, none⟩ = some (.slice A st.cache.length c) := h.blk.cell 1
  go_enter Try.func15, Try.ntmps15
  go_wp2_with fail
  go_ret
  exact ⟨rfl, rfl⟩
def PSt.counted (st : PSt) (n : Int) : Int := if 1 ≤ n ∧ n ≤ 3 then (st.ops n.toNat : Int) else 0
theorem dcount {w : World} {F : Nat → Prop} {g : Nat} {st : PSt} (h : Dev w F g st) (n : Int) :
    Calls Try.prog 23 #[.pointer (some ⟨g, 0, none⟩), .int .i64 n] w fun e w' => e = .returned (.int .i64 (st.counted n)) ∧ w' = w := by
  obtain ⟨Bv, Cv, bm, Pm, D, E, h⟩ := h
  have hk := Lib.hid (kind_any n)
  by_cases hn : 1 ≤ n ∧ n ≤ 3
  · have hb : (decide (1 ≤ n) && decide (n ≤ 3)) = true := by simp; omega
    have hw : st.counted n = (st.ops n.toNat : Int) := by unfold PSt.counted; rw [if_pos hn]
    rw [hw]
    have c1 : w.cell? ⟨g, 5, none⟩ = some (.int .i64 (st.ops 1 : Int)) := h.blk.cell 5
    have c2 : w.cell? ⟨g, 6, none⟩ = some (.int .i64 (st.ops 2 : Int)) := h.blk.cell 6
    have c3 : w.cell? ⟨g, 7, none⟩ = some (.int .i64 (st.ops 3 : Int)) := h.blk.cell 7
    have hcases : n = 1 ∨ n = 2 ∨ n = 3 := by omega
    rcases hcases with rfl | rfl | rfl
    all_goals
      go_enter Try.func23, Try.ntmps23
      go_wp2_with (go_at_call 37; refine (hk.out _).mono ?_; rintro e w' ⟨rfl, rfl⟩)
      go_ret
      exact ⟨rfl, rfl⟩
  · have hb : (decide (1 ≤ n) && decide (n ≤ 3)) = false := by simp; omega
    have hw : st.counted n = 0 := by unfold PSt.counted; rw [if_neg hn]
    rw [hw]
    go_enter Try.func23, Try.ntmps23
    go_wp2_with (go_at_call 37; refine (hk.out _).mono ?_; rintro e w' ⟨rfl, rfl⟩; rw [hb])
    go_ret
    exact ⟨rfl, rfl⟩
end Go.Proofs.Ytdengokonaljpaa
