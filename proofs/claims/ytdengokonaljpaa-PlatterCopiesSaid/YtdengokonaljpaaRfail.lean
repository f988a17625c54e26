/- The document's platter: what Fail does. -/
import Derived.Test.YtdengokonaljpaaRcrash
namespace Go.Proofs.Ytdengokonaljpaa
open Go.RowKit

/-- Fail: the state behind it. -/
def PSt.plans (st : PSt) (l : List (Int × Int)) : PSt := { st with plan := l, since := fun _ => 0 }

theorem planCells_length : ∀ l : List (Int × Int), (planCells l).length = l.length * 2
  | [] => rfl
  | f :: r => by
    show (planCells r).length + 1 + 1 = _
    rw [planCells_length r, List.length_cons]; omega
theorem planCells_one : ∀ l : List (Int × Int), ∀ u ∈ planCells l, u.oneCell' = true
  | [], u, h => by simp [planCells] at h
  | f :: r, u, h => by
    simp only [planCells, List.mem_cons] at h
    rcases h with rfl | rfl | h
    · rfl
    · rfl
    · exact planCells_one r u h
theorem fault_info : (Try.prog.info? 92).map (fun i => (i.zero, i.size, i.bytes)) = some (some (.agg #[.int .i64 0, .int .i64 0]), 2, 16) := by kernel_rfl
theorem fault_parts : ∃ i, Try.prog.info? 92 = some i ∧ i.zero = some (.agg #[.int .i64 0, .int .i64 0]) ∧ i.size = 2 ∧ i.bytes = 16 := by
  obtain ⟨i, hi, hh⟩ := Option.map_eq_some_iff.1 fault_info
  simp only [Prod.mk.injEq] at hh
  exact ⟨i, hi, hh.1, hh.2.1, hh.2.2⟩

set_option maxHeartbeats 4000000 in
theorem rfail_any (g : Nat) (st : PSt) (F : Nat → Prop) (w : World) (h : RefR w F g st)
    (B : Option Addr) (cap : Nat) (l : List (Int × Int)) (hl : l.length < 1000000) (hcap : l.length ≤ cap) (hB : B = none → cap = 0) (hsl : Sl w w.heap.size B (planCells l)) :
    Calls Try.prog 17 #[.pointer (some ⟨g, 0, none⟩), .slice B l.length cap] w fun e w' => e = .returned (.tuple #[]) ∧ RefR w' (Ext F w w') g (st.plans l) ∧ Chg F w w' := by
  obtain ⟨hF, hfg, Bv, Cv, Pv, bs, vs, hblk, hBr, hbs, hC, hvs, hP⟩ := h
  obtain ⟨i0, hi0, hz0, hs0, hb0⟩ := fault_parts
  have Hm := Lib.hid (planCells_length l)
  go_enter Try.func17, Try.ntmps17
  go_wp2_with (
     at_builtin
     refine wpList_append_sls (w := _) (base := 0) (v := .slice none 0 0) (news := planCells l) rfl (.const (.slice none 0 0)) (.tmp 6) _ rfl Try.underlying33 hi0 hz0 hs0 hb0 rfl (by decide) rfl (World.ownsRow_nil _ _ _ _) rfl Hm.out hB hcap hsl (planCells_one l) (by unfold maxLen; omega) (by omega) (Nat.zero_le _) ?_
     intro v1 w1 hown1 hgr1 hbl1
     obtain ⟨A3, c3, rfl⟩ := own_slice hown1
     rw [Nat.zero_add] at hown1 hbl1
     have hblk1 := hblk.grown hgr1 (by simp [Value.ownBlock])
     have c2 : w1.cell? ⟨g, 2, none⟩ = some Pv := hblk1.cell 2
     have c7 : w1.cell? ⟨g, 7, none⟩ = some (num (st.since 0)) := hblk1.cell 7
     have c8 : w1.cell? ⟨g, 8, none⟩ = some (num (st.since 1)) := hblk1.cell 8
     have c9 : w1.cell? ⟨g, 9, none⟩ = some (num (st.since 2)) := hblk1.cell 9
     have c10 : w1.cell? ⟨g, 10, none⟩ = some (num (st.since 3)) := hblk1.cell 10
     have f2 := hblk1.frozen 2
     have f7 := hblk1.frozen 7
     have f8 := hblk1.frozen 8
     have f9 := hblk1.frozen 9
     have f10 := hblk1.frozen 10)
  refine bodyPost_end (results_none rfl _ _ _) rfl ?_
  generalize hw' : ((((w1.setCell ⟨g, 2, none⟩ (.slice A3 l.length c3)).setCell ⟨g, 7, none⟩ (.int .i64 0)).setCell ⟨g, 8, none⟩ (.int .i64 0)).setCell ⟨g, 9, none⟩ (.int .i64 0)).setCell ⟨g, 10, none⟩ (.int .i64 0) = w'
  have hz' : w'.heap.size = w1.heap.size := by rw [← hw']; simp
  have hgz := hgr1.size
  have hmono : ∀ i, F i → Ext F w w' i := fun _ h => .inl h
  have far : ∀ {e n size : Nat} {u : Value} {xs : List Value}, Row w F e size u n xs → e ≠ 46 → Row w' (Ext F w w') e size u n xs := by
    intro e n size u xs hr he
    have a1 := hr.grown hgr1 (fun k _ => by simp [Value.ownBlock])
    have a2 := a1.set_far (p := ⟨g, 2, none⟩) (a1.ne_ hblk1 he) (.slice A3 l.length c3)
    have a3 := a2.set_far (p := ⟨g, 7, none⟩) (a1.ne_ hblk1 he) (.int .i64 0)
    have a4 := a3.set_far (p := ⟨g, 8, none⟩) (a1.ne_ hblk1 he) (.int .i64 0)
    have a5 := a4.set_far (p := ⟨g, 9, none⟩) (a1.ne_ hblk1 he) (.int .i64 0)
    have a6 := a5.set_far (p := ⟨g, 10, none⟩) (a1.ne_ hblk1 he) (.int .i64 0)
    rw [hw'] at a6
    exact a6.mono hmono
  have hP' : Row w' (Ext F w w') 92 2 (.slice A3 l.length c3) l.length (planCells l) := by
    have a1 : Row w1 (fun i => w.heap.size ≤ i ∧ i < w'.heap.size) 92 2 (.slice A3 l.length c3) l.length (planCells l) := by
      refine ⟨by simpa using hown1, fun k hk => ?_⟩
      rcases hbl1 with e | e
      · rw [e] at hk; simp [Value.ownBlock] at hk
      · rw [e] at hk; injection hk with hk; subst hk; exact ⟨Nat.le_refl _, by rw [hz']; exact (hown1.lt _ e).2⟩
    have a2 := a1.set_far (p := ⟨g, 2, none⟩) (a1.ne_ hblk1 (by decide)) (.slice A3 l.length c3)
    have a3 := a2.set_far (p := ⟨g, 7, none⟩) (a1.ne_ hblk1 (by decide)) (.int .i64 0)
    have a4 := a3.set_far (p := ⟨g, 8, none⟩) (a1.ne_ hblk1 (by decide)) (.int .i64 0)
    have a5 := a4.set_far (p := ⟨g, 9, none⟩) (a1.ne_ hblk1 (by decide)) (.int .i64 0)
    have a6 := a5.set_far (p := ⟨g, 10, none⟩) (a1.ne_ hblk1 (by decide)) (.int .i64 0)
    rw [hw'] at a6
    exact a6.mono fun _ h => .inr h
  refine ⟨rfl, ⟨ext_lt hF (by omega), .inl hfg, Bv, Cv, .slice A3 l.length c3, bs, vs, ?_, far hBr (by decide), ⟨hbs.1, fun i v l hv hl => ⟨(hbs.2 i v l hv hl).1, (hbs.2 i v l hv hl).2.1, far (hbs.2 i v l hv hl).2.2 (by decide)⟩⟩, far hC (by decide), ⟨hvs.1, fun i v l hv hl => ⟨(hvs.2 i v l hv hl).1, (hvs.2 i v l hv hl).2.1, far (hvs.2 i v l hv hl).2.2 (by decide)⟩⟩, hP'⟩, ?_⟩
  · rw [← hw']
    exact ((((hblk1.set_ 2 _).set_ 7 _).set_ 8 _).set_ 9 _).set_ 10 _
  · rw [← hw']
    exact ((((((Chg.refl F w).grown hgr1 (fun k hk => by simp [Value.ownBlock] at hk)).setCell (.inl hfg) _).setCell (.inl hfg) _).setCell (.inl hfg) _).setCell (.inl hfg) _).setCell (.inl hfg) _

end Go.Proofs.Ytdengokonaljpaa
