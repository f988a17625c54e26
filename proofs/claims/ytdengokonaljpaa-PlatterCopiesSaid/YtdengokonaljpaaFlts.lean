/- The statements' Faults: a list of planned faults, as the program has them. -/
import Derived.Test.YtdengokonaljpaaDuo
import Derived.Test.YtdengokonaljpaaRfail
import Derived.Deep.RegionLaw
namespace Go.Proofs.Ytdengokonaljpaa
open Go.RowKit Go.Maps

theorem flt_parts : ∃ i, Try.prog.info? 58 = some i ∧ i.zero = some (.agg #[.int .i64 0, .int .i64 0]) ∧ i.size = 2 ∧ i.bytes = 16 := by
  have h : (Try.prog.info? 58).map (fun i => (i.zero, i.size, i.bytes)) = some (some (.agg #[.int .i64 0, .int .i64 0]), 2, 16) := by kernel_rfl
  obtain ⟨i, hi, hh⟩ := Option.map_eq_some_iff.1 h
  simp only [Prod.mk.injEq] at hh
  exact ⟨i, hi, hh.1, hh.2.1, hh.2.2⟩
theorem planCells_append : ∀ (l m : List (Int × Int)), planCells (l ++ m) = planCells l ++ planCells m
  | [], _ => rfl
  | f :: l, m => by
    show _ :: _ :: planCells (l ++ m) = _
    rw [planCells_append l m]; rfl
theorem planCells_next {l : List (Int × Int)} {j : Nat} (h : j < l.length) : planCells (l.take (j + 1)) = planCells (l.take j) ++ [.int .i64 l[j].1, .int .i64 l[j].2] := by
  rw [List.take_succ_eq_append_getElem h, planCells_append]; rfl
theorem own_below {w w' : World} {base : Nat} {e : TypeId} {size n : Nat} {v : Value} {xs : List Value} (h : w.ownsRow base e size v n xs) (hb : Below w.heap.size w w') : w'.ownsRow base e size v n xs := by
  refine ⟨h.1, ?_⟩
  rcases h.2 with h0 | ⟨g, cap, cur, hv, hbs, hg, rest⟩
  · exact .inl h0
  · refine .inr ⟨g, cap, cur, hv, hbs, ?_, rest⟩
    rw [hb.block g (by
      rcases Nat.lt_or_ge g w.heap.size with hlt | hge
      · exact hlt
      · rw [Array.getElem?_eq_none hge] at hg; cases hg)]
    exact hg
def FltPost (w : World) (l : List (Int × Int)) (e : Ending) (w' : World) : Prop := ∃ v, e = .returned v ∧ w'.ownsRow w.heap.size 58 2 v l.length (planCells l) ∧ Below w.heap.size w w'

set_option maxHeartbeats 1000000 in
theorem faults_any (K : Option Addr) (cap : Nat) (l : List (Int × Int)) (hl : l.length ≤ 20) (w : World) (hsl : Sl w w.heap.size K (planCells l)) :
    Calls Try.prog 31 #[.slice K l.length cap] w (FltPost w l) := by
  obtain ⟨i0, hi0, hz0, hs0, hb0⟩ := flt_parts
  go_enter Try.func31, Try.ntmps31
  go_wp2_with fail
  go_loopw [3, 4] (fun v i wr => ∃ j : Nat, j ≤ l.length ∧ i = .int .i64 j ∧ wr.ownsRow w.heap.size 58 2 v j (planCells (l.take j)) ∧ Below w.heap.size w wr) (fun _ i _ => l.length - (intOf i).toNat)
  case atStart => exact ⟨0, by omega, rfl, World.ownsRow_nil _ _ _ _, Below.refl _ _⟩
  case round =>
    obtain ⟨j, hj, rfl, hrow, hbr⟩ := hrel
    by_cases hlt : j < l.length
    · obtain ⟨bk, ok, rfl, hbk, hc⟩ := (hsl.below hbr).at_ (i := j * 2) (by rw [planCells_length]; omega)
      have hbk' : bk < wr.heap.size := Nat.lt_of_lt_of_le hbk hbr.size
      obtain ⟨p1, p2⟩ := planCells_at hlt
      have c1 : wr.cell? ⟨bk, ok + j * 2, none⟩ = some (.int .i64 l[j].1) := by
        rw [hc (j * 2) (by rw [planCells_length]; omega), ← p1, List.getElem?_eq_getElem]
      have c2 : wr.cell? ⟨bk, ok + j * 2 + 1, none⟩ = some (.int .i64 l[j].2) := by
        rw [show ok + j * 2 + 1 = ok + (j * 2 + 1) by omega, hc (j * 2 + 1) (by rw [planCells_length]; omega), ← p2, List.getElem?_eq_getElem]
      have Hn := Lib.hid (planCells_next hlt)
      have HR := Lib.hid hrow
      have HRO := Lib.hid (fun w' (h : Below wr.heap.size wr w') => own_below HR.out h)
      have HB := Lib.hid hbr
      generalize l[j].1 = a at *
      generalize l[j].2 = b at *
      clear hc p1 p2 hrow hbr
      go_wp2_with fail
      go_region_law (first
        | (refine step_append_at (w := _) (base := w.heap.size) (size := 2) (v := u3) (m := 1) (news := [.int .i64 a, .int .i64 b]) rfl (.tmp 11) (.tmp 23) _ rfl Try.underlying59 hi0 hz0 hs0 hb0 rfl (by decide) rfl (HRO.out _ (by go_grown)) rfl rfl (fun j u hu => by rw [World.cell?_drew, cell_fresh rfl]; simpa using hu) (by simp [Value.oneCell']) (by unfold maxLen; omega) (by omega) (by have := HB.out.size; simp; omega) ?_
           intro v3 w3 hown3 hgr3 hbl3))
      all_goals
        go_wp2_with fail
        go_roundw
        case rel => exact ⟨j + 1, by omega, by go_num, by rw [Hn.out]; exact hown3, (HB.out.trans ((((Below.refl _ _).alloc (Nat.le_refl _) _).drew).mono HB.out.size)).grown hgr3 (by simp; have := HB.out.size; omega) (fun k hk => (HR.out.lt k hk).1)⟩
        case measure => simp [intOf]; omega
    · have hjl : j = l.length := by omega
      subst hjl
      have qd : decide (l.length < l.length) = false := by simp
      rw [List.take_length] at hrow
      have HR := Lib.hid hrow
      have HB := Lib.hid hbr
      clear hrow hbr
      go_wp2_with fail
      go_ret
      exact ⟨_, rfl, HR.out, HB.out⟩
end Go.Proofs.Ytdengokonaljpaa
