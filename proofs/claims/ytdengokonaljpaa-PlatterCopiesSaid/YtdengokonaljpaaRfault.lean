/- The document's platter: what counting an operation does. -/
import Derived.Test.YtdengokonaljpaaPst
import Derived.WalkSpells
import Derived.WalkLawsBesides
import Derived.Handy
import Derived.Lib.Hide
import Derived.BigQuiet
import Derived.IntWalk
namespace Go.Proofs.Ytdengokonaljpaa
open Go.RowKit

theorem bump_at (f : Nat → Nat) (k : Nat) : bump f k k = f k + 1 := by simp [bump]
theorem bump_ne (f : Nat → Nat) {k i : Nat} (h : i ≠ k) : bump f k i = f i := by simp [bump, h]

/-- Has none of the first j planned faults the kind k and the number n? -/
def missed (l : List (Int × Int)) (k n : Int) (j : Nat) : Prop := (l.take j).any (fun f => f.1 == k && f.2 == n) = false
theorem missed_next {l : List (Int × Int)} {k n : Int} {j : Nat} (h : missed l k n j) (hj : j < l.length) (hno : (l[j].1 == k && l[j].2 == n) = false) : missed l k n (j + 1) := by
  unfold missed at *
  rw [List.take_succ_eq_append_getElem hj, List.any_append, h]
  simpa using hno
theorem missed_end {l : List (Int × Int)} {k n : Int} (h : missed l k n l.length) : l.any (fun f => f.1 == k && f.2 == n) = false := by
  unfold missed at h; rwa [List.take_length] at h
theorem found {l : List (Int × Int)} {k n : Int} {j : Nat} (hj : j < l.length) (hy : (l[j].1 == k && l[j].2 == n) = true) : l.any (fun f => f.1 == k && f.2 == n) = true :=
  List.any_eq_true.2 ⟨l[j], List.getElem_mem _, hy⟩

theorem Held.cell2 {w : World} {F : Nat → Prop} {v : Value} {l : List Nat} (h : Held w F v l) {g : Nat} {t : TypeId} {cs : Array Value} (hg : Blk w g t cs) (hne : 5 ≠ t) (i : Nat) (u : Value) : Held (w.setCell ⟨g, i, none⟩ u) F v l :=
  ⟨h.1, h.2.1, h.2.2.set_far (h.2.2.ne_ hg hne) u⟩
theorem AllHeld.cell2 {w : World} {F : Nat → Prop} {vs : List Value} {ls : List (List Nat)} (h : AllHeld w F vs ls) {g : Nat} {cs : Array Value} (hg : Blk w g 46 cs) {i j : Nat} {u u' : Value} : AllHeld ((w.setCell ⟨g, i, none⟩ u).setCell ⟨g, j, none⟩ u').drew.drew F vs ls :=
  ⟨h.1, fun k v l hv hl => by
    have := (h.2 k v l hv hl).cell2 hg (by decide) i u
    have := this.cell2 (hg.set_ i u) (by decide) j u'
    exact ⟨this.1, this.2.1, this.2.2.drew.drew⟩⟩

theorem Held.drewN {w : World} {F : Nat → Prop} {v : Value} {l : List Nat} (h : Held w F v l) (n : Nat) : Held (w.drewN n) F v l := ⟨h.1, h.2.1, h.2.2.drewN n⟩
theorem RefR.drewN {w : World} {F : Nat → Prop} {g : Nat} {st : PSt} (h : RefR w F g st) (n : Nat) : RefR (w.drewN n) F g st := by
  obtain ⟨hlt, hfg, Bv, Cv, Pv, bs, vs, hblk, hB, hbs, hC, hvs, hP⟩ := h
  exact ⟨hlt, hfg, Bv, Cv, Pv, bs, vs, hblk, hB.drewN n, ⟨hbs.1, fun i v l hv hl => (hbs.2 i v l hv hl).drewN n⟩, hC.drewN n, ⟨hvs.1, fun i v l hv hl => (hvs.2 i v l hv hl).drewN n⟩, hP.drewN n⟩

set_option maxHeartbeats 2000000 in
theorem rfault1 (g : Nat) (st : PSt) (F : Nat → Prop) (w : World) (h : RefR w F g st) (hs : st.ops 1 < 1000000 ∧ st.since 1 < 1000000) (hpl : st.plan.length ≤ 1000) :
    Calls Try.prog 44 #[.pointer (some ⟨g, 0, none⟩), .int .i64 1] w fun e w' => e = .returned (.bool ((st.count 1).hit 1)) ∧ RefR w' F g (st.count 1) ∧ Chg F w w' ∧ w'.heap.size = w.heap.size := by
  obtain ⟨hlt, hfg, Bv, Cv, Pv, bs, vs, hblk, hB, hbs, hC, hvs, hP⟩ := h
  have c0 : w.cell? ⟨g, 2, none⟩ = some Pv := hblk.cell 2
  have c1 : w.cell? ⟨g, 4, none⟩ = some (num (st.ops 1)) := hblk.cell 4
  have c2 : w.cell? ⟨g, 8, none⟩ = some (num (st.since 1)) := hblk.cell 8
  have f1 := hblk.frozen 4
  have f2 := hblk.frozen 8
  unfold num at c1 c2
  go_enter Try.func44, Try.ntmps44
  go_wp2_with fail
  go_region
  go_wp2_with fail
  go_region
  go_wp2_with fail
  generalize hw2 : ((w.setCell ⟨g, 4, none⟩ (.int .i64 ((st.ops 1 : Int) + 1))).setCell ⟨g, 8, none⟩ (.int .i64 ((st.since 1 : Int) + 1))).drew.drew = w2
  have hP2 : Row w2 F 92 2 Pv st.plan.length (planCells st.plan) := by
    rw [← hw2]; exact (((hP.set_far (hP.ne_ hblk (by decide)) _).set_far (hP.ne_ hblk (by decide)) _).drew).drew
  have hr2 : RefR w2 F g (st.count 1) := by
    rw [← hw2]
    refine ⟨fun b hb => by simpa using hlt b hb, hfg, Bv, Cv, Pv, bs, vs, ?_, ?_, ?_, ?_, ?_, ?_⟩
    · have := (hblk.set_ 4 (.int .i64 ((st.ops 1 : Int) + 1))).set_ 8 (.int .i64 ((st.since 1 : Int) + 1))
      exact this
    · exact (((hB.set_far (hB.ne_ hblk (by decide)) _).set_far (hB.ne_ hblk (by decide)) _).drew).drew
    · exact hbs.cell2 hblk
    · exact (((hC.set_far (hC.ne_ hblk (by decide)) _).set_far (hC.ne_ hblk (by decide)) _).drew).drew
    · exact hvs.cell2 hblk
    · exact (((hP.set_far (hP.ne_ hblk (by decide)) _).set_far (hP.ne_ hblk (by decide)) _).drew).drew
  have hc2 : Chg F w w2 := by rw [← hw2]; exact ((((Chg.refl F w).setCell (.inl hfg) _).setCell (.inl hfg) _).drew).drew
  have hz2 : w2.heap.size = w.heap.size := by rw [← hw2]; simp
  have hblk2 : Blk w2 g 46 (refCells (st.count 1) Bv Cv Pv) := by
    rw [← hw2]; exact (hblk.set_ 4 (.int .i64 ((st.ops 1 : Int) + 1))).set_ 8 (.int .i64 ((st.since 1 : Int) + 1))
  have d0 : w2.cell? ⟨g, 2, none⟩ = some Pv := hblk2.cell 2
  have d1 : w2.cell? ⟨g, 8, none⟩ = some (.int .i64 ((st.since 1 : Int) + 1)) := hblk2.cell 8
  clear hw2 c0 c1 c2 f1 f2 hP hB hC hbs hvs hblk
  obtain ⟨A, c, rfl, hnc, hA⟩ := hP2.form
  go_loopw [5] (fun i wr => ∃ j m : Nat, j ≤ st.plan.length ∧ i = .int .i64 j ∧ wr = w2.drewN m ∧ missed st.plan 1 ((st.since 1 : Int) + 1) j) (fun i _ => st.plan.length - (intOf i).toNat)
  case atStart => exact ⟨0, 0, by omega, rfl, rfl, rfl⟩
  case round =>
    obtain ⟨j, m, hj, rfl, rfl, hmiss⟩ := hrel
    by_cases hlt2 : j < st.plan.length
    · obtain ⟨b, rfl, hFb, hbz, hcell, _⟩ := hP2.at_ (by omega)
      have e0 := (hcell (j * 2) (by omega)).trans (planCells_at hlt2).1
      have e1 := (hcell (j * 2 + 1) (by omega)).trans (planCells_at hlt2).2
      clear hcell
      have hf := @found st.plan 1 ((st.since 1 : Int) + 1) j hlt2
      have hn := fun h => missed_next hmiss hlt2 h
      obtain ⟨f, hfe⟩ : ∃ f, st.plan[j] = f := ⟨_, rfl⟩
      rw [hfe] at e0 e1 hf hn
      have Hf := Lib.hid hf
      have Hn := Lib.hid hn
      clear hmiss hfe hf hn
      cases hk : (f.1 == 1) with
      | false =>
        go_wp2_with fail
        go_quiet (fail)
        go_wp2_with fail
        go_roundw
        case rel => exact ⟨j + 1, _, by omega, by go_num, rfl, Hn.out (by rw [hk]; rfl)⟩
        case measure => simp [intOf]; omega
      | true =>
        cases ha : (f.2 == (st.since 1 : Int) + 1) with
        | false =>
          go_wp2_with fail
          go_quiet (fail)
          go_wp2_with fail
          go_roundw
          case rel => exact ⟨j + 1, _, by omega, by go_num, rfl, Hn.out (by rw [hk, ha]; rfl)⟩
          case measure => simp [intOf]; omega
        | true =>
          go_wp2_with fail
          go_quiet (fail)
          go_wp2_with fail
          go_ret
          have hh : (st.count 1).hit 1 = true := by simpa [PSt.hit, PSt.count, bump_at] using Hf.out (by rw [hk, ha]; rfl)
          exact ⟨by rw [hh]; rfl, (hr2.drewN _).drewN _, (hc2.drewN _).drewN _, hz2⟩
    · have hjn : j = st.plan.length := by omega
      subst hjn
      have Hm := Lib.hid (missed_end hmiss)
      clear hmiss
      go_wp2_with fail
      go_ret
      have hh : (st.count 1).hit 1 = false := by simpa [PSt.hit, PSt.count, bump_at] using Hm.out
      exact ⟨by rw [hh]; rfl, hr2.drewN _, hc2.drewN _, hz2⟩

set_option maxHeartbeats 2000000 in
theorem rfault2 (g : Nat) (st : PSt) (F : Nat → Prop) (w : World) (h : RefR w F g st) (hs : st.ops 2 < 1000000 ∧ st.since 2 < 1000000) (hpl : st.plan.length ≤ 1000) :
    Calls Try.prog 44 #[.pointer (some ⟨g, 0, none⟩), .int .i64 2] w fun e w' => e = .returned (.bool ((st.count 2).hit 2)) ∧ RefR w' F g (st.count 2) ∧ Chg F w w' ∧ w'.heap.size = w.heap.size := by
  obtain ⟨hlt, hfg, Bv, Cv, Pv, bs, vs, hblk, hB, hbs, hC, hvs, hP⟩ := h
  have c0 : w.cell? ⟨g, 2, none⟩ = some Pv := hblk.cell 2
  have c1 : w.cell? ⟨g, 5, none⟩ = some (num (st.ops 2)) := hblk.cell 5
  have c2 : w.cell? ⟨g, 9, none⟩ = some (num (st.since 2)) := hblk.cell 9
  have f1 := hblk.frozen 5
  have f2 := hblk.frozen 9
  unfold num at c1 c2
  go_enter Try.func44, Try.ntmps44
  go_wp2_with fail
  go_region
  go_wp2_with fail
  go_region
  go_wp2_with fail
  generalize hw2 : ((w.setCell ⟨g, 5, none⟩ (.int .i64 ((st.ops 2 : Int) + 1))).setCell ⟨g, 9, none⟩ (.int .i64 ((st.since 2 : Int) + 1))).drew.drew = w2
  have hP2 : Row w2 F 92 2 Pv st.plan.length (planCells st.plan) := by
    rw [← hw2]; exact (((hP.set_far (hP.ne_ hblk (by decide)) _).set_far (hP.ne_ hblk (by decide)) _).drew).drew
  have hr2 : RefR w2 F g (st.count 2) := by
    rw [← hw2]
    refine ⟨fun b hb => by simpa using hlt b hb, hfg, Bv, Cv, Pv, bs, vs, ?_, ?_, ?_, ?_, ?_, ?_⟩
    · have := (hblk.set_ 5 (.int .i64 ((st.ops 2 : Int) + 1))).set_ 9 (.int .i64 ((st.since 2 : Int) + 1))
      exact this
    · exact (((hB.set_far (hB.ne_ hblk (by decide)) _).set_far (hB.ne_ hblk (by decide)) _).drew).drew
    · exact hbs.cell2 hblk
    · exact (((hC.set_far (hC.ne_ hblk (by decide)) _).set_far (hC.ne_ hblk (by decide)) _).drew).drew
    · exact hvs.cell2 hblk
    · exact (((hP.set_far (hP.ne_ hblk (by decide)) _).set_far (hP.ne_ hblk (by decide)) _).drew).drew
  have hc2 : Chg F w w2 := by rw [← hw2]; exact ((((Chg.refl F w).setCell (.inl hfg) _).setCell (.inl hfg) _).drew).drew
  have hz2 : w2.heap.size = w.heap.size := by rw [← hw2]; simp
  have hblk2 : Blk w2 g 46 (refCells (st.count 2) Bv Cv Pv) := by
    rw [← hw2]; exact (hblk.set_ 5 (.int .i64 ((st.ops 2 : Int) + 1))).set_ 9 (.int .i64 ((st.since 2 : Int) + 1))
  have d0 : w2.cell? ⟨g, 2, none⟩ = some Pv := hblk2.cell 2
  have d1 : w2.cell? ⟨g, 9, none⟩ = some (.int .i64 ((st.since 2 : Int) + 1)) := hblk2.cell 9
  clear hw2 c0 c1 c2 f1 f2 hP hB hC hbs hvs hblk
  obtain ⟨A, c, rfl, hnc, hA⟩ := hP2.form
  go_loopw [5] (fun i wr => ∃ j m : Nat, j ≤ st.plan.length ∧ i = .int .i64 j ∧ wr = w2.drewN m ∧ missed st.plan 2 ((st.since 2 : Int) + 1) j) (fun i _ => st.plan.length - (intOf i).toNat)
  case atStart => exact ⟨0, 0, by omega, rfl, rfl, rfl⟩
  case round =>
    obtain ⟨j, m, hj, rfl, rfl, hmiss⟩ := hrel
    by_cases hlt2 : j < st.plan.length
    · obtain ⟨b, rfl, hFb, hbz, hcell, _⟩ := hP2.at_ (by omega)
      have e0 := (hcell (j * 2) (by omega)).trans (planCells_at hlt2).1
      have e1 := (hcell (j * 2 + 1) (by omega)).trans (planCells_at hlt2).2
      clear hcell
      have hf := @found st.plan 2 ((st.since 2 : Int) + 1) j hlt2
      have hn := fun h => missed_next hmiss hlt2 h
      obtain ⟨f, hfe⟩ : ∃ f, st.plan[j] = f := ⟨_, rfl⟩
      rw [hfe] at e0 e1 hf hn
      have Hf := Lib.hid hf
      have Hn := Lib.hid hn
      clear hmiss hfe hf hn
      cases hk : (f.1 == 2) with
      | false =>
        go_wp2_with fail
        go_quiet (fail)
        go_wp2_with fail
        go_roundw
        case rel => exact ⟨j + 1, _, by omega, by go_num, rfl, Hn.out (by rw [hk]; rfl)⟩
        case measure => simp [intOf]; omega
      | true =>
        cases ha : (f.2 == (st.since 2 : Int) + 1) with
        | false =>
          go_wp2_with fail
          go_quiet (fail)
          go_wp2_with fail
          go_roundw
          case rel => exact ⟨j + 1, _, by omega, by go_num, rfl, Hn.out (by rw [hk, ha]; rfl)⟩
          case measure => simp [intOf]; omega
        | true =>
          go_wp2_with fail
          go_quiet (fail)
          go_wp2_with fail
          go_ret
          have hh : (st.count 2).hit 2 = true := by simpa [PSt.hit, PSt.count, bump_at] using Hf.out (by rw [hk, ha]; rfl)
          exact ⟨by rw [hh]; rfl, (hr2.drewN _).drewN _, (hc2.drewN _).drewN _, hz2⟩
    · have hjn : j = st.plan.length := by omega
      subst hjn
      have Hm := Lib.hid (missed_end hmiss)
      clear hmiss
      go_wp2_with fail
      go_ret
      have hh : (st.count 2).hit 2 = false := by simpa [PSt.hit, PSt.count, bump_at] using Hm.out
      exact ⟨by rw [hh]; rfl, hr2.drewN _, hc2.drewN _, hz2⟩

set_option maxHeartbeats 2000000 in
theorem rfault3 (g : Nat) (st : PSt) (F : Nat → Prop) (w : World) (h : RefR w F g st) (hs : st.ops 3 < 1000000 ∧ st.since 3 < 1000000) (hpl : st.plan.length ≤ 1000) :
    Calls Try.prog 44 #[.pointer (some ⟨g, 0, none⟩), .int .i64 3] w fun e w' => e = .returned (.bool ((st.count 3).hit 3)) ∧ RefR w' F g (st.count 3) ∧ Chg F w w' ∧ w'.heap.size = w.heap.size := by
  obtain ⟨hlt, hfg, Bv, Cv, Pv, bs, vs, hblk, hB, hbs, hC, hvs, hP⟩ := h
  have c0 : w.cell? ⟨g, 2, none⟩ = some Pv := hblk.cell 2
  have c1 : w.cell? ⟨g, 6, none⟩ = some (num (st.ops 3)) := hblk.cell 6
  have c2 : w.cell? ⟨g, 10, none⟩ = some (num (st.since 3)) := hblk.cell 10
  have f1 := hblk.frozen 6
  have f2 := hblk.frozen 10
  unfold num at c1 c2
  go_enter Try.func44, Try.ntmps44
  go_wp2_with fail
  go_region
  go_wp2_with fail
  go_region
  go_wp2_with fail
  generalize hw2 : ((w.setCell ⟨g, 6, none⟩ (.int .i64 ((st.ops 3 : Int) + 1))).setCell ⟨g, 10, none⟩ (.int .i64 ((st.since 3 : Int) + 1))).drew.drew = w2
  have hP2 : Row w2 F 92 2 Pv st.plan.length (planCells st.plan) := by
    rw [← hw2]; exact (((hP.set_far (hP.ne_ hblk (by decide)) _).set_far (hP.ne_ hblk (by decide)) _).drew).drew
  have hr2 : RefR w2 F g (st.count 3) := by
    rw [← hw2]
    refine ⟨fun b hb => by simpa using hlt b hb, hfg, Bv, Cv, Pv, bs, vs, ?_, ?_, ?_, ?_, ?_, ?_⟩
    · have := (hblk.set_ 6 (.int .i64 ((st.ops 3 : Int) + 1))).set_ 10 (.int .i64 ((st.since 3 : Int) + 1))
      exact this
    · exact (((hB.set_far (hB.ne_ hblk (by decide)) _).set_far (hB.ne_ hblk (by decide)) _).drew).drew
    · exact hbs.cell2 hblk
    · exact (((hC.set_far (hC.ne_ hblk (by decide)) _).set_far (hC.ne_ hblk (by decide)) _).drew).drew
    · exact hvs.cell2 hblk
    · exact (((hP.set_far (hP.ne_ hblk (by decide)) _).set_far (hP.ne_ hblk (by decide)) _).drew).drew
  have hc2 : Chg F w w2 := by rw [← hw2]; exact ((((Chg.refl F w).setCell (.inl hfg) _).setCell (.inl hfg) _).drew).drew
  have hz2 : w2.heap.size = w.heap.size := by rw [← hw2]; simp
  have hblk2 : Blk w2 g 46 (refCells (st.count 3) Bv Cv Pv) := by
    rw [← hw2]; exact (hblk.set_ 6 (.int .i64 ((st.ops 3 : Int) + 1))).set_ 10 (.int .i64 ((st.since 3 : Int) + 1))
  have d0 : w2.cell? ⟨g, 2, none⟩ = some Pv := hblk2.cell 2
  have d1 : w2.cell? ⟨g, 10, none⟩ = some (.int .i64 ((st.since 3 : Int) + 1)) := hblk2.cell 10
  clear hw2 c0 c1 c2 f1 f2 hP hB hC hbs hvs hblk
  obtain ⟨A, c, rfl, hnc, hA⟩ := hP2.form
  go_loopw [5] (fun i wr => ∃ j m : Nat, j ≤ st.plan.length ∧ i = .int .i64 j ∧ wr = w2.drewN m ∧ missed st.plan 3 ((st.since 3 : Int) + 1) j) (fun i _ => st.plan.length - (intOf i).toNat)
  case atStart => exact ⟨0, 0, by omega, rfl, rfl, rfl⟩
  case round =>
    obtain ⟨j, m, hj, rfl, rfl, hmiss⟩ := hrel
    by_cases hlt2 : j < st.plan.length
    · obtain ⟨b, rfl, hFb, hbz, hcell, _⟩ := hP2.at_ (by omega)
      have e0 := (hcell (j * 2) (by omega)).trans (planCells_at hlt2).1
      have e1 := (hcell (j * 2 + 1) (by omega)).trans (planCells_at hlt2).2
      clear hcell
      have hf := @found st.plan 3 ((st.since 3 : Int) + 1) j hlt2
      have hn := fun h => missed_next hmiss hlt2 h
      obtain ⟨f, hfe⟩ : ∃ f, st.plan[j] = f := ⟨_, rfl⟩
      rw [hfe] at e0 e1 hf hn
      have Hf := Lib.hid hf
      have Hn := Lib.hid hn
      clear hmiss hfe hf hn
      cases hk : (f.1 == 3) with
      | false =>
        go_wp2_with fail
        go_quiet (fail)
        go_wp2_with fail
        go_roundw
        case rel => exact ⟨j + 1, _, by omega, by go_num, rfl, Hn.out (by rw [hk]; rfl)⟩
        case measure => simp [intOf]; omega
      | true =>
        cases ha : (f.2 == (st.since 3 : Int) + 1) with
        | false =>
          go_wp2_with fail
          go_quiet (fail)
          go_wp2_with fail
          go_roundw
          case rel => exact ⟨j + 1, _, by omega, by go_num, rfl, Hn.out (by rw [hk, ha]; rfl)⟩
          case measure => simp [intOf]; omega
        | true =>
          go_wp2_with fail
          go_quiet (fail)
          go_wp2_with fail
          go_ret
          have hh : (st.count 3).hit 3 = true := by simpa [PSt.hit, PSt.count, bump_at] using Hf.out (by rw [hk, ha]; rfl)
          exact ⟨by rw [hh]; rfl, (hr2.drewN _).drewN _, (hc2.drewN _).drewN _, hz2⟩
    · have hjn : j = st.plan.length := by omega
      subst hjn
      have Hm := Lib.hid (missed_end hmiss)
      clear hmiss
      go_wp2_with fail
      go_ret
      have hh : (st.count 3).hit 3 = false := by simpa [PSt.hit, PSt.count, bump_at] using Hm.out
      exact ⟨by rw [hh]; rfl, hr2.drewN _, hc2.drewN _, hz2⟩

end Go.Proofs.Ytdengokonaljpaa
