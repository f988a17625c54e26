/- The document's platter: what Sync and Crash do. -/
import Derived.Test.YtdengokonaljpaaRread
import Derived.BigRegion
namespace Go.Proofs.Ytdengokonaljpaa
open Go.RowKit

/-- One cached write is applied to the blocks. -/
def applyOne (bs : List (List Nat)) (p : Nat × List Nat) : List (List Nat) := bs.set p.1 p.2
/-- The first j cached writes are applied, but those that 'keep' leaves out. -/
def applied (st : PSt) (keep : Nat → Bool) : Nat → List (List Nat)
  | 0 => st.blocks
  | j + 1 => match st.cache[j]? with
    | some p => if keep j then applyOne (applied st keep j) p else applied st keep j
    | none => applied st keep j
theorem applied_length (st : PSt) (keep : Nat → Bool) : ∀ j, (applied st keep j).length = st.blocks.length
  | 0 => rfl
  | j + 1 => by
    unfold applied
    split
    · split
      · simp [applyOne, applied_length st keep j]
      · exact applied_length st keep j
    · exact applied_length st keep j
def PSt.part (st : PSt) (keep : Nat → Bool) (j : Nat) : PSt := { st with blocks := applied st keep j }
theorem part_yes {st : PSt} {keep : Nat → Bool} {j : Nat} (hj : j < st.cache.length) (h : keep j = true) : applied st keep (j + 1) = (applied st keep j).set st.cache[j].1 st.cache[j].2 := by
  simp [applied, List.getElem?_eq_getElem hj, h, applyOne]
theorem part_no {st : PSt} {keep : Nat → Bool} {j : Nat} (h : keep j = false) : applied st keep (j + 1) = applied st keep j := by
  rw [applied]
  cases st.cache[j]? with
  | none => rfl
  | some p => simp [h]

/-- What is known of the memory of a platter, its slices named. -/
structure RefS (w : World) (F : Nat → Prop) (g : Nat) (st : PSt) (gb nb : Nat) (A1 : Option Addr) (nc : Nat) (Pv : Value) (bs vs : List Value) : Prop where
  lt : ∀ b, F b → b < w.heap.size
  fg : F g
  blk : Blk w g 46 (refCells st (.slice (some ⟨gb, 0, none⟩) st.blocks.length nb) (.slice A1 st.cache.length nc) Pv)
  B : Row w F 49 1 (.slice (some ⟨gb, 0, none⟩) st.blocks.length nb) st.blocks.length bs
  hb : AllHeld w F bs st.blocks
  C : Row w F 91 2 (.slice A1 st.cache.length nc) st.cache.length (cacheCells st.cache vs)
  hv : AllHeld w F vs (st.cache.map (·.2))
  P : Row w F 92 2 Pv st.plan.length (planCells st.plan)

theorem RefS.apply {w : World} {F : Nat → Prop} {g : Nat} {st : PSt} {gb nb nc : Nat} {A1 : Option Addr} {Pv : Value} {bs vs : List Value} (h : RefS w F g st gb nb A1 nc Pv bs vs) {k : Nat} {v : Value} {l : List Nat} (hl : Held w F v l) :
    RefS (w.setCell ⟨gb, k, none⟩ v) F g { st with blocks := st.blocks.set k l } gb nb A1 nc Pv (bs.set k v) vs := by
  have hgb : F gb := h.B.mem gb rfl
  obtain ⟨cur, hgbb⟩ := h.B.blk (k := gb) rfl
  have far : ∀ {e size n : Nat} {u : Value} {xs : List Value}, Row w F e size u n xs → e ≠ 49 → Row (w.setCell ⟨gb, k, none⟩ v) F e size u n xs := fun hr he => hr.set_far (hr.ne_ hgbb he) _
  have farH : ∀ {u : Value} {m : List Nat}, Held w F u m → Held (w.setCell ⟨gb, k, none⟩ v) F u m := fun hh => ⟨hh.1, hh.2.1, far hh.2.2 (by decide)⟩
  refine ⟨fun b hb => by simpa using h.lt b hb, h.fg, ?_, ?_, ?_, far h.C (by decide), ⟨h.hv.1, fun i u m hu hm => farH (h.hv.2 i u m hu hm)⟩, far h.P (by decide)⟩
  · have := h.blk.far (p := ⟨gb, k, none⟩) (Blk.ne_ hgbb h.blk (by decide)) v
    simpa [refCells] using this
  · have := h.B.stored k v
    simpa using this
  · refine ⟨by simpa using h.hb.1, fun i u m hu hm => ?_⟩
    by_cases hi : k = i
    · subst hi
      rw [List.getElem?_set_self'] at hu hm
      cases h1 : bs[k]? with
      | none => rw [h1] at hu; cases hu
      | some _ =>
        cases h2 : st.blocks[k]? with
        | none => rw [h2] at hm; cases hm
        | some _ =>
          rw [h1] at hu; rw [h2] at hm
          simp at hu hm
          subst hu hm
          exact farH hl
    · rw [List.getElem?_set_ne hi] at hu hm
      exact farH (h.hb.2 i u m hu hm)
theorem RefS.toR {w : World} {F : Nat → Prop} {g : Nat} {st : PSt} {gb nb nc : Nat} {A1 : Option Addr} {Pv : Value} {bs vs : List Value} (h : RefS w F g st gb nb A1 nc Pv bs vs) : RefR w F g st :=
  ⟨h.lt, h.fg, _, _, _, _, _, h.blk, h.B, h.hb, h.C, h.hv, h.P⟩
theorem RefS.gbF {w : World} {F : Nat → Prop} {g : Nat} {st : PSt} {gb nb nc : Nat} {A1 : Option Addr} {Pv : Value} {bs vs : List Value} (h : RefS w F g st gb nb A1 nc Pv bs vs) : F gb := h.B.mem gb rfl
theorem Held.drew {w : World} {F : Nat → Prop} {v : Value} {l : List Nat} (h : Held w F v l) : Held w.drew F v l := h.drewN 1
theorem RefS.drew {w : World} {F : Nat → Prop} {g : Nat} {st : PSt} {gb nb nc : Nat} {A1 : Option Addr} {Pv : Value} {bs vs : List Value} (h : RefS w F g st gb nb A1 nc Pv bs vs) : RefS w.drew F g st gb nb A1 nc Pv bs vs :=
  ⟨h.lt, h.fg, h.blk, h.B.drew, ⟨h.hb.1, fun i v l hv hl => (h.hb.2 i v l hv hl).drewN 1⟩, h.C.drew, ⟨h.hv.1, fun i v l hv hl => (h.hv.2 i v l hv hl).drewN 1⟩, h.P.drew⟩

/-- Sync: the code, and the state behind it. -/
def PSt.sync (st : PSt) : Int × PSt :=
  if (st.count 3).hit 3 = true then (6, st.count 3)
  else (0, { st.count 3 with blocks := applied st (fun _ => true) st.cache.length, cache := [] })

theorem RefS.dropCache {w : World} {F : Nat → Prop} {g : Nat} {st : PSt} {gb nb nc : Nat} {A1 : Option Addr} {Pv : Value} {bs vs : List Value} (h : RefS w F g st gb nb A1 nc Pv bs vs) :
    RefR (w.setCell ⟨g, 1, none⟩ (.slice none 0 0)) F g { st with cache := [] } := by
  have hne : ∀ {e size n : Nat} {u : Value} {xs : List Value}, Row w F e size u n xs → e ≠ 46 → Row (w.setCell ⟨g, 1, none⟩ (.slice none 0 0)) F e size u n xs := fun hr he => hr.set_far (hr.ne_ h.blk he) _
  refine ⟨fun b hb => by simpa using h.lt b hb, h.fg, .slice (some ⟨gb, 0, none⟩) st.blocks.length nb, .slice none 0 0, Pv, bs, [], ?_, hne h.B (by decide), ⟨h.hb.1, fun i v l hv hl => ⟨(h.hb.2 i v l hv hl).1, (h.hb.2 i v l hv hl).2.1, hne (h.hb.2 i v l hv hl).2.2 (by decide)⟩⟩, Row.nil _ _ _ _, ⟨rfl, fun i v l hv _ => by simp at hv⟩, hne h.P (by decide)⟩
  exact h.blk.set_ 1 _

theorem RefS.of {w : World} {F : Nat → Prop} {g : Nat} {st : PSt} (h : RefR w F g st) (hpos : 0 < st.blocks.length) : ∃ gb nb A1 nc Pv bs vs, RefS w F g st gb nb A1 nc Pv bs vs ∧ st.blocks.length ≤ nb ∧ st.cache.length ≤ nc ∧ (0 < st.cache.length → ∃ gc, A1 = some ⟨gc, 0, none⟩) := by
  obtain ⟨hlt, hfg, Bv, Cv, Pv, bs, vs, hblk, hB, hbs, hC, hvs, hP⟩ := h
  obtain ⟨A, c, rfl, hn, _⟩ := hB.form
  obtain ⟨A1, c1, rfl, hn1, _⟩ := hC.form
  obtain ⟨b, rfl, _⟩ := hB.at_ hpos
  exact ⟨b, c, A1, c1, Pv, bs, vs, ⟨hlt, hfg, hblk, hB, hbs, hC, hvs, hP⟩, hn, hn1, fun h0 => by obtain ⟨gc, rfl, _⟩ := hC.at_ h0; exact ⟨gc, rfl⟩⟩

/-- Each cached write is one to a block that there is. -/
def PSt.fits (st : PSt) : Prop := ∀ p ∈ st.cache, p.1 < st.blocks.length

set_option maxHeartbeats 4000000 in
theorem rsync_any (g : Nat) (st : PSt) (F : Nat → Prop) (w : World) (h : RefR w F g st) (hs : st.ops 3 < 1000000 ∧ st.since 3 < 1000000) (hpl : st.plan.length ≤ 1000) (hcl : st.cache.length < 1000000) (hpos : 0 < st.blocks.length) (hfit : st.fits) :
    Calls Try.prog 29 #[.pointer (some ⟨g, 0, none⟩)] w fun e w' => e = .returned (.int .i64 st.sync.1) ∧ RefR w' F g st.sync.2 ∧ Chg F w w' ∧ w'.heap.size = w.heap.size := by
  have hf := rfault3 g st F w h hs hpl
  have Hf := Lib.hid hf
  have hF := h.lt
  clear hf h
  by_cases hhit : (st.count 3).hit 3 = true
  · have hw : st.sync = (6, st.count 3) := by unfold PSt.sync; rw [if_pos hhit]
    rw [hw]
    go_enter Try.func29, Try.ntmps29
    go_wp2_with (go_at_call 44; refine Calls.mono Hf.out ?_; rintro e w1 ⟨rfl, hr1, hc1, hz1⟩; rw [hhit])
    go_ret
    exact ⟨rfl, hr1, hc1, hz1⟩
  have hhit' : (st.count 3).hit 3 = false := by simpa using hhit
  have hw : st.sync = (0, { st.count 3 with blocks := applied st (fun _ => true) st.cache.length, cache := [] }) := by unfold PSt.sync; rw [if_neg hhit]
  rw [hw]
  clear hw
  go_enter Try.func29, Try.ntmps29
  go_wp2_with fail
  refine Calls.mono Hf.out ?_
  rintro e w1 ⟨rfl, hr1, hc1, hz1⟩
  rw [hhit']
  obtain ⟨gb, nb, A1, nc, Pv, bs0, vs, hS0, hnb, hnc, hA1⟩ := RefS.of hr1 hpos
  have hnb : st.blocks.length ≤ nb := hnb
  have hnc : st.cache.length ≤ nc := hnc
  have hA1 : 0 < st.cache.length → ∃ gc, A1 = some ⟨gc, 0, none⟩ := hA1
  clear hr1
  go_wp2_with fail
  go_loopw [3] (fun i wr => ∃ (j : Nat) (bs : List Value), j ≤ st.cache.length ∧ i = .int .i64 j ∧ RefS wr F g { st.count 3 with blocks := applied st (fun _ => true) j } gb nb A1 nc Pv bs vs ∧ Chg F w wr ∧ wr.heap.size = w.heap.size) (fun i _ => st.cache.length - (intOf i).toNat)
  case atStart => exact ⟨0, bs0, Nat.zero_le _, rfl, hS0, hc1, hz1⟩
  case round =>
    obtain ⟨j, bs, hj, rfl, hS, hcr, hzr⟩ := hrel
    clear hS0 hc1 hz1
    have HS := Lib.hid hS
    have Hcr := Lib.hid hcr
    have Hz := Lib.hid hzr
    obtain ⟨_, hfg, hblk, hB, hbs, hC, hvs, _⟩ := hS
    clear hcr hzr
    have c1 : wr.cell? ⟨g, 1, none⟩ = some (.slice A1 st.cache.length nc) := hblk.cell 1
    have c0 : wr.cell? ⟨g, 0, none⟩ = some (.slice (some ⟨gb, 0, none⟩) (applied st (fun _ => true) j).length nb) := hblk.cell 0
    rw [applied_length] at c0
    have f1 := hblk.frozen 1
    by_cases hlt2 : j < st.cache.length
    · obtain ⟨gc, rfl⟩ := hA1 (by omega)
      have hC : Row wr F 91 2 (.slice (some ⟨gc, 0, none⟩) st.cache.length nc) st.cache.length (cacheCells st.cache vs) := hC
      have hvl : vs.length = st.cache.length := by have := hvs.1; simpa [PSt.count] using this
      have e0 := (hC.own.cellAt (j * 2) (by omega)).trans (cacheCells_at hlt2 (by omega)).1
      have e1 := (hC.own.cellAt (j * 2 + 1) (by omega)).trans (cacheCells_at hlt2 (by omega)).2
      have hheld := hvs.2 j vs[j] st.cache[j].2 (List.getElem?_eq_getElem (by omega)) (by simp [PSt.count, List.getElem?_eq_getElem hlt2])
      have hbl : st.cache[j].1 < st.blocks.length := hfit _ (List.getElem_mem _)
      have hB : Row wr F 49 1 (.slice (some ⟨gb, 0, none⟩) st.blocks.length nb) st.blocks.length bs := by have := hB; rwa [applied_length] at this
      have hcell := hB.own.cellAt st.cache[j].1 (by omega)
      have fB := hB.own.frozenAt st.cache[j].1
      have hbsl : bs.length = st.blocks.length := by have := hbs.1; rwa [applied_length] at this
      rw [List.getElem?_eq_getElem (show st.cache[j].1 < bs.length by omega)] at hcell
      obtain ⟨A2, c2, hv2, _, _, _⟩ := hheld.form
      rw [hv2] at e1 hheld
      have Hnext := Lib.hid (HS.out.apply (k := st.cache[j].1) hheld).drew
      generalize bs[st.cache[j].1] = ob at hcell
      generalize hnj : st.cache[j].1 = nj at *
      have Hnj := Lib.hid hnj
      clear hv2 hnj hbs hvs hblk hheld
      go_wp2_with fail
      go_region
      go_wp2_with fail
      go_roundw
      case rel =>
        refine ⟨j + 1, bs.set nj (.slice A2 st.cache[j].2.length c2), by omega, by go_num, ?_, (Hcr.out.setCell (.inl HS.out.gbF) _).drew, by simpa using Hz.out⟩
        rw [part_yes hlt2 rfl]
        simp only [Hnj.out]
        exact Hnext.out
      case measure => simp [intOf]; omega
    · have hjn : j = st.cache.length := by omega
      subst hjn
      go_wp2_with fail
      go_ret
      exact ⟨rfl, HS.out.dropCache, Hcr.out.setCell (.inl HS.out.fg) _, by simpa using Hz.out⟩

end Go.Proofs.Ytdengokonaljpaa
