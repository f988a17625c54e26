/- The document's platter: what Crash does. -/
import Derived.Test.YtdengokonaljpaaRsync
namespace Go.Proofs.Ytdengokonaljpaa
open Go.RowKit

/-- Crash: the state behind it. -/
def PSt.crash (st : PSt) (keep : List Bool) : PSt := { st with blocks := applied st (fun i => keep.getD i false) st.cache.length, cache := [], plan := [] }
def bools (l : List Bool) : List Value := l.map Value.bool
theorem bools_at {l : List Bool} {i : Nat} (h : i < l.length) : (bools l)[i]? = some (.bool l[i]) := by simp [bools, List.getElem?_map, List.getElem?_eq_getElem h]
theorem applied_more (st : PSt) (keep : Nat → Bool) (j : Nat) (h : ∀ i, j ≤ i → keep i = false) : ∀ m, applied st keep (j + m) = applied st keep j
  | 0 => rfl
  | m + 1 => by
    rw [← Nat.add_assoc, part_no (h _ (by omega))]
    exact applied_more st keep j h m
theorem crash_blocks (st : PSt) (keep : List Bool) {j : Nat} (hj : j ≤ st.cache.length) (h : j = st.cache.length ∨ keep.length ≤ j) : (st.crash keep).blocks = applied st (fun i => keep.getD i false) j := by
  show applied st _ st.cache.length = _
  rcases h with rfl | h
  · rfl
  · have := applied_more st (fun i => keep.getD i false) j (fun i hi => by simp [List.getD, List.getElem?_eq_none (show keep.length ≤ i by omega)]) (st.cache.length - j)
    rwa [show j + (st.cache.length - j) = st.cache.length by omega] at this

theorem RefS.dropAll {w : World} {F : Nat → Prop} {g : Nat} {st : PSt} {gb nb nc : Nat} {A1 : Option Addr} {Pv : Value} {bs vs : List Value} (h : RefS w F g st gb nb A1 nc Pv bs vs) :
    RefR ((w.setCell ⟨g, 1, none⟩ (.slice none 0 0)).setCell ⟨g, 2, none⟩ (.slice none 0 0)) F g { st with cache := [], plan := [] } := by
  have hne : ∀ {e size n : Nat} {u : Value} {xs : List Value}, Row w F e size u n xs → e ≠ 46 → Row ((w.setCell ⟨g, 1, none⟩ (.slice none 0 0)).setCell ⟨g, 2, none⟩ (.slice none 0 0)) F e size u n xs := fun hr he =>
    have h1 := hr.set_far (p := ⟨g, 1, none⟩) (hr.ne_ h.blk he) (.slice none 0 0)
    h1.set_far (h1.ne_ (h.blk.set_ 1 _) he) _
  refine ⟨fun b hb => by simpa using h.lt b hb, h.fg, .slice (some ⟨gb, 0, none⟩) st.blocks.length nb, .slice none 0 0, .slice none 0 0, bs, [], ?_, hne h.B (by decide), ⟨h.hb.1, fun i v l hv hl => ⟨(h.hb.2 i v l hv hl).1, (h.hb.2 i v l hv hl).2.1, hne (h.hb.2 i v l hv hl).2.2 (by decide)⟩⟩, Row.nil _ _ _ _, ⟨rfl, fun i v l hv _ => by simp at hv⟩, Row.nil _ _ _ _⟩
  exact (h.blk.set_ 1 _).set_ 2 _

set_option maxHeartbeats 4000000 in
theorem rcrash_any (g : Nat) (st : PSt) (F : Nat → Prop) (w : World) (h : RefR w F g st) (hcl : st.cache.length < 1000000) (hpos : 0 < st.blocks.length) (hfit : st.fits)
    (K : Option Addr) (cap : Nat) (keep : List Bool) (hkl : keep.length < 1000000) (hcap : keep.length ≤ cap) (hsl : Sl w w.heap.size K (bools keep)) (hdis : ∀ b o, K = some ⟨b, o, none⟩ → keep ≠ [] → ¬ F b) :
    Calls Try.prog 30 #[.pointer (some ⟨g, 0, none⟩), .slice K keep.length cap] w fun e w' => e = .returned (.tuple #[]) ∧ RefR w' F g (st.crash keep) ∧ Chg F w w' ∧ w'.heap.size = w.heap.size := by
  obtain ⟨gb, nb, A1, nc, Pv, bs0, vs, hS0, hnb, hnc, hA1⟩ := RefS.of h hpos
  clear h
  go_enter Try.func30, Try.ntmps30
  go_wp2_with fail
  go_loopw [4] (fun i wr => ∃ (j : Nat) (bs : List Value), j ≤ st.cache.length ∧ j ≤ keep.length ∧ i = .int .i64 j ∧ RefS wr F g { st with blocks := applied st (fun i => keep.getD i false) j } gb nb A1 nc Pv bs vs ∧ Chg F w wr ∧ wr.heap.size = w.heap.size) (fun i _ => st.cache.length - (intOf i).toNat)
  case atStart => exact ⟨0, bs0, Nat.zero_le _, Nat.zero_le _, rfl, hS0, Chg.refl _ _, rfl⟩
  case round =>
    obtain ⟨j, bs, hj, hjk, rfl, hS, hcr, hzr⟩ := hrel
    clear hS0
    have HS := Lib.hid hS
    have Hcr := Lib.hid hcr
    have Hz := Lib.hid hzr
    obtain ⟨_, hfg, hblk, hB, hbs, hC, hvs, _⟩ := hS
    have c1 : wr.cell? ⟨g, 1, none⟩ = some (.slice A1 st.cache.length nc) := hblk.cell 1
    have c0 : wr.cell? ⟨g, 0, none⟩ = some (.slice (some ⟨gb, 0, none⟩) (applied st (fun i => keep.getD i false) j).length nb) := hblk.cell 0
    rw [applied_length] at c0
    have c2 : wr.cell? ⟨g, 2, none⟩ = some Pv := hblk.cell 2
    have f1 := hblk.frozen 1
    have f2 := hblk.frozen 2
    by_cases hlt2 : j < st.cache.length
    · by_cases hlt3 : j < keep.length
      · obtain ⟨gk, o, rfl, hkb, hkc⟩ : ∃ b o, K = some ⟨b, o, none⟩ ∧ b < w.heap.size ∧ ∀ i, i < keep.length → w.cell? ⟨b, o + i, none⟩ = (bools keep)[i]? := by
          rcases hsl with h | ⟨b, o, e, hb, hcell⟩
          · simp [bools] at h; subst h; simp at hlt3
          · exact ⟨b, o, e, hb, fun i hi => (hcell i (by simpa [bools] using hi)).trans (List.getElem?_eq_getElem _).symm⟩
        have ek : wr.cell? ⟨gk, o + j, none⟩ = some (.bool keep[j]) := ((World.cell?_of_block (hcr.block gk hkb (hdis gk o rfl (fun h => by rw [h] at hlt3; simp at hlt3)))).trans (hkc j hlt3)).trans (bools_at hlt3)
        have hkd : keep.getD j false = keep[j] := by simp [List.getD, List.getElem?_eq_getElem hlt3]
        obtain ⟨gc, rfl⟩ := hA1 (by omega)
        have hC : Row wr F 91 2 (.slice (some ⟨gc, 0, none⟩) st.cache.length nc) st.cache.length (cacheCells st.cache vs) := hC
        have hvl : vs.length = st.cache.length := by have := hvs.1; simpa using this
        have e0 := (hC.own.cellAt (j * 2) (by omega)).trans (cacheCells_at hlt2 (by omega)).1
        have e1 := (hC.own.cellAt (j * 2 + 1) (by omega)).trans (cacheCells_at hlt2 (by omega)).2
        have hheld := hvs.2 j vs[j] st.cache[j].2 (List.getElem?_eq_getElem (by omega)) (by simp [List.getElem?_eq_getElem hlt2])
        have hbl : st.cache[j].1 < st.blocks.length := hfit _ (List.getElem_mem _)
        have hB : Row wr F 49 1 (.slice (some ⟨gb, 0, none⟩) st.blocks.length nb) st.blocks.length bs := by have := hB; rwa [applied_length] at this
        have hcell := hB.own.cellAt st.cache[j].1 (by omega)
        have fB := hB.own.frozenAt st.cache[j].1
        have hbsl : bs.length = st.blocks.length := by have := hbs.1; rwa [applied_length] at this
        rw [List.getElem?_eq_getElem (show st.cache[j].1 < bs.length by omega)] at hcell
        obtain ⟨A2, c2, hv2, _, _, _⟩ := hheld.form
        rw [hv2] at e1 hheld
        have Hnext := Lib.hid (HS.out.apply (k := st.cache[j].1) hheld).drew
        generalize bs[st.cache[j].1] = ob at hcell
        generalize hnj : st.cache[j].1 = nj at *
        have Hnj := Lib.hid hnj
        generalize hkv : keep[j] = kj at *
        have Hkd := Lib.hid hkd
        clear hv2 hnj hbs hvs hblk hheld hcr hzr hkd hkc hsl hkv
        cases kj with
        | true =>
          go_wp2_with fail
          go_region
          go_wp2_with fail
          go_roundw
          case rel =>
            refine ⟨j + 1, bs.set nj (.slice A2 st.cache[j].2.length c2), by omega, by omega, by go_num, ?_, (Hcr.out.setCell (.inl HS.out.gbF) _).drew, by simpa using Hz.out⟩
            rw [part_yes hlt2 Hkd.out]
            simp only [Hnj.out]
            exact Hnext.out
          case measure => simp [intOf]; omega
        | false =>
          go_wp2_with fail
          go_roundw
          case rel =>
            refine ⟨j + 1, bs, by omega, by omega, by go_num, ?_, Hcr.out, Hz.out⟩
            rw [part_no Hkd.out]
            exact HS.out
          case measure => simp [intOf]; omega
      · have hq := crash_blocks st keep hj (.inr (by omega))
        have Hq := Lib.hid hq
        clear hq hcr hzr hbs hvs hblk hsl
        go_wp2_with fail
        refine bodyPost_end (results_none rfl _ _ _) rfl ?_
        exact ⟨rfl, by have := HS.out.dropAll; rw [← Hq.out] at this; exact this, (Hcr.out.setCell (.inl HS.out.fg) _).setCell (.inl HS.out.fg) _, by simpa using Hz.out⟩
    · have hjn : j = st.cache.length := by omega
      subst hjn
      clear hcr hzr hbs hvs hblk hsl
      by_cases hlt3 : st.cache.length < keep.length
      · go_wp2_with fail
        refine bodyPost_end (results_none rfl _ _ _) rfl ?_
        exact ⟨rfl, HS.out.dropAll, (Hcr.out.setCell (.inl HS.out.fg) _).setCell (.inl HS.out.fg) _, by simpa using Hz.out⟩
      · go_wp2_with fail
        refine bodyPost_end (results_none rfl _ _ _) rfl ?_
        exact ⟨rfl, HS.out.dropAll, (Hcr.out.setCell (.inl HS.out.fg) _).setCell (.inl HS.out.fg) _, by simpa using Hz.out⟩

end Go.Proofs.Ytdengokonaljpaa
