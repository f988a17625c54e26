/- The program's platter: Crash. -/
import Derived.Test.YtdengokonaljpaaDsync
import Derived.Test.YtdengokonaljpaaRcrash
namespace Go.Proofs.Ytdengokonaljpaa
open Go.RowKit Go.Maps

/-- No fault is planned any more. -/
theorem DevS.noPlan {w : World} {F : Nat → Prop} {g : Nat} {st : PSt} {Bv Cv : Value} {bm : Nat} {Pm : Option Nat} {D E : DataW Unit} (h : DevS w F g st Bv Cv bm Pm D E) :
    DevS (w.setCell ⟨g, 3, none⟩ (.map none)) F g { st with plan := [] } Bv Cv bm none D E := by
  refine ⟨⟨h.wf.b, h.wf.c⟩, fun b hb => by simpa using h.lt b hb, h.fg, ?_, h.B.set_far (h.B.ne_ h.blk (by decide)) _, h.C.set_far (h.C.ne_ h.blk (by decide)) _, h.fm, ownsMap_keep h.M (Below.heap_setCell _ _ _ _ (ownsMap_ne h.M h.blk)), h.last, (fun b hb => by cases hb), fun k j _ _ _ _ => rfl⟩
  exact h.blk.set_ 3 (.map none)

set_option maxHeartbeats 4000000 in
set_option maxRecDepth 5000 in
theorem dcrash_any (g : Nat) (st : PSt) (F : Nat → Prop) (w : World) (h : Dev w F g st) (hcl : st.cache.length < 1000000) (hpos : 0 < st.blocks.length)
    (K : Option Addr) (cap : Nat) (keep : List Bool) (hsl : Sl w w.heap.size K (bools keep)) (hdis : ∀ b o, K = some ⟨b, o, none⟩ → keep ≠ [] → ¬ F b) :
    Calls Try.prog 21 #[.pointer (some ⟨g, 0, none⟩), .slice K keep.length cap] w fun e w' => e = .returned (.tuple #[]) ∧ Dev w' (Ext F w w') g (st.crash keep) ∧ Chg F w w' := by
  obtain ⟨Bv, Cv, bm, Pm, D, E, h⟩ := h
  obtain ⟨A, nb, rfl, hnb, hA⟩ := h.B.form
  obtain ⟨gb, rfl, hFgb, _⟩ := h.B.at_ hpos
  obtain ⟨A1, nc, rfl, hnc, hA1⟩ := h.C.form
  have x1 : w.cell? ⟨g, 1, none⟩ = some (.slice A1 st.cache.length nc) := h.blk.cell 1
  obtain ⟨t, ht⟩ : ∃ t : TypeId, t = 79 := ⟨_, rfl⟩
  have hagg : ∀ w, (isAgg t).run Try.prog w = .ok true w := by rw [ht]; intro w; kernel_rfl
  obtain ⟨N, hN⟩ : ∃ N : Nat, N = 64 := ⟨_, rfl⟩
  have hsz : ∀ w, (sizeOf t).run Try.prog w = .ok N w := by rw [ht, hN]; intro w; kernel_rfl
  obtain ⟨u, hu⟩ : ∃ u : TypeId, u = 82 := ⟨_, rfl⟩
  have hagg2 : ∀ w, (isAgg u).run Try.prog w = .ok true w := by rw [hu]; intro w; kernel_rfl
  obtain ⟨M, hM⟩ : ∃ M : Nat, M = 65 := ⟨_, rfl⟩
  have hsz2 : ∀ w, (sizeOf u).run Try.prog w = .ok M w := by rw [hu, hM]; intro w; kernel_rfl
  obtain ⟨Z, hZ⟩ : ∃ Z : Array Value, Z = #[.int .i64 0] ++ Array.replicate 64 (.int .u8 0) := ⟨_, rfl⟩
  have hz0 : ∀ w, (zeroValue u).run Try.prog w = .ok (.agg Z) w := by rw [hu, hZ]; intro w; kernel_rfl
  have hund := Try.underlying82
  rw [← hu] at hund
  have hund2 := fun w => run_underlying hund w
  have Ht := Lib.hid ht
  have Hu := Lib.hid hu
  have HN := Lib.hid hN
  have HM := Lib.hid hM
  have HZ := Lib.hid hZ
  have Hh := Lib.hid h
  clear ht hu hN hM hZ hund
  go_enter Try.func21, Try.ntmps21
  rw [← Ht.out, ← Hu.out]
  go_wp2_with fail
  go_loopw [13] (fun i wr => ∃ j : Nat, j ≤ st.cache.length ∧ i = .int .i64 j ∧ DevS wr F g { st with blocks := applied st (fun i => keep.getD i false) j } (.slice (some ⟨gb, 0, none⟩) st.blocks.length nb) (.slice A1 st.cache.length nc) bm Pm D E ∧ Chg F w wr) (fun i _ => st.cache.length - (intOf i).toNat)
  case atStart => exact ⟨0, Nat.zero_le _, rfl, Hh.out, Chg.refl _ _⟩
  case round =>
    obtain ⟨j, hj, rfl, hS, hcr⟩ := hrel
    have hkc : ∀ (hjk : j < keep.length), ∃ kb ko, K = some ⟨kb, ko, none⟩ ∧ ∀ o, (wr.alloc o).cell? ⟨kb, ko + j, none⟩ = some (.bool keep[j]) := fun hjk => by
      rcases hsl with h0 | ⟨kb, ko, e, hkb, hcell⟩
      · exfalso
        have : keep.length = 0 := by rw [← List.length_map (f := Value.bool)]; unfold bools at h0; rw [h0]; rfl
        omega
      · refine ⟨kb, ko, e, fun o => ?_⟩
        have := hcell j (by unfold bools; simpa using hjk)
        have hz := hcr.size
        rw [World.cell?_alloc_lt _ _ _ (by show kb < wr.heap.size; omega), World.cell?_of_block (hcr.block kb hkb (hdis kb ko e (fun h => by rw [h] at hjk; simp at hjk))), this]
        simp [bools]
    by_cases hlt2 : j < st.cache.length
    · obtain ⟨gc, rfl⟩ : ∃ gc, A1 = some ⟨gc, 0, none⟩ := by obtain ⟨gc, e, _⟩ := hS.C.at_ (show 0 < st.cache.length by omega); exact ⟨gc, e⟩
      have l1w := hS.wf.c st.cache[j] (List.getElem_mem _)
      have hbn : st.cache[j].1 < st.blocks.length := by simpa [applied_length] using l1w.1
      have r1 := hS.C.range (f := fun p : Nat × List Nat => num p.1 :: byts p.2) (l := st.cache) hS.wf.c65 rfl hlt2
      have hyes := fun h => part_yes (st := st) (keep := fun i => keep.getD i false) hlt2 h
      have hno := fun h => part_no (st := st) (keep := fun i => keep.getD i false) (j := j) h
      generalize hp1 : st.cache[j].1 = n at *
      generalize hp2 : st.cache[j].2 = l at *
      obtain ⟨cs, hcs⟩ : ∃ cs : List Value, cs = .int .i64 (n : Int) :: byts l := ⟨_, rfl⟩
      have hcsl : cs.length = M := by rw [hcs, List.length_cons, byts_length, l1w.2.1, HM.out]
      have ld := load_cells (W := wr) (b := gc) (o := j * 65) hcsl (by rw [hcs]; exact r1)
      have hst : (storeCells ⟨wr.heap.size, 0, none⟩ cs 0).run Try.prog (wr.alloc (.cells Z u)) = .ok () (wr.alloc (.cells cs.toArray u)) :=
        run_storeCells_new wr u Z cs.toArray (by rw [Hu.out, List.size_toArray, hcsl, HM.out]; exact write_size) (by rw [HZ.out]; simp [hcsl, HM.out]) (all_oneCell_toArray (by rw [hcs]; exact write_one n l))
      have HS := Lib.hid hS
      have Hcr := Lib.hid hcr
      have Hl := Lib.hid l1w
      have Hcs := Lib.hid hcs
      clear hS hcr l1w r1 hp1 hp2 hcs
      have Hyes := Lib.hid hyes
      have Hno := Lib.hid hno
      clear hyes hno
      have skip : ∀ W3 : World, W3 = wr.alloc (.cells cs.toArray u) → keep.getD j false = false → DevS W3 F g { st with blocks := applied st (fun i => keep.getD i false) (j + 1) } (.slice (some ⟨gb, 0, none⟩) st.blocks.length nb) (.slice (some ⟨gc, 0, none⟩) st.cache.length nc) bm Pm D E ∧ Chg F w W3 := fun W3 e hk => by
        rw [e, Hno.out hk]
        exact ⟨HS.out.alloc _, Hcr.out.alloc _⟩
      by_cases hjk : j < keep.length
      · obtain ⟨kb, ko, rfl, hkcell⟩ := hkc hjk
        cases hkj : keep[j] with
        | false =>
          rw [hkj] at hkcell
          have hg : keep.getD j false = false := by simp [List.getElem?_eq_getElem hjk, hkj]
          have Hsk := Lib.hid (skip _ rfl hg)
          clear skip
          go_wp2_with fail
          go_roundw
          case rel => exact ⟨j + 1, by omega, by go_num, Hsk.out.1, Hsk.out.2⟩
          case measure => simp [intOf]; omega
        | true =>
          rw [hkj] at hkcell
          have hg : keep.getD j false = true := by simp [List.getElem?_eq_getElem hjk, hkj]
          have Hnext := Lib.hid (Hyes.out hg)
          clear skip
          go_wp2_with fail
          have hS3 := HS.out.alloc (.cells cs.toArray u)
          have hb3 : Blk (wr.alloc (.cells cs.toArray u)) wr.heap.size u cs.toArray := Blk.new wr _ _
          have hc3 : Chg F w (wr.alloc (.cells cs.toArray u)) := Hcr.out.alloc _
          have hms : ∀ i, F i → i ≠ wr.heap.size := fun i hi => Nat.ne_of_lt (HS.out.lt i hi)
          generalize wr.alloc (.cells cs.toArray u) = W3 at *
          generalize wr.heap.size = m at *
          have c0 : W3.cell? ⟨g, 0, none⟩ = some (.slice (some ⟨gb, 0, none⟩) st.blocks.length nb) := hS3.blk.cell 0
          have hrow : Row W3 F 79 64 (.slice (some ⟨gb, 0, none⟩) st.blocks.length nb) st.blocks.length (flat64 (applied st (fun i => keep.getD i false) j)) := by have := hS3.B; rwa [applied_length] at this
          have hlN : (byts l).length = N := by rw [byts_length, Hl.out.2.1, HN.out]
          have hst2 : (storeCells ⟨gb, n * 64, none⟩ (byts l) 0).run Try.prog W3.drew = .ok () (W3.drew.setCells gb (n * 64) (byts l)) :=
            store_cells (N := 64) (by rw [byts_length, Hl.out.2.1]) (hrow.there_ hbn) (byts_one l)
          obtain ⟨cur, hcur⟩ := hrow.blk (k := gb) rfl
          have hgne : g ≠ gb := Blk.ne_ hS3.blk hcur (by decide)
          have keepS : ∀ w4 : World, (∀ i, i ≠ gb → w4.heap[i]? = W3.heap[i]?) → w4.cell? ⟨g, 0, none⟩ = some (.slice (some ⟨gb, 0, none⟩) st.blocks.length nb) ∧ w4.cell? ⟨m, 0, none⟩ = some (.int .i64 (n : Int)) ∧ (loadCellsFrom ⟨m, 1, none⟩ 0 N #[]).run Try.prog w4 = .ok (byts l).toArray w4 := fun w4 h4 => by
            have hb4 : Blk w4 m u cs.toArray := hb3.keep (h4 m (hms gb hFgb).symm)
            refine ⟨(World.cell?_of_block (h4 g hgne)).trans c0, (hb4.cell 0).trans (by rw [Hcs.out]; rfl), load_cells hlN fun jj v hv => ?_⟩
            rw [show 1 + jj = jj + 1 by omega, hb4.cell (jj + 1), Hcs.out]
            simpa using hv
          have hs0 := keepS W3.drew (fun _ _ => rfl)
          have KS := Lib.hid keepS
          have HS3 := Lib.hid hS3
          clear keepS hS3 hrow hcur ld hst
          go_region_held_law (fun w' => w'.cell? ⟨g, 0, none⟩ = some (.slice (some ⟨gb, 0, none⟩) st.blocks.length nb) ∧ w'.cell? ⟨m, 0, none⟩ = some (.int .i64 (n : Int)) ∧ (loadCellsFrom ⟨m, 1, none⟩ 0 N #[]).run Try.prog w' = .ok (byts l).toArray w') (first | exact hs0 | exact KS.out _ (fun i hi => heap_setCells gb _ _ _ _ hi)) (fail)
          go_wp2_with fail
          go_roundw
          case rel =>
            refine ⟨j + 1, by omega, by go_num, ?_, Chg.setCells (.inl hFgb) _ _ _ hc3.drew⟩
            rw [Hnext.out]
            exact HS3.out.drew.apply Hl.out.2.1 Hl.out.2.2
          case measure => simp [intOf]; omega
      · have hg : keep.getD j false = false := by simp [List.getElem?_eq_none (show keep.length ≤ j by omega)]
        have Hsk := Lib.hid (skip _ rfl hg)
        clear skip
        have hjk2 : decide ((j : Int) < (keep.length : Int)) = false := by simp; omega
        go_wp2_with fail
        go_roundw
        case rel => exact ⟨j + 1, by omega, by go_num, Hsk.out.1, Hsk.out.2⟩
        case measure => simp [intOf]; omega
    · have hjn : j = st.cache.length := by omega
      subst hjn
      have hc := Lib.hid (empty_run g wr _ _ (hS.blk.cell 1) (hS.blk.frozen 1) (hS.blk.cell 2) (hS.blk.frozen 2))
      have he := Lib.hid hS.emptied
      have Hcr := Lib.hid hcr
      clear hS hcr
      obtain ⟨h1, h2⟩ := he.out
      have y3 : (emptyW wr g).cell? ⟨g, 3, none⟩ = some (.map Pm) := h1.blk.cell 3
      have z3 := h1.blk.frozen 3
      go_wp2_with (go_at_call 26; refine hc.out.mono ?_; rintro e w' ⟨rfl, rfl⟩)
      refine bodyPost_end (results_none rfl _ _ _) rfl ?_
      have hz := emptyW_size wr g
      have hzr := Hcr.out.size
      have h3 := h1.noPlan
      have hch : Chg F w ((emptyW wr g).setCell ⟨g, 3, none⟩ (.map none)) := (Hcr.out.then_ h2).setCell (.inl Hh.out.fg) _
      refine ⟨rfl, Dev.mono ⟨_, _, _, _, _, _, h3⟩ (fun b hb => ?_) (ext_lt Hh.out.lt hch.size), hch⟩
      rcases hb with hb | hb
      · exact .inl hb
      · exact .inr ⟨by omega, by simpa using hb.2⟩

end Go.Proofs.Ytdengokonaljpaa
