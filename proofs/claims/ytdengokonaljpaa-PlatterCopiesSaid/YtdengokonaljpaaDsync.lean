/- The program's platter: Sync. -/
import Derived.Test.YtdengokonaljpaaDread
import Derived.Test.YtdengokonaljpaaRsync
import Derived.Deep.RegionHeldLaw
namespace Go.Proofs.Ytdengokonaljpaa
open Go.RowKit Go.Maps

theorem write_size : (Try.prog.info? 82).map (·.size) = some 65 := by kernel_rfl

section
variable {w w' : World} {F G : Nat → Prop} {g : Nat} {st : PSt} {Bv Cv : Value} {bm : Nat} {Pm : Option Nat} {D E : DataW Unit}
/-- A block is written. -/
theorem DevS.apply {gb L nb : Nat} (h : DevS w F g st (.slice (some ⟨gb, 0, none⟩) L nb) Cv bm Pm D E) {k : Nat} {l : List Nat} (h64 : l.length = 64) (hl : ∀ x ∈ l, x < 256) :
    DevS (w.setCells gb (k * 64) (byts l)) F g { st with blocks := st.blocks.set k l } (.slice (some ⟨gb, 0, none⟩) L nb) Cv bm Pm D E := by
  obtain ⟨A, c, hf, _⟩ := h.B.form
  have hL : L = st.blocks.length := by injection hf
  subst hL
  obtain ⟨cur, hcur⟩ := h.B.blk (k := gb) rfl
  have far : ∀ i, i ≠ gb → (w.setCells gb (k * 64) (byts l)).heap[i]? = w.heap[i]? := fun i hi => heap_setCells gb _ _ _ _ hi
  have hz := size_setCells gb (byts l) (k * 64) w
  refine ⟨⟨fun x hx => ?_, fun p hp => ?_⟩, fun b hb => by rw [hz]; exact h.lt b hb, h.fg, ?_, ?_, h.C.keep fun b hb => far b fun e => ?_, h.fm, ownsMap_keep h.M (far bm (ownsMap_ne h.M hcur)), h.last, fun b hb => ⟨(h.P b hb).1, (h.P b hb).2.1, ownsMap_keep (h.P b hb).2.2 (far b (ownsMap_ne (h.P b hb).2.2 hcur))⟩, h.due⟩
  · rcases List.mem_or_eq_of_mem_set hx with hx | rfl
    · exact h.wf.b x hx
    · exact ⟨h64, hl⟩
  · have := h.wf.c p hp
    exact ⟨by simpa using this.1, this.2⟩
  · refine Blk.keep ?_ (far g (Blk.ne_ h.blk hcur (by decide)))
    exact h.blk
  · have hr := Row.laid (byts l) (flat64 st.blocks) (k * 64) w h.B
    have hs := flat_set (f := byts) (s := 64) (l := st.blocks) (i := k) (y := l) (by omega) h.wf.b64 (by rw [byts_length, h64])
    unfold flat64 at hr ⊢
    rw [hs] at hr
    simpa using hr
  · subst e
    exact h.C.ne_ hcur (by decide) hb
theorem DevS.drew (h : DevS w F g st Bv Cv bm Pm D E) : DevS w.drew F g st Bv Cv bm Pm D E := h.keep (Nat.le_refl _) (fun _ _ => rfl)
theorem DevS.alloc (h : DevS w F g st Bv Cv bm Pm D E) (o : Obj) : DevS (w.alloc o) F g st Bv Cv bm Pm D E := h.keep (by simp) (fun b hb => Below.heap_alloc _ _ _ (h.lt b hb))
/-- The cache is emptied. -/
theorem DevS.emptied (h : DevS w F g st Bv Cv bm Pm D E) : DevS (emptyW w g) (Ext F w (emptyW w g)) g { st with cache := [] } Bv (.slice none 0 0) w.heap.size Pm (.map []) E ∧ Chg F w (emptyW w g) :=
  Go.Proofs.Ytdengokonaljpaa.emptied h.wf.b h.lt h.fg h.blk h.B (fun b hb => ⟨(h.P b hb).1, (h.P b hb).2.2⟩) h.due
end

theorem write_one (n : Nat) (l : List Nat) : ∀ v ∈ Value.int .i64 (n : Int) :: byts l, v.oneCell' = true := fun v hv => by
  rcases List.mem_cons.1 hv with rfl | hv
  · rfl
  · exact byts_one _ v hv
theorem load_cells {W : World} {b o N : Nat} {cs : List Value} (hl : cs.length = N) (h : W.rangeAt b o cs) : (loadCellsFrom ⟨b, o, none⟩ 0 N #[]).run Try.prog W = .ok cs.toArray W := by
  have := run_loadCells_list (P := Try.prog) W ⟨b, o, none⟩ cs (fun j v hv => by rw [Addr.add_mid]; exact h j v hv)
  rw [hl] at this
  exact this
theorem store_cells {W : World} {b o N : Nat} {cs : List Value} (hl : cs.length = N) (h : W.there b o N) (h1 : ∀ u ∈ cs, u.oneCell' = true) : (storeCells ⟨b, o, none⟩ cs 0).run Try.prog W = .ok () (W.setCells b o cs) := by
  have := run_storeCells_cells (P := Try.prog) b o cs 0 W (fun j hj => by simpa using (h j (by omega)).1) (fun j hj => by simpa using (h j (by omega)).2) h1
  simpa using this
set_option maxHeartbeats 4000000 in
set_option maxRecDepth 5000 in
theorem sync1_any {w : World} {F : Nat → Prop} {g : Nat} {st : PSt} {Bv Cv : Value} {bm : Nat} {Pm : Option Nat} {D E : DataW Unit} (h : DevS w F g st Bv Cv bm Pm D E) (hcl : st.cache.length < 1000000) (hpos : 0 < st.blocks.length) (b1 : Nat)
    (e1 : w.cell? ⟨b1, 0, none⟩ = some (.pointer (some ⟨g, 0, none⟩))) (hn : ¬ F b1) :
    Calls Try.prog 43 #[.pointer (some ⟨b1, 0, none⟩)] w fun e w' => e = .returned (.int .i64 0) ∧ Dev w' (Ext F w w') g { st with blocks := applied st (fun _ => true) st.cache.length, cache := [] } ∧ Chg F w w' := by
  obtain ⟨A, nb, rfl, hnb, hA⟩ := h.B.form
  obtain ⟨gb, rfl, hFgb, _⟩ := h.B.at_ hpos
  obtain ⟨A1, nc, rfl, hnc, hA1⟩ := h.C.form
  have x1 : w.cell? ⟨g, 1, none⟩ = some (.slice A1 st.cache.length nc) := h.blk.cell 1
  obtain ⟨t, ht⟩ : ∃ t : TypeId, t = 79 := ⟨_, rfl⟩
  have hagg : ∀ w, (isAgg t).run Try.prog w = .ok true w := by rw [ht]; intro w; kernel_rfl
  obtain ⟨N, hN⟩ : ∃ N : Nat, N = 64 := ⟨_, rfl⟩
  have hsz : ∀ w, (sizeOf t).run Try.prog w = .ok N w := by rw [ht, hN]; intro w; kernel_rfl
  obtain ⟨u, hu⟩ : ∃ u : TypeId, u = 82 := ⟨_, rfl⟩
  have hagg2 : ∀ w, (isAgg u).run Try.prog w = .ok true w := by rw [hu]; intro w; kernel_rfl
  obtain ⟨M, hM⟩ : ∃ M : Nat, M = 65 := ⟨_, rfl⟩
  have hsz2 : ∀ w, (sizeOf u).run Try.prog w = .ok M w := by rw [hu, hM]; intro w; kernel_rfl
  obtain ⟨Z, hZ⟩ : ∃ Z : Array Value, Z = #[.int .i64 0] ++ Array.replicate 64 (.int .u8 0) := ⟨_, rfl⟩
  have hz0 : ∀ w, (zeroValue u).run Try.prog w = .ok (.agg Z) w := by rw [hu, hZ]; intro w; kernel_rfl
  have hund := Try.underlying82
  rw [← hu] at hund
  have hund2 := fun w => run_underlying hund w
  have Ht := Lib.hid ht
  have Hu := Lib.hid hu
  have HN := Lib.hid hN
  have HM := Lib.hid hM
  have HZ := Lib.hid hZ
  have Hh := Lib.hid h
  clear ht hu hN hM hZ hund
  go_enter Try.func43, Try.ntmps43
  rw [← Ht.out, ← Hu.out]
  go_wp2_with fail
  go_loopw [9] (fun i wr => ∃ j : Nat, j ≤ st.cache.length ∧ i = .int .i64 j ∧ DevS wr F g { st with blocks := applied st (fun _ => true) j } (.slice (some ⟨gb, 0, none⟩) st.blocks.length nb) (.slice A1 st.cache.length nc) bm Pm D E ∧ Chg F w wr) (fun i _ => st.cache.length - (intOf i).toNat)
  case atStart => exact ⟨0, Nat.zero_le _, rfl, Hh.out, Chg.refl _ _⟩
  case round =>
    obtain ⟨j, hj, rfl, hS, hcr⟩ := hrel
    have e1r : wr.cell? ⟨b1, 0, none⟩ = some (.pointer (some ⟨g, 0, none⟩)) := (World.cell?_of_block (hcr.block b1 (World.block_lt_of_cell? _ _ e1) hn)).trans e1
    by_cases hlt2 : j < st.cache.length
    · obtain ⟨gc, rfl⟩ : ∃ gc, A1 = some ⟨gc, 0, none⟩ := by obtain ⟨gc, e, _⟩ := hS.C.at_ (show 0 < st.cache.length by omega); exact ⟨gc, e⟩
      have l1w := hS.wf.c st.cache[j] (List.getElem_mem _)
      have hbn : st.cache[j].1 < st.blocks.length := by simpa [applied_length] using l1w.1
      have r1 := hS.C.range (f := fun p : Nat × List Nat => num p.1 :: byts p.2) (l := st.cache) hS.wf.c65 rfl hlt2
      have hnext := part_yes (keep := fun _ => true) hlt2 rfl
      generalize hp1 : st.cache[j].1 = n at *
      generalize hp2 : st.cache[j].2 = l at *
      obtain ⟨cs, hcs⟩ : ∃ cs : List Value, cs = .int .i64 (n : Int) :: byts l := ⟨_, rfl⟩
      have hcsl : cs.length = M := by rw [hcs, List.length_cons, byts_length, l1w.2.1, HM.out]
      have ld := load_cells (W := wr) (b := gc) (o := j * 65) hcsl (by rw [hcs]; exact r1)
      have hst : (storeCells ⟨wr.heap.size, 0, none⟩ cs 0).run Try.prog (wr.alloc (.cells Z u)) = .ok () (wr.alloc (.cells cs.toArray u)) :=
        run_storeCells_new wr u Z cs.toArray (by rw [Hu.out, List.size_toArray, hcsl, HM.out]; exact write_size) (by rw [HZ.out]; simp [hcsl, HM.out]) (all_oneCell_toArray (by rw [hcs]; exact write_one n l))
      have HS := Lib.hid hS
      have Hcr := Lib.hid hcr
      have Hnext := Lib.hid hnext
      have Hl := Lib.hid l1w
      have Hcs := Lib.hid hcs
      clear hS hcr hnext l1w r1 hp1 hp2 hcs
      go_wp2_with fail
      have hS3 := HS.out.alloc (.cells cs.toArray u)
      have hb3 : Blk (wr.alloc (.cells cs.toArray u)) wr.heap.size u cs.toArray := Blk.new wr _ _
      have hc3 : Chg F w (wr.alloc (.cells cs.toArray u)) := Hcr.out.alloc _
      have e1w : (wr.alloc (.cells cs.toArray u)).cell? ⟨b1, 0, none⟩ = some (.pointer (some ⟨g, 0, none⟩)) := by rw [World.cell?_alloc_lt _ _ _ (World.block_lt_of_cell? _ _ e1r)]; exact e1r
      have hms : ∀ i, F i → i ≠ wr.heap.size := fun i hi => Nat.ne_of_lt (HS.out.lt i hi)
      have hb1m : b1 ≠ wr.heap.size := Nat.ne_of_lt (World.block_lt_of_cell? _ _ e1r)
      generalize wr.alloc (.cells cs.toArray u) = W3 at *
      generalize wr.heap.size = m at *
      have c0 : W3.cell? ⟨g, 0, none⟩ = some (.slice (some ⟨gb, 0, none⟩) st.blocks.length nb) := hS3.blk.cell 0
      have hrow : Row W3 F 79 64 (.slice (some ⟨gb, 0, none⟩) st.blocks.length nb) st.blocks.length (flat64 (applied st (fun _ => true) j)) := by have := hS3.B; rwa [applied_length] at this
      have hlN : (byts l).length = N := by rw [byts_length, Hl.out.2.1, HN.out]
      have hst2 : (storeCells ⟨gb, n * 64, none⟩ (byts l) 0).run Try.prog W3.drew = .ok () (W3.drew.setCells gb (n * 64) (byts l)) :=
        store_cells (N := 64) (by rw [byts_length, Hl.out.2.1]) (hrow.there_ hbn) (byts_one l)
      obtain ⟨cur, hcur⟩ := hrow.blk (k := gb) rfl
      have hgne : g ≠ gb := Blk.ne_ hS3.blk hcur (by decide)
      have keepS : ∀ w4 : World, (∀ i, i ≠ gb → w4.heap[i]? = W3.heap[i]?) → w4.cell? ⟨b1, 0, none⟩ = some (.pointer (some ⟨g, 0, none⟩)) ∧ w4.cell? ⟨g, 0, none⟩ = some (.slice (some ⟨gb, 0, none⟩) st.blocks.length nb) ∧ w4.cell? ⟨m, 0, none⟩ = some (.int .i64 (n : Int)) ∧ (loadCellsFrom ⟨m, 1, none⟩ 0 N #[]).run Try.prog w4 = .ok (byts l).toArray w4 := fun w4 h4 => by
        have hb4 : Blk w4 m u cs.toArray := hb3.keep (h4 m (hms gb hFgb).symm)
        refine ⟨(World.cell?_of_block (h4 b1 (fun e => hn (e ▸ hFgb)))).trans e1w, (World.cell?_of_block (h4 g hgne)).trans c0, (hb4.cell 0).trans (by rw [Hcs.out]; rfl), load_cells hlN fun jj v hv => ?_⟩
        rw [show 1 + jj = jj + 1 by omega, hb4.cell (jj + 1), Hcs.out]
        simpa using hv
      have hs0 := keepS W3.drew (fun _ _ => rfl)
      have KS := Lib.hid keepS
      have HS3 := Lib.hid hS3
      clear keepS hS3 hrow hcur ld hst
      go_region_held_law (fun w' => w'.cell? ⟨b1, 0, none⟩ = some (.pointer (some ⟨g, 0, none⟩)) ∧ w'.cell? ⟨g, 0, none⟩ = some (.slice (some ⟨gb, 0, none⟩) st.blocks.length nb) ∧ w'.cell? ⟨m, 0, none⟩ = some (.int .i64 (n : Int)) ∧ (loadCellsFrom ⟨m, 1, none⟩ 0 N #[]).run Try.prog w' = .ok (byts l).toArray w') (first | exact hs0 | exact KS.out _ (fun i hi => heap_setCells gb _ _ _ _ hi)) (fail)
      go_wp2_with fail
      go_roundw
      case rel =>
        refine ⟨j + 1, by omega, by go_num, ?_, Chg.setCells (.inl hFgb) _ _ _ hc3.drew⟩
        rw [Hnext.out]
        exact HS3.out.drew.apply Hl.out.2.1 Hl.out.2.2
      case measure => simp [intOf]; omega
    · have hjn : j = st.cache.length := by omega
      subst hjn
      have hc := Lib.hid (empty_run g wr _ _ (hS.blk.cell 1) (hS.blk.frozen 1) (hS.blk.cell 2) (hS.blk.frozen 2))
      have he := Lib.hid hS.emptied
      have Hcr := Lib.hid hcr
      clear hS hcr
      go_wp2_with (go_at_call 26; refine hc.out.mono ?_; rintro e w' ⟨rfl, rfl⟩)
      go_ret
      obtain ⟨h1, h2⟩ := he.out
      have hz := emptyW_size wr g
      have hzr := Hcr.out.size
      refine ⟨rfl, Dev.mono ⟨_, _, _, _, _, _, h1⟩ (fun b hb => ?_) (ext_lt Hh.out.lt (by omega)), Hcr.out.then_ h2⟩
      rcases hb with hb | hb
      · exact .inl hb
      · exact .inr ⟨by omega, hb.2⟩

theorem enter_sync1 (cap : Array Value) (w : World) : (callFunc 43 cap).run Try.prog w = .ok (.enter 43 cap) w := by
  first | kernel_rfl | simp [go_sem, Try.func43]
set_option maxHeartbeats 2000000 in
theorem dsync_any (g : Nat) (st : PSt) (F : Nat → Prop) (w : World) (h : Dev w F g st) (hs : st.ops 3 < 1000000) (hcl : st.cache.length < 1000000) (hpos : 0 < st.blocks.length) :
    Calls Try.prog 22 #[.pointer (some ⟨g, 0, none⟩)] w fun e w' => e = .returned (.int .i64 st.sync.1) ∧ Dev w' (Ext F w w') g st.sync.2 ∧ Chg F w w' := by
  have hmf : ∀ (fn : Fn) (first cap : Array Value) (w : World), (Instr.makeFunc fn first cap).run Try.prog w = .ok (.func fn first cap) w := fun _ _ _ _ => rfl
  generalize hw1 : w.alloc (.cells #[.pointer (some ⟨g, 0, none⟩)] 24) = w1
  have hz1 : w1.heap.size = w.heap.size + 1 := by rw [← hw1]; simp
  have hb1 : Below w.heap.size w w1 := by rw [← hw1]; exact (Below.refl _ _).alloc (Nat.le_refl _) _
  have hF := h.lt
  have h1 : Dev w1 F g st := h.keep (by omega) (fun b hb => hb1.block b (hF b hb))
  have e3 : w1.cell? ⟨w.heap.size, 0, none⟩ = some (.pointer (some ⟨g, 0, none⟩)) := by rw [← hw1]; simp [go_sem]
  have hFn : ¬ F w.heap.size := fun hf => by have := hF _ hf; omega
  by_cases hhit : (st.count 3).hit 3 = true
  · have hw : st.sync = (6, st.count 3) := by unfold PSt.sync; rw [if_pos hhit]
    rw [hw]
    have hc := Lib.hid (dev_hit h1 3 (fun w h => begin3_hit g st F w h hs hhit) 43 #[.pointer (some ⟨w.heap.size, 0, none⟩)])
    go_enter Try.func22, Try.ntmps22
    go_wp2_with (go_at_call 38; refine hc.out.mono ?_; rintro e w' ⟨rfl, h2, hc2⟩)
    go_ret
    exact ⟨rfl, h2.mono (fun _ h => .inl h) (ext_lt hF (Nat.le_trans hb1.size hc2.size)), (Chg.of_below F hb1).then_ hc2⟩
  have hno : (st.count 3).hit 3 = false := by simpa using hhit
  have hw : st.sync = (0, { st.count 3 with blocks := applied st (fun _ => true) st.cache.length, cache := [] }) := by unfold PSt.sync; rw [if_neg hhit]
  rw [hw]
  have hc := Lib.hid (dev_ok h1 (fun _ h => h) h1.lt 3 0 (fun w h => begin3_no g st F w h hs hno) 43 #[.pointer (some ⟨w.heap.size, 0, none⟩)] (enter_sync1 _) (fun _ => True) (st2 := { st.count 3 with blocks := applied st (fun _ => true) st.cache.length, cache := [] })
    (fun w2 h2 hc2 => by
      obtain ⟨Bv, Cv, bm, Pm, D, E, hS⟩ := h2
      have x3 : w2.cell? ⟨w.heap.size, 0, none⟩ = some (.pointer (some ⟨g, 0, none⟩)) := (World.cell?_of_block ((hc2.block w.heap.size (by rw [opW_size]; omega) hFn).trans (Below.heap_alloc _ _ _ (by omega)))).trans e3
      refine (sync1_any hS hcl hpos w.heap.size x3 hFn).mono ?_
      rintro e w3 ⟨rfl, h3, hc3⟩
      have hap : ∀ j, applied (st.count 3) (fun _ => true) j = applied st (fun _ => true) j := fun j => by
        induction j with
        | zero => rfl
        | succ j ih => rw [applied, applied, ih]; rfl
      refine ⟨rfl, ?_, hc3, trivial⟩
      rw [← hap]
      exact h3) (fun _ _ _ _ => trivial))
  go_enter Try.func22, Try.ntmps22
  go_wp2_with (go_at_call 38; refine hc.out.mono ?_; rintro e w' ⟨rfl, h2, hc2, _⟩)
  go_ret
  refine ⟨rfl, h2.mono (fun b hb => ?_) (ext_lt hF (Nat.le_trans hb1.size hc2.size)), (Chg.of_below F hb1).then_ hc2⟩
  rcases hb with hb | hb
  · exact .inl hb
  · exact .inr ⟨by omega, hb.2⟩
end Go.Proofs.Ytdengokonaljpaa
