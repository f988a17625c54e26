/- The program's platter: counting an operation, which may be planned to fail. -/
import Derived.Test.YtaainefdjbmekaaSbb
import Derived.Recover
import Derived.Laws.Pointers
namespace Go.Proofs.Ytaainefdjbmekaa
open Go.RowKit Go.Maps
theorem turned_size {w w' : World} {b : Nat} (h : w.mapTurned w' b) : w'.heap.size = w.heap.size := by
  obtain ⟨es, clock, es', clock', hb, rfl⟩ := h
  simp [ChangeMaps.setBlock]
set_option maxHeartbeats 2000000 in
theorem begin1_no (g : Nat) (st : PSt) (F : Nat → Prop) (w : World) (h : Dev w F g st) (hs : st.ops 1 < 1000000) (hno : (st.count 1).hit 1 = false) :
    Calls Try.prog 81 #[.pointer (some ⟨g, 0, none⟩), .int .i64 1] w fun e w' => e = .returned (.tuple #[]) ∧ Dev w' F g (st.count 1) ∧ Chg F w w' := by
  obtain ⟨Bv, Cv, bm, Pm, D, E, h⟩ := h
  have c5 : w.cell? ⟨g, 5, none⟩ = some (.int .i64 (st.ops 1 : Int)) := h.blk.cell 5
  have f5 := h.blk.frozen 5
  have h1 := (h.counted (k := 1) (by omega)).keep (w' := (w.setCell ⟨g, 5, none⟩ (pnum (st.ops 1 + 1))).drew) (Nat.le_refl _) (fun _ _ => rfl)
  have H := Lib.hid h
  have H1 := Lib.hid h1
  clear h h1
  go_enter Try.func81, Try.ntmps81
  go_wp2_with fail
  go_region
  go_wp2_with fail
  generalize hw2 : ((w.setCell ⟨g, 5, none⟩ (.int .i64 ((st.ops 1 : Int) + 1))).alloc (.cells #[.int .i64 1, .int .i64 ((st.ops 1 : Int) + 1)] 100)).drew = w2
  have h2 : DevS w2 F g (st.count 1) Bv Cv bm Pm D E := by
    rw [← hw2]
    exact H1.out.keep (by simp) (fun b hb => Below.heap_alloc _ _ _ (by simpa using H.out.lt b hb))
  have hc2 : Chg F w w2 := by rw [← hw2]; exact (((Chg.refl F w).setCell (.inl H.out.fg) _).alloc _).drew
  have e0 : w2.cell? ⟨w.heap.size, 0, none⟩ = some (.int .i64 1) := by rw [← hw2]; exact cell_fresh (by simp)
  have e1 : w2.cell? ⟨w.heap.size, 1, none⟩ = some (.int .i64 ((st.ops 1 : Int) + 1)) := by rw [← hw2]; exact cell_fresh (by simp)
  have e0a : ∀ o, (w2.alloc o).cell? ⟨w.heap.size, 0, none⟩ = some (.int .i64 1) := fun o => by rw [World.cell?_alloc_lt _ _ _ (World.block_lt_of_cell? _ _ e0)]; exact e0
  have e1a : ∀ o, (w2.alloc o).cell? ⟨w.heap.size, 1, none⟩ = some (.int .i64 ((st.ops 1 : Int) + 1)) := fun o => by rw [World.cell?_alloc_lt _ _ _ (World.block_lt_of_cell? _ _ e1)]; exact e1
  have p2 : w2.cell? ⟨g, 3, none⟩ = some (.map Pm) := h2.blk.cell 3
  have p2a : ∀ o, (w2.alloc o).cell? ⟨g, 3, none⟩ = some (.map Pm) := fun o => (h2.blk.alloc o).cell 3
  have hl : ∀ w', (∀ b, F b → w'.heap[b]? = w2.heap[b]?) → (Instr.lookup 95 (.map Pm) (.agg #[.int .i64 1, .int .i64 ((st.ops 1 : Int) + 1)]) true).run Try.prog w' = .ok (.tuple #[.agg #[], .bool (Pm.isSome && has E (fk 1 ((st.ops 1 : Int) + 1)))]) w' := fun w' hw' =>
    look_planned (w := w') (fun b hb => ownsMap_keep (h2.P b hb).2.2 (hw' b (h2.P b hb).1)) (wf_i64 (by omega) (by omega)) (wf_i64 (by omega) (by omega))
  have hdue : (Pm.isSome && has E (fk 1 ((st.ops 1 : Int) + 1))) = false := by
    have := H.out.due 1 (st.ops 1 + 1) (by omega) (by omega) (by omega) (by omega)
    rw [← hit_due, hno] at this
    exact this
  rw [hdue] at hl
  clear hw2 H H1 c5 f5 hno hdue
  have H2 := Lib.hid h2
  have Hc := Lib.hid hc2
  have l1 := hl w2.drew (fun _ _ => rfl)
  have l2 := fun o => hl (w2.drew.alloc o) (fun b hb => Below.heap_alloc _ _ _ (H2.out.lt b hb))
  have l3 := fun o => hl (w2.alloc o).drew (fun b hb => Below.heap_alloc _ _ _ (H2.out.lt b hb))
  clear h2 hc2 hl
  go_region
  all_goals
    go_wp2_with fail
    refine bodyPost_end (results_none rfl _ _ _) rfl ?_
    exact ⟨rfl, ⟨_, _, _, _, _, _, H2.out.keep (by simp) (fun b hb => Below.heap_alloc _ _ _ (H2.out.lt b hb))⟩, (Hc.out.alloc _).drew⟩
set_option maxHeartbeats 2000000 in
theorem begin1_hit (g : Nat) (st : PSt) (F : Nat → Prop) (w : World) (h : Dev w F g st) (hs : st.ops 1 < 1000000) (hno : (st.count 1).hit 1 = true) :
    Calls Try.prog 81 #[.pointer (some ⟨g, 0, none⟩), .int .i64 1] w fun e w' => e = .panicked [{ v := .iface 159 (.agg #[]), recovered := false }] ∧ Dev w' F g (st.count 1) ∧ Chg F w w' := by
  obtain ⟨Bv, Cv, bm, Pm, D, E, h⟩ := h
  have c5 : w.cell? ⟨g, 5, none⟩ = some (.int .i64 (st.ops 1 : Int)) := h.blk.cell 5
  have f5 := h.blk.frozen 5
  have h1 := (h.counted (k := 1) (by omega)).keep (w' := (w.setCell ⟨g, 5, none⟩ (pnum (st.ops 1 + 1))).drew) (Nat.le_refl _) (fun _ _ => rfl)
  have H := Lib.hid h
  have H1 := Lib.hid h1
  clear h h1
  go_enter Try.func81, Try.ntmps81
  go_wp2_with fail
  go_region
  go_wp2_with fail
  generalize hw2 : ((w.setCell ⟨g, 5, none⟩ (.int .i64 ((st.ops 1 : Int) + 1))).alloc (.cells #[.int .i64 1, .int .i64 ((st.ops 1 : Int) + 1)] 100)).drew = w2
  have h2 : DevS w2 F g (st.count 1) Bv Cv bm Pm D E := by
    rw [← hw2]
    exact H1.out.keep (by simp) (fun b hb => Below.heap_alloc _ _ _ (by simpa using H.out.lt b hb))
  have hc2 : Chg F w w2 := by rw [← hw2]; exact (((Chg.refl F w).setCell (.inl H.out.fg) _).alloc _).drew
  have e0 : w2.cell? ⟨w.heap.size, 0, none⟩ = some (.int .i64 1) := by rw [← hw2]; exact cell_fresh (by simp)
  have e1 : w2.cell? ⟨w.heap.size, 1, none⟩ = some (.int .i64 ((st.ops 1 : Int) + 1)) := by rw [← hw2]; exact cell_fresh (by simp)
  have e0a : ∀ o, (w2.alloc o).cell? ⟨w.heap.size, 0, none⟩ = some (.int .i64 1) := fun o => by rw [World.cell?_alloc_lt _ _ _ (World.block_lt_of_cell? _ _ e0)]; exact e0
  have e1a : ∀ o, (w2.alloc o).cell? ⟨w.heap.size, 1, none⟩ = some (.int .i64 ((st.ops 1 : Int) + 1)) := fun o => by rw [World.cell?_alloc_lt _ _ _ (World.block_lt_of_cell? _ _ e1)]; exact e1
  have p2 : w2.cell? ⟨g, 3, none⟩ = some (.map Pm) := h2.blk.cell 3
  have p2a : ∀ o, (w2.alloc o).cell? ⟨g, 3, none⟩ = some (.map Pm) := fun o => (h2.blk.alloc o).cell 3
  have hl : ∀ w', (∀ b, F b → w'.heap[b]? = w2.heap[b]?) → (Instr.lookup 95 (.map Pm) (.agg #[.int .i64 1, .int .i64 ((st.ops 1 : Int) + 1)]) true).run Try.prog w' = .ok (.tuple #[.agg #[], .bool (Pm.isSome && has E (fk 1 ((st.ops 1 : Int) + 1)))]) w' := fun w' hw' =>
    look_planned (w := w') (fun b hb => ownsMap_keep (h2.P b hb).2.2 (hw' b (h2.P b hb).1)) (wf_i64 (by omega) (by omega)) (wf_i64 (by omega) (by omega))
  have hdue : (Pm.isSome && has E (fk 1 ((st.ops 1 : Int) + 1))) = true := by
    have := H.out.due 1 (st.ops 1 + 1) (by omega) (by omega) (by omega) (by omega)
    rw [← hit_due, hno] at this
    exact this
  obtain ⟨m, rfl⟩ : ∃ m, Pm = some m := by
    cases Pm with
    | none => simp at hdue
    | some m => exact ⟨m, rfl⟩
  rw [hdue] at hl
  clear hw2 H H1 c5 f5 hno hdue
  have H2 := Lib.hid h2
  have Hc := Lib.hid hc2
  have l1 := hl w2.drew (fun _ _ => rfl)
  have l2 := fun o => hl (w2.drew.alloc o) (fun b hb => Below.heap_alloc _ _ _ (H2.out.lt b hb))
  have l3 := fun o => hl (w2.alloc o).drew (fun b hb => Below.heap_alloc _ _ _ (H2.out.lt b hb))
  clear h2 hc2 hl
  go_region
  all_goals
    go_wp2_with fail
    generalize hw4 : (w2.alloc (.cells #[] 101)).drew = w4
    have h4 : DevS w4 F g (st.count 1) Bv Cv bm (some m) D E := by
      rw [← hw4]
      exact H2.out.keep (by simp) (fun b hb => Below.heap_alloc _ _ _ (H2.out.lt b hb))
    have hc4 : Chg F w w4 := by rw [← hw4]; exact (Hc.out.alloc _).drew
    have g0 : w4.cell? ⟨w.heap.size, 0, none⟩ = some (.int .i64 1) := by rw [← hw4]; exact e0a _
    have g1 : w4.cell? ⟨w.heap.size, 1, none⟩ = some (.int .i64 ((st.ops 1 : Int) + 1)) := by rw [← hw4]; exact e1a _
    have p4 : w4.cell? ⟨g, 3, none⟩ = some (.map (some m)) := h4.blk.cell 3
    obtain ⟨hFm, hmb, hown⟩ := h4.P m rfl
    obtain ⟨w5, hrun, hown5, hturn⟩ := (World.ownsMap.drew hown).drop kfault Try.underlying95 (key_fault 1 ((st.ops 1 : Int) + 1) (wf_i64 (by omega) (by omega)) (wf_i64 (by omega) (by omega))) 0
    have H4 := Lib.hid h4
    have Hc4 := Lib.hid hc4
    have Ho := Lib.hid hown5
    have Ht := Lib.hid hturn
    clear hw4 l1 l2 l3 e0 e1 e0a e1a p2 p2a hown hown5 hturn h4 hc4
    go_region
    all_goals
      go_wp2_with fail
      have h5 := DevS.struck (w := w4.drew) (w' := w5) (H4.out.keep (Nat.le_refl _) (fun _ _ => rfl)) (a := 1) (j := st.ops 1 + 1) (by omega) (by simp [PSt.count, bump]) (by simp [PSt.count, bump]; omega) Ho.out Ht.out.grown (turned_size Ht.out)
      exact ⟨rfl, rfl, ⟨_, _, _, _, _, _, h5⟩, Hc4.out.drew.grown Ht.out.grown (fun k hk => .inl (by injection hk with hk; subst hk; exact hFm))⟩
set_option maxHeartbeats 2000000 in
theorem begin2_no (g : Nat) (st : PSt) (F : Nat → Prop) (w : World) (h : Dev w F g st) (hs : st.ops 2 < 1000000) (hno : (st.count 2).hit 2 = false) :
    Calls Try.prog 81 #[.pointer (some ⟨g, 0, none⟩), .int .i64 2] w fun e w' => e = .returned (.tuple #[]) ∧ Dev w' F g (st.count 2) ∧ Chg F w w' := by
  obtain ⟨Bv, Cv, bm, Pm, D, E, h⟩ := h
  have c5 : w.cell? ⟨g, 6, none⟩ = some (.int .i64 (st.ops 2 : Int)) := h.blk.cell 6
  have f5 := h.blk.frozen 6
  have h1 := (h.counted (k := 2) (by omega)).keep (w' := (w.setCell ⟨g, 6, none⟩ (pnum (st.ops 2 + 1))).drew) (Nat.le_refl _) (fun _ _ => rfl)
  have H := Lib.hid h
  have H1 := Lib.hid h1
  clear h h1
  go_enter Try.func81, Try.ntmps81
  go_wp2_with fail
  go_region
  go_wp2_with fail
  generalize hw2 : ((w.setCell ⟨g, 6, none⟩ (.int .i64 ((st.ops 2 : Int) + 1))).alloc (.cells #[.int .i64 2, .int .i64 ((st.ops 2 : Int) + 1)] 100)).drew = w2
  have h2 : DevS w2 F g (st.count 2) Bv Cv bm Pm D E := by
    rw [← hw2]
    exact H1.out.keep (by simp) (fun b hb => Below.heap_alloc _ _ _ (by simpa using H.out.lt b hb))
  have hc2 : Chg F w w2 := by rw [← hw2]; exact (((Chg.refl F w).setCell (.inl H.out.fg) _).alloc _).drew
  have e0 : w2.cell? ⟨w.heap.size, 0, none⟩ = some (.int .i64 2) := by rw [← hw2]; exact cell_fresh (by simp)
  have e1 : w2.cell? ⟨w.heap.size, 1, none⟩ = some (.int .i64 ((st.ops 2 : Int) + 1)) := by rw [← hw2]; exact cell_fresh (by simp)
  have e0a : ∀ o, (w2.alloc o).cell? ⟨w.heap.size, 0, none⟩ = some (.int .i64 2) := fun o => by rw [World.cell?_alloc_lt _ _ _ (World.block_lt_of_cell? _ _ e0)]; exact e0
  have e1a : ∀ o, (w2.alloc o).cell? ⟨w.heap.size, 1, none⟩ = some (.int .i64 ((st.ops 2 : Int) + 1)) := fun o => by rw [World.cell?_alloc_lt _ _ _ (World.block_lt_of_cell? _ _ e1)]; exact e1
  have p2 : w2.cell? ⟨g, 3, none⟩ = some (.map Pm) := h2.blk.cell 3
  have p2a : ∀ o, (w2.alloc o).cell? ⟨g, 3, none⟩ = some (.map Pm) := fun o => (h2.blk.alloc o).cell 3
  have hl : ∀ w', (∀ b, F b → w'.heap[b]? = w2.heap[b]?) → (Instr.lookup 95 (.map Pm) (.agg #[.int .i64 2, .int .i64 ((st.ops 2 : Int) + 1)]) true).run Try.prog w' = .ok (.tuple #[.agg #[], .bool (Pm.isSome && has E (fk 2 ((st.ops 2 : Int) + 1)))]) w' := fun w' hw' =>
    look_planned (w := w') (fun b hb => ownsMap_keep (h2.P b hb).2.2 (hw' b (h2.P b hb).1)) (wf_i64 (by omega) (by omega)) (wf_i64 (by omega) (by omega))
  have hdue : (Pm.isSome && has E (fk 2 ((st.ops 2 : Int) + 1))) = false := by
    have := H.out.due 2 (st.ops 2 + 1) (by omega) (by omega) (by omega) (by omega)
    rw [← hit_due, hno] at this
    exact this
  rw [hdue] at hl
  clear hw2 H H1 c5 f5 hno hdue
  have H2 := Lib.hid h2
  have Hc := Lib.hid hc2
  have l1 := hl w2.drew (fun _ _ => rfl)
  have l2 := fun o => hl (w2.drew.alloc o) (fun b hb => Below.heap_alloc _ _ _ (H2.out.lt b hb))
  have l3 := fun o => hl (w2.alloc o).drew (fun b hb => Below.heap_alloc _ _ _ (H2.out.lt b hb))
  clear h2 hc2 hl
  go_region
  all_goals
    go_wp2_with fail
    refine bodyPost_end (results_none rfl _ _ _) rfl ?_
    exact ⟨rfl, ⟨_, _, _, _, _, _, H2.out.keep (by simp) (fun b hb => Below.heap_alloc _ _ _ (H2.out.lt b hb))⟩, (Hc.out.alloc _).drew⟩
set_option maxHeartbeats 2000000 in
theorem begin2_hit (g : Nat) (st : PSt) (F : Nat → Prop) (w : World) (h : Dev w F g st) (hs : st.ops 2 < 1000000) (hno : (st.count 2).hit 2 = true) :
    Calls Try.prog 81 #[.pointer (some ⟨g, 0, none⟩), .int .i64 2] w fun e w' => e = .panicked [{ v := .iface 159 (.agg #[]), recovered := false }] ∧ Dev w' F g (st.count 2) ∧ Chg F w w' := by
  obtain ⟨Bv, Cv, bm, Pm, D, E, h⟩ := h
  have c5 : w.cell? ⟨g, 6, none⟩ = some (.int .i64 (st.ops 2 : Int)) := h.blk.cell 6
  have f5 := h.blk.frozen 6
  have h1 := (h.counted (k := 2) (by omega)).keep (w' := (w.setCell ⟨g, 6, none⟩ (pnum (st.ops 2 + 1))).drew) (Nat.le_refl _) (fun _ _ => rfl)
  have H := Lib.hid h
  have H1 := Lib.hid h1
  clear h h1
  go_enter Try.func81, Try.ntmps81
  go_wp2_with fail
  go_region
  go_wp2_with fail
  generalize hw2 : ((w.setCell ⟨g, 6, none⟩ (.int .i64 ((st.ops 2 : Int) + 1))).alloc (.cells #[.int .i64 2, .int .i64 ((st.ops 2 : Int) + 1)] 100)).drew = w2
  have h2 : DevS w2 F g (st.count 2) Bv Cv bm Pm D E := by
    rw [← hw2]
    exact H1.out.keep (by simp) (fun b hb => Below.heap_alloc _ _ _ (by simpa using H.out.lt b hb))
  have hc2 : Chg F w w2 := by rw [← hw2]; exact (((Chg.refl F w).setCell (.inl H.out.fg) _).alloc _).drew
  have e0 : w2.cell? ⟨w.heap.size, 0, none⟩ = some (.int .i64 2) := by rw [← hw2]; exact cell_fresh (by simp)
  have e1 : w2.cell? ⟨w.heap.size, 1, none⟩ = some (.int .i64 ((st.ops 2 : Int) + 1)) := by rw [← hw2]; exact cell_fresh (by simp)
  have e0a : ∀ o, (w2.alloc o).cell? ⟨w.heap.size, 0, none⟩ = some (.int .i64 2) := fun o => by rw [World.cell?_alloc_lt _ _ _ (World.block_lt_of_cell? _ _ e0)]; exact e0
  have e1a : ∀ o, (w2.alloc o).cell? ⟨w.heap.size, 1, none⟩ = some (.int .i64 ((st.ops 2 : Int) + 1)) := fun o => by rw [World.cell?_alloc_lt _ _ _ (World.block_lt_of_cell? _ _ e1)]; exact e1
  have p2 : w2.cell? ⟨g, 3, none⟩ = some (.map Pm) := h2.blk.cell 3
  have p2a : ∀ o, (w2.alloc o).cell? ⟨g, 3, none⟩ = some (.map Pm) := fun o => (h2.blk.alloc o).cell 3
  have hl : ∀ w', (∀ b, F b → w'.heap[b]? = w2.heap[b]?) → (Instr.lookup 95 (.map Pm) (.agg #[.int .i64 2, .int .i64 ((st.ops 2 : Int) + 1)]) true).run Try.prog w' = .ok (.tuple #[.agg #[], .bool (Pm.isSome && has E (fk 2 ((st.ops 2 : Int) + 1)))]) w' := fun w' hw' =>
    look_planned (w := w') (fun b hb => ownsMap_keep (h2.P b hb).2.2 (hw' b (h2.P b hb).1)) (wf_i64 (by omega) (by omega)) (wf_i64 (by omega) (by omega))
  have hdue : (Pm.isSome && has E (fk 2 ((st.ops 2 : Int) + 1))) = true := by
    have := H.out.due 2 (st.ops 2 + 1) (by omega) (by omega) (by omega) (by omega)
    rw [← hit_due, hno] at this
    exact this
  obtain ⟨m, rfl⟩ : ∃ m, Pm = some m := by
    cases Pm with
    | none => simp at hdue
    | some m => exact ⟨m, rfl⟩
  rw [hdue] at hl
  clear hw2 H H1 c5 f5 hno hdue
  have H2 := Lib.hid h2
  have Hc := Lib.hid hc2
  have l1 := hl w2.drew (fun _ _ => rfl)
  have l2 := fun o => hl (w2.drew.alloc o) (fun b hb => Below.heap_alloc _ _ _ (H2.out.lt b hb))
  have l3 := fun o => hl (w2.alloc o).drew (fun b hb => Below.heap_alloc _ _ _ (H2.out.lt b hb))
  clear h2 hc2 hl
  go_region
  all_goals
    go_wp2_with fail
    generalize hw4 : (w2.alloc (.cells #[] 101)).drew = w4
    have h4 : DevS w4 F g (st.count 2) Bv Cv bm (some m) D E := by
      rw [← hw4]
      exact H2.out.keep (by simp) (fun b hb => Below.heap_alloc _ _ _ (H2.out.lt b hb))
    have hc4 : Chg F w w4 := by rw [← hw4]; exact (Hc.out.alloc _).drew
    have g0 : w4.cell? ⟨w.heap.size, 0, none⟩ = some (.int .i64 2) := by rw [← hw4]; exact e0a _
    have g1 : w4.cell? ⟨w.heap.size, 1, none⟩ = some (.int .i64 ((st.ops 2 : Int) + 1)) := by rw [← hw4]; exact e1a _
    have p4 : w4.cell? ⟨g, 3, none⟩ = some (.map (some m)) := h4.blk.cell 3
    obtain ⟨hFm, hmb, hown⟩ := h4.P m rfl
    obtain ⟨w5, hrun, hown5, hturn⟩ := (World.ownsMap.drew hown).drop kfault Try.underlying95 (key_fault 2 ((st.ops 2 : Int) + 1) (wf_i64 (by omega) (by omega)) (wf_i64 (by omega) (by omega))) 0
    have H4 := Lib.hid h4
    have Hc4 := Lib.hid hc4
    have Ho := Lib.hid hown5
    have Ht := Lib.hid hturn
    clear hw4 l1 l2 l3 e0 e1 e0a e1a p2 p2a hown hown5 hturn h4 hc4
    go_region
    all_goals
      go_wp2_with fail
      have h5 := DevS.struck (w := w4.drew) (w' := w5) (H4.out.keep (Nat.le_refl _) (fun _ _ => rfl)) (a := 2) (j := st.ops 2 + 1) (by omega) (by simp [PSt.count, bump]) (by simp [PSt.count, bump]; omega) Ho.out Ht.out.grown (turned_size Ht.out)
      exact ⟨rfl, rfl, ⟨_, _, _, _, _, _, h5⟩, Hc4.out.drew.grown Ht.out.grown (fun k hk => .inl (by injection hk with hk; subst hk; exact hFm))⟩
end Go.Proofs.Ytaainefdjbmekaa
