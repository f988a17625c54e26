/- The program's platter: the contents of a block, and Read. -/
import Derived.Test.YtaainefdjbmekaaSbd
import Derived.Deep.WholeRow
namespace Go.Proofs.Ytaainefdjbmekaa
open Go.RowKit Go.Maps
theorem scan_none {c : List (Nat × List Nat)} {n : Nat} (h : ∀ p ∈ c, p.1 ≠ n) : ∀ j, scan c n j = none
  | 0 => rfl
  | j + 1 => by
    rw [scan]
    cases hc : c[j]? with
    | none => exact scan_none h j
    | some p =>
      simp only
      rw [if_neg (h p (List.mem_of_getElem? hc))]
      exact scan_none h j
theorem scan_last {c : List (Nat × List Nat)} {n i : Nat} (hi : i < c.length) (h1 : c[i].1 = n) (h2 : ∀ j (hj : j < c.length), i < j → c[j].1 ≠ n) : ∀ j, i < j → j ≤ c.length → scan c n j = some c[i].2
  | j + 1, h, hj => by
    by_cases hij : i = j
    · subst hij; exact scan_hit hi h1
    · rw [scan_miss (by omega) (h2 j (by omega) (by omega))]
      exact scan_last hi h1 h2 j (by omega) (by omega)
theorem block_here : (Try.prog.info? 113).map (·.size) = some 64 := by kernel_rfl
theorem slice_block (w : World) (b : Nat) : (Instr.sliceAt 113 (.pointer (some ⟨b, 0, none⟩)) none none none).run Try.prog w = .ok (.slice (some ⟨b, 0, none⟩) 64 64) w := by
  have hs : (sizeOf 5).run Try.prog w = .ok 1 w := by kernel_rfl
  unfold Instr.sliceAt
  simp [run_underlying Try.underlying113, Result.andThen, Instr.sureAddr, Instr.sliceBounds, hs]
  rw [Addr.add_lit]
set_option maxHeartbeats 2000000 in
set_option maxRecDepth 5000 in
theorem newest_any {w : World} {F : Nat → Prop} {g : Nat} {st : PSt} {Bv Cv : Value} {bm : Nat} {Pm : Option Nat} {D E : DataW Unit} (h : DevS w F g st Bv Cv bm Pm D E) (hcl : st.cache.length < 1000000) (hbl : st.blocks.length < 1000000) (k : Nat) (hk : k < st.blocks.length) :
    Calls Try.prog 55 #[.pointer (some ⟨g, 0, none⟩), .int .i64 (k : Int)] w fun e w' => e = .returned (.slice (some ⟨w.heap.size, 0, none⟩) 64 64) ∧ Below w.heap.size w w' ∧ Blk w' w.heap.size 113 (byts (st.look k)).toArray := by
  obtain ⟨A, c, rfl, hnc, hA⟩ := h.B.form
  obtain ⟨gb, rfl, _⟩ := h.B.at_ (by omega)
  obtain ⟨A1, c1, rfl, hnc1, hA1⟩ := h.C.form
  have l0w := h.wf.b st.blocks[k] (List.getElem_mem _)
  have r0 := h.B.range (f := byts) (l := st.blocks) h.wf.b64 rfl hk
  have x0 : w.cell? ⟨g, 0, none⟩ = some (.slice (some ⟨gb, 0, none⟩) st.blocks.length c) := h.blk.cell 0
  have x2 : w.cell? ⟨g, 2, none⟩ = some (.map (some bm)) := h.blk.cell 2
  have x1 : w.cell? ⟨g, 1, none⟩ = some (.slice A1 st.cache.length c1) := h.blk.cell 1
  have hlast := h.last k (by omega)
  have wk : (Lit.int .i64 (k : Int)).wf = true := wf_i64 (by omega) (by omega)
  obtain ⟨t, ht⟩ : ∃ t : TypeId, t = 113 := ⟨_, rfl⟩
  have hagg : ∀ w, (isAgg t).run Try.prog w = .ok true w := by rw [ht]; intro w; kernel_rfl
  obtain ⟨N, hN⟩ : ∃ N : Nat, N = 64 := ⟨_, rfl⟩
  have hsz : ∀ w, (sizeOf t).run Try.prog w = .ok N w := by rw [ht, hN]; intro w; kernel_rfl
  have hund : ∀ w, (underlying t).run Try.prog w = .ok (.array 64 5) w := by rw [ht]; intro w; kernel_rfl
  obtain ⟨Z, hZ⟩ : ∃ Z : Array Value, Z = Array.replicate 64 (.int .u8 0) := ⟨_, rfl⟩
  have hz0 : ∀ w, (zeroValue t).run Try.prog w = .ok (.agg Z) w := by rw [ht, hZ]; intro w; kernel_rfl
  have hz1 : Z.size = 64 := by rw [hZ]; rfl
  have store : ∀ (c c' : Array Value) (cs : List Value), c'.toList = cs → c.size = 64 → c'.size = 64 → (∀ u ∈ cs, u.oneCell' = true) → (storeCells ⟨w.heap.size, 0, none⟩ cs 0).run Try.prog (w.alloc (.cells c t)) = .ok () (w.alloc (.cells c' t)) := fun c c' cs h1 h2 h3 h4 => by
    rw [← h1]
    exact run_storeCells_new w t c c' (by rw [h3, ht]; exact block_here) (by rw [h2, h3]) (by rw [Array.all_eq_true_iff_forall_mem]; intro u hu; exact h4 u (by rw [← h1]; simpa using hu))
  have load : ∀ (w4 : World) (b o : Nat) (l : List Nat), l.length = 64 → w4.rangeAt b o (byts l) → (loadCellsFrom ⟨b, o, none⟩ 0 N #[]).run Try.prog w4 = .ok (byts l).toArray w4 := fun w4 b o l hl h4 => by
    have := run_loadCells_list (P := Try.prog) w4 ⟨b, o, none⟩ (byts l) (fun j v hv => by rw [Addr.add_mid]; exact h4 j v hv)
    rw [byts_length, hl, ← hN] at this
    exact this
  have hsli : ∀ (w : World) (b : Nat), (Instr.sliceAt t (.pointer (some ⟨b, 0, none⟩)) none none none).run Try.prog w = .ok (.slice (some ⟨b, 0, none⟩) 64 64) w := by rw [ht]; exact slice_block
  have ld0 := load w gb (k * 64) _ l0w.1 r0
  have st0 := store Z (byts st.blocks[k]).toArray (byts st.blocks[k]) rfl hz1 (by simp [byts_length, l0w.1]) (byts_one _)
  have hl0 : (byts st.blocks[k]).length = N := by rw [byts_length, l0w.1, hN]
  have hlook : st.look k = (scan st.cache k st.cache.length).getD st.blocks[k] := by unfold PSt.look; simp [List.getElem?_eq_getElem hk]
  have HM := Lib.hid h.M
  generalize hl0' : st.blocks[k] = l0 at *
  have Ht := Lib.hid ht
  have Hk := Lib.hid hlook
  have Hz1 := Lib.hid hz1
  have al : ∀ {ad : Addr} {v : Value}, w.cell? ad = some v → ∀ o, (w.alloc o).cell? ad = some v := fun h o => by rw [World.cell?_alloc_lt _ _ _ (World.block_lt_of_cell? _ _ h)]; exact h
  have x2a := al x2
  have x1a := al x1
  obtain ⟨cc, hrun, hat⟩ := look_last (h.M.alloc (.cells (byts l0).toArray t)) wk
  have Hend : ∀ l : List Nat, Below w.heap.size w (w.alloc (.cells (byts l).toArray 113)) ∧ Blk (w.alloc (.cells (byts l).toArray 113)) w.heap.size 113 (byts l).toArray := fun l => ⟨(Below.refl _ _).alloc (Nat.le_refl _) _, Blk.new w _ _⟩
  rcases hlast with ⟨hno, hall⟩ | ⟨i, hyes, hatk, hi, h3, h4⟩
  · rw [hno] at hrun
    rw [scan_none hall] at hlook
    simp only [Option.getD_none] at hlook
    rw [hlook]
    clear ht hN hZ store load h hlook r0 hz1 Hk hat hall al
    go_enter Try.func55, Try.ntmps55
    rw [← Ht.out]
    have hE := Lib.hid (Hend l0)
    clear Hend
    go_wp2_with fail
    go_ret
    rw [Ht.out]
    exact ⟨rfl, hE.out.1, hE.out.2⟩
  · rw [hyes] at hrun
    have hcc : cc = (i : Int) := by rw [hatk] at hat; injection hat with hat; injection hat with _ hat; exact hat.symm
    subst hcc
    rw [scan_last hi h3 h4 _ hi (Nat.le_refl _)] at hlook
    simp only [Option.getD_some] at hlook
    rw [hlook]
    obtain ⟨gc, rfl, _⟩ := h.C.at_ (by omega)
    have l1w := (h.wf.c st.cache[i] (List.getElem_mem _)).2
    have r1 := h.C.range (f := fun p : Nat × List Nat => pnum p.1 :: byts p.2) (l := st.cache) h.wf.c65 rfl hi
    have r2 : (w.alloc (.cells (byts l0).toArray t)).rangeAt gc (i * 65 + 1) (byts st.cache[i].2) := fun j v hv => by
      have := r1 (j + 1) v hv
      rw [show i * 65 + 1 + j = i * 65 + (j + 1) by omega]
      exact al this _
    have ld1 := load _ gc (i * 65 + 1) _ l1w.1 r2
    have st1 := store (byts l0).toArray (byts st.cache[i].2).toArray (byts st.cache[i].2) rfl (by simp [byts_length, l0w.1]) (by simp [byts_length, l1w.1]) (byts_one _)
    have hl1 : (byts st.cache[i].2).length = N := by rw [byts_length, l1w.1, hN]
    generalize st.cache[i].2 = l1 at *
    clear ht hN hZ store load h hlook r0 r1 r2 hz1 Hk hat hatk h3 h4 al l0w l1w
    go_enter Try.func55, Try.ntmps55
    rw [← Ht.out]
    have hE := Lib.hid (Hend l1)
    clear Hend
    go_wp2_with fail
    go_ret
    rw [Ht.out]
    exact ⟨rfl, hE.out.1, hE.out.2⟩
theorem read1_bad {w : World} {F : Nat → Prop} {g : Nat} {st : PSt} {Bv Cv : Value} {bm : Nat} {Pm : Option Nat} {D E : DataW Unit} (h : DevS w F g st Bv Cv bm Pm D E) (b2 b3 b6 : Nat) (n : Int)
    (e2 : w.cell? ⟨b2, 0, none⟩ = some (.pointer (some ⟨g, 0, none⟩))) (e3 : w.cell? ⟨b3, 0, none⟩ = some (.int .i64 n)) (hbad : n < 0 ∨ (st.blocks.length : Int) ≤ n) :
    Calls Try.prog 54 #[.pointer (some ⟨b2, 0, none⟩), .pointer (some ⟨b3, 0, none⟩), .pointer (some ⟨b6, 0, none⟩)] w fun e w' => e = .returned (.int .i64 1) ∧ w' = w := by
  have hh := Lib.hid (has_any h n)
  clear h
  have hb : (decide (0 ≤ n) && decide (n < (st.blocks.length : Int))) = false := by simp; omega
  go_enter Try.func54, Try.ntmps54
  go_wp2_with (go_at_call 50; refine hh.out.mono ?_; rintro e w' ⟨rfl, rfl⟩; rw [hb])
  go_ret
  exact ⟨rfl, rfl⟩
theorem read1_good {w : World} {F : Nat → Prop} {g : Nat} {st : PSt} {Bv Cv : Value} {bm : Nat} {Pm : Option Nat} {D E : DataW Unit} (h : DevS w F g st Bv Cv bm Pm D E) (hcl : st.cache.length < 1000000) (hbl : st.blocks.length < 1000000) (b2 b3 b6 : Nat) (k : Nat) (v : Value)
    (e2 : w.cell? ⟨b2, 0, none⟩ = some (.pointer (some ⟨g, 0, none⟩))) (e3 : w.cell? ⟨b3, 0, none⟩ = some (.int .i64 (k : Int))) (e6 : w.cell? ⟨b6, 0, none⟩ = some v) (f6 : w.frozen? ⟨b6, 0, none⟩ = false) (hk : k < st.blocks.length) :
    Calls Try.prog 54 #[.pointer (some ⟨b2, 0, none⟩), .pointer (some ⟨b3, 0, none⟩), .pointer (some ⟨b6, 0, none⟩)] w fun e w' => e = .returned (.int .i64 0) ∧
      ∃ w1, Below w.heap.size w w1 ∧ Blk w1 w.heap.size 113 (byts (st.look k)).toArray ∧ w' = w1.setCell ⟨b6, 0, none⟩ (.slice (some ⟨w.heap.size, 0, none⟩) 64 64) := by
  have hh := Lib.hid (has_any h k)
  have hn := Lib.hid (newest_any h hcl hbl k hk)
  clear h
  have hb : (decide (0 ≤ (k : Int)) && decide ((k : Int) < (st.blocks.length : Int))) = true := by simp; omega
  go_enter Try.func54, Try.ntmps54
  go_wp2_with (first
    | (go_at_call 50; refine hh.out.mono ?_; rintro e w' ⟨rfl, rfl⟩; rw [hb])
    | (go_at_call 55; refine hn.out.mono ?_; rintro e w1 ⟨rfl, hb1, hblk1⟩
       have e6' : w1.cell? ⟨b6, 0, none⟩ = some v := (hb1.cell (p := ⟨b6, 0, none⟩) (World.block_lt_of_cell? _ _ e6)).trans e6
       have f6' : w1.frozen? ⟨b6, 0, none⟩ = false := (hb1.frozen (p := ⟨b6, 0, none⟩) (World.block_lt_of_cell? _ _ e6)).trans f6))
  go_ret
  exact ⟨rfl, w1, hb1, hblk1, rfl⟩
theorem enter_read1 (cap : Array Value) (w : World) : (callFunc 54 cap).run Try.prog w = .ok (.enter 54 cap) w := by
  first | kernel_rfl | simp [go_sem, Try.func54]
/-- What Read hands back: bytes of its own. -/
def DRead (w w' : World) (v : Value) (l : List Nat) : Prop := ∃ A cap, v = .slice A l.length cap ∧ l.length ≤ cap ∧ (A = none → cap = 0) ∧ (l = [] ∧ A = none ∨ ∃ m, A = some ⟨m, 0, none⟩ ∧ cap = 64 ∧ l.length = 64 ∧ w.heap.size ≤ m ∧ m < w'.heap.size ∧ Blk w' m 113 (byts l).toArray)
def DReadPost (st : PSt) (g : Nat) (F : Nat → Prop) (w : World) (r : Int × List Nat) (e : Ending) (w' : World) : Prop :=
  ∃ v, e = .returned (.tuple #[v, .int .i64 r.1]) ∧ Dev w' F g (st.count 1) ∧ Chg F w w' ∧ DRead w w' v r.2
theorem look_64 {st : PSt} (h : st.Wf) {k : Nat} (hk : k < st.blocks.length) : (st.look k).length = 64 := by
  unfold PSt.look
  have hsc : ∀ j, (scan st.cache k j).getD (st.blocks.getD k []) ∈ st.blocks ∨ ∃ p ∈ st.cache, (scan st.cache k j).getD (st.blocks.getD k []) = p.2 := by
    intro j
    induction j with
    | zero => left; simp [scan, List.getElem?_eq_getElem hk]
    | succ j ih =>
      rw [scan]
      cases hc : st.cache[j]? with
      | none => simpa using ih
      | some p =>
        simp only
        by_cases hp : p.1 = k
        · rw [if_pos hp]; exact .inr ⟨p, List.mem_of_getElem? hc, rfl⟩
        · rw [if_neg hp]; exact ih
  rcases hsc st.cache.length with h1 | ⟨p, hp, h1⟩
  · exact (h.b _ h1).1
  · rw [h1]; exact (h.c p hp).2.1
set_option maxHeartbeats 2000000 in
theorem dread_any (g : Nat) (st : PSt) (F : Nat → Prop) (w : World) (h : Dev w F g st) (hs : st.ops 1 < 1000000) (hcl : st.cache.length < 1000000) (hbl : st.blocks.length < 1000000) (n : Int) :
    Calls Try.prog 32 #[.pointer (some ⟨g, 0, none⟩), .int .i64 n] w (DReadPost st g F w (st.read n)) := by
  have hmf : ∀ (fn : Fn) (first cap : Array Value) (w : World), (Instr.makeFunc fn first cap).run Try.prog w = .ok (.func fn first cap) w := fun _ _ _ _ => rfl
  generalize hw1 : ((w.alloc (.cells #[.pointer (some ⟨g, 0, none⟩)] 25)).alloc (.cells #[.int .i64 n] 3)).alloc (.cells #[.slice none 0 0] 22) = w1
  have hz1 : w1.heap.size = w.heap.size + 3 := by rw [← hw1]; simp
  have hb1 : Below w.heap.size w w1 := by rw [← hw1]; exact ((((Below.refl _ _).alloc (Nat.le_refl _) _).alloc (by simp) _).alloc (by simp; omega) _)
  have hF := h.lt
  have hwf := h.wf
  have h1 : Dev w1 F g st := h.keep (by omega) (fun b hb => hb1.block b (hF b hb))
  have e3 : w1.cell? ⟨w.heap.size, 0, none⟩ = some (.pointer (some ⟨g, 0, none⟩)) := by rw [← hw1]; simp [go_sem]
  have e4 : w1.cell? ⟨w.heap.size + 1, 0, none⟩ = some (.int .i64 n) := by rw [← hw1]; simp [go_sem]
  have e5 : w1.cell? ⟨w.heap.size + 2, 0, none⟩ = some (.slice none 0 0) := by rw [← hw1]; simp [go_sem]
  have f5 : w1.frozen? ⟨w.heap.size + 2, 0, none⟩ = false := by rw [← hw1]; simp [go_sem]
  have hFn : ∀ i, w.heap.size ≤ i → ¬ F i := fun i hi hf => by have := hF i hf; omega
  by_cases hhit : (st.count 1).hit 1 = true
  · have hw : st.read n = (6, []) := by unfold PSt.read; rw [if_pos hhit]
    rw [hw]
    have hc := Lib.hid (dev_hit h1 1 (fun w h => begin1_hit g st F w h hs hhit) 54 #[.pointer (some ⟨w.heap.size, 0, none⟩), .pointer (some ⟨w.heap.size + 1, 0, none⟩), .pointer (some ⟨w.heap.size + 2, 0, none⟩)])
    go_enter Try.func32, Try.ntmps32
    go_wp2_with (go_at_call 48; refine hc.out.mono ?_; rintro e w' ⟨rfl, h2, hc2⟩; have e5' := (World.cell?_of_block (hc2.block (w.heap.size + 2) (by omega) (hFn _ (by omega)))).trans e5)
    go_ret2
    exact ⟨_, rfl, h2, (Chg.of_below F hb1).then_ hc2, none, 0, rfl, Nat.le_refl _, fun _ => rfl, .inl ⟨rfl, rfl⟩⟩
  have hno : (st.count 1).hit 1 = false := by simpa using hhit
  have fin : ∀ (code : Int) (l : List Nat), st.read n = (code, l) →
      (∀ w2, Dev w2 F g (st.count 1) → Chg F (opW w1) w2 → Calls Try.prog 54 #[.pointer (some ⟨w.heap.size, 0, none⟩), .pointer (some ⟨w.heap.size + 1, 0, none⟩), .pointer (some ⟨w.heap.size + 2, 0, none⟩)] w2 fun e w3 => e = .returned (.int .i64 code) ∧ Dev w3 (Ext F w2 w3) g (st.count 1) ∧ Chg (fun i => F i ∨ i = w.heap.size + 2) w2 w3 ∧ (Dev w3 F g (st.count 1) ∧ ∃ v, w3.cell? ⟨w.heap.size + 2, 0, none⟩ = some v ∧ DRead (opW w1) w3 v l)) →
      Calls Try.prog 32 #[.pointer (some ⟨g, 0, none⟩), .int .i64 n] w (DReadPost st g F w (st.read n)) := by
    intro code l hw hd
    rw [hw]
    have hc := Lib.hid (dev_ok h1 (G := fun i => F i ∨ i = w.heap.size + 2) (fun _ h => .inl h) (fun i hi => hi.elim (fun hi => by have := hF i hi; omega) (fun hi => by omega)) 1 code (fun w h => begin1_no g st F w h hs hno) 54 _ (enter_read1 _) (fun w3 => Dev w3 F g (st.count 1) ∧ ∃ v, w3.cell? ⟨w.heap.size + 2, 0, none⟩ = some v ∧ DRead (opW w1) w3 v l) hd
      (fun w2 v hlt hx => by
        obtain ⟨x1, u, x2, A, cap, rfl, x3, x4, x5⟩ := hx
        refine ⟨x1.keep (by simp) (fun b hb => Below.heap_setCell _ _ _ _ (by have := hF b hb; show b ≠ w1.heap.size; omega)), _, (World.cell?_setCell_other _ _ _ _ (by first | (simp; done) | (simp; omega))).trans x2, A, cap, rfl, x3, x4, x5.imp id fun ⟨m, y1, y5, y6, y2, y3, y4⟩ => ⟨m, y1, y5, y6, y2, by simpa using y3, y4.far (by rw [opW_size] at y2; show w1.heap.size ≠ m; omega) _⟩⟩))
    clear hd
    go_enter Try.func32, Try.ntmps32
    go_wp2_with (go_at_call 48; refine hc.out.mono ?_; rintro e w' ⟨rfl, _, hc2, h2, v, e5', hr⟩)
    go_ret2
    obtain ⟨A, cap, rfl, x3, x4, x5⟩ := hr
    refine ⟨_, rfl, h2, (Chg.of_below F hb1).trans (hc2.mono fun i hi => ?_), A, cap, rfl, x3, x4, x5.imp id fun ⟨m, y1, y5, y6, y2, y3, y4⟩ => ⟨m, y1, y5, y6, by rw [opW_size] at y2; omega, y3, y4⟩⟩
    rcases hi with hi | rfl
    · exact .inl hi
    · exact .inr ⟨by omega, by omega⟩
  have keepc : ∀ {w2 : World}, Chg F (opW w1) w2 → ∀ i, i < w1.heap.size → ¬ F i → w2.heap[i]? = w1.heap[i]? := fun hc i hi hn => (hc.block i (by rw [opW_size]; omega) hn).trans (Below.heap_alloc _ _ _ hi)
  have boxes : ∀ {w2 : World}, Chg F (opW w1) w2 → w2.cell? ⟨w.heap.size, 0, none⟩ = some (.pointer (some ⟨g, 0, none⟩)) ∧ w2.cell? ⟨w.heap.size + 1, 0, none⟩ = some (.int .i64 n) ∧ w2.cell? ⟨w.heap.size + 2, 0, none⟩ = some (.slice none 0 0) ∧ w2.frozen? ⟨w.heap.size + 2, 0, none⟩ = false := fun hc =>
    ⟨(World.cell?_of_block (keepc hc w.heap.size (by omega) (hFn _ (Nat.le_refl _)))).trans e3, (World.cell?_of_block (keepc hc (w.heap.size + 1) (by omega) (hFn _ (by omega)))).trans e4, (World.cell?_of_block (keepc hc (w.heap.size + 2) (by omega) (hFn _ (by omega)))).trans e5, (World.frozen?_of_block (keepc hc (w.heap.size + 2) (by omega) (hFn _ (by omega)))).trans f5⟩
  by_cases hbad : n < 0 ∨ (st.blocks.length : Int) ≤ n
  · refine fin 1 [] (by unfold PSt.read; rw [if_neg hhit, if_pos hbad]) fun w2 h2 hc2 => ?_
    obtain ⟨x3, x4, x5, x6⟩ := boxes hc2
    obtain ⟨Bv, Cv, bm, Pm, D, E, hS⟩ := h2
    refine (read1_bad hS _ _ _ n x3 x4 hbad).mono ?_
    rintro e w3 ⟨rfl, rfl⟩
    exact ⟨rfl, (Dev.mono ⟨_, _, _, _, _, _, hS⟩ (fun _ h => .inl h) (ext_lt hS.lt (Nat.le_refl _))), Chg.refl _ _, ⟨_, _, _, _, _, _, hS⟩, _, x5, none, 0, rfl, Nat.le_refl _, fun _ => rfl, .inl ⟨rfl, rfl⟩⟩
  · obtain ⟨k, rfl⟩ : ∃ k : Nat, n = k := ⟨n.toNat, by omega⟩
    have hkl : k < st.blocks.length := by omega
    refine fin 0 (st.look k) (by unfold PSt.read; rw [if_neg hhit, if_neg hbad, Int.toNat_natCast]) fun w2 h2 hc2 => ?_
    obtain ⟨x3, x4, x5, x6⟩ := boxes hc2
    obtain ⟨Bv, Cv, bm, Pm, D, E, hS⟩ := h2
    have hz2 := hc2.size
    rw [opW_size] at hz2
    refine (read1_good hS hcl hbl _ _ _ k _ x3 x4 x5 x6 hkl).mono ?_
    rintro e w3 ⟨rfl, w4, hb4, hblk4, rfl⟩
    have hz4 := hb4.size
    have hne : ∀ i, F i → i ≠ w.heap.size + 2 := fun i hi => by have := hF i hi; omega
    have hfar : ∀ i, F i → (w4.setCell ⟨w.heap.size + 2, 0, none⟩ (.slice (some ⟨w2.heap.size, 0, none⟩) 64 64)).heap[i]? = w2.heap[i]? := fun i hi => (Below.heap_setCell _ _ _ _ (hne i hi)).trans (hb4.block i (hS.lt i hi))
    have hS3 := hS.keep (w' := w4.setCell ⟨w.heap.size + 2, 0, none⟩ (.slice (some ⟨w2.heap.size, 0, none⟩) 64 64)) (by simpa using hz4) hfar
    have hl64 : (st.look k).length = 64 := look_64 hwf hkl
    have x5' : w4.cell? ⟨w.heap.size + 2, 0, none⟩ = some (.slice none 0 0) := (hb4.cell (p := ⟨w.heap.size + 2, 0, none⟩) (by show w.heap.size + 2 < w2.heap.size; omega)).trans x5
    have hlk : (st.count 1).look k = st.look k := rfl
    rw [hlk] at hblk4
    refine ⟨rfl, (Dev.mono ⟨_, _, _, _, _, _, hS3⟩ (fun _ h => .inl h) (ext_lt hS.lt (by simpa using hz4))), ((Chg.of_below _ hb4).setCell (.inl (.inr rfl)) _), ⟨_, _, _, _, _, _, hS3⟩, .slice (some ⟨w2.heap.size, 0, none⟩) 64 64, World.cell?_setCell_same _ _ _ x5', some ⟨w2.heap.size, 0, none⟩, 64, by rw [hl64], by omega, (fun h => by cases h), .inr ⟨w2.heap.size, rfl, rfl, hl64, by rw [opW_size]; omega, by simpa using hblk4.lt, hblk4.far (by show w.heap.size + 2 ≠ w2.heap.size; omega) _⟩⟩
end Go.Proofs.Ytaainefdjbmekaa
