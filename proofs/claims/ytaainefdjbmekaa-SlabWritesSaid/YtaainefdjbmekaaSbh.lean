/- The program's platter: Write. -/
import Derived.Test.YtaainefdjbmekaaSbb
import Derived.Test.YtaainefdjbmekaaSbd
import Derived.Deep.RegionHeldLaw
namespace Go.Proofs.Ytaainefdjbmekaa
open Go.RowKit Go.Maps
theorem write_info : (Try.prog.info? 115).map (fun i => (i.zero, i.size, i.bytes)) = some (some (.agg (#[.int .i64 0] ++ Array.replicate 64 (.int .u8 0))), 65, 72) := by kernel_rfl
theorem write_parts : ∃ i, Try.prog.info? 115 = some i ∧ i.zero = some (.agg (#[.int .i64 0] ++ Array.replicate 64 (.int .u8 0))) ∧ i.size = 65 ∧ i.bytes = 72 := by
  obtain ⟨i, hi, hh⟩ := Option.map_eq_some_iff.1 write_info
  simp only [Prod.mk.injEq] at hh
  exact ⟨i, hi, hh.1, hh.2.1, hh.2.2⟩
theorem write1_bad {w : World} {F : Nat → Prop} {g : Nat} {st : PSt} {Bv Cv : Value} {bm : Nat} {Pm : Option Nat} {D E : DataW Unit} (h : DevS w F g st Bv Cv bm Pm D E) (b3 b4 b5 : Nat) (n : Int) (B : Option Addr) (len cap : Nat)
    (e3 : w.cell? ⟨b3, 0, none⟩ = some (.pointer (some ⟨g, 0, none⟩))) (e4 : w.cell? ⟨b4, 0, none⟩ = some (.int .i64 n)) (e5 : w.cell? ⟨b5, 0, none⟩ = some (.slice B len cap)) (hbad : n < 0 ∨ (st.blocks.length : Int) ≤ n ∨ len ≠ 64) :
    Calls Try.prog 49 #[.pointer (some ⟨b3, 0, none⟩), .pointer (some ⟨b4, 0, none⟩), .pointer (some ⟨b5, 0, none⟩)] w fun e w' => e = .returned (.int .i64 1) ∧ w' = w := by
  have hh := Lib.hid (has_any h n)
  clear h
  cases hb : (decide (0 ≤ n) && decide (n < (st.blocks.length : Int))) with
  | false =>
    go_enter Try.func49, Try.ntmps49
    go_wp2_with (go_at_call 50; refine hh.out.mono ?_; rintro e w' ⟨rfl, rfl⟩; rw [hb])
    go_ret
    exact ⟨rfl, rfl⟩
  | true =>
    have d2 : ((len : Int) != 64) = true := by simp at hb; simp; omega
    go_enter Try.func49, Try.ntmps49
    go_wp2_with (go_at_call 50; refine hh.out.mono ?_; rintro e w' ⟨rfl, rfl⟩; rw [hb])
    go_ret
    exact ⟨rfl, rfl⟩
theorem foldl_lay (off : Nat) : ∀ (vs : List Value) (i : Nat) (cs : Array Value), ((vs.zipIdx i).foldl (fun cs (x : Value × Nat) => cs.setIfInBounds (off + x.2) x.1) cs).toList = lay cs.toList (off + i) vs
  | [], _, _ => rfl
  | v :: r, i, cs => by
    rw [List.zipIdx_cons, List.foldl_cons, foldl_lay off r (i + 1), lay, Array.toList_setIfInBounds]; rfl
theorem lay_all {xs vs : List Value} (h : xs.length = vs.length) : lay xs 0 vs = vs := by
  refine List.ext_getElem? fun k => ?_
  rw [lay_at]
  by_cases hk : k < vs.length
  · rw [if_pos (by omega)]; rfl
  · rw [if_neg (by omega), List.getElem?_eq_none (by omega), List.getElem?_eq_none (by omega)]
theorem fold_same (A C : Array Value) (h : A.size = C.size) : Array.foldl (fun (cs : Array Value) (x : Value × Nat) => cs.setIfInBounds x.snd x.fst) A C.zipIdx 0 C.size = C := by
  have e1 : Array.foldl (fun (cs : Array Value) (x : Value × Nat) => cs.setIfInBounds x.snd x.fst) A C.zipIdx 0 C.size = List.foldl (fun (cs : Array Value) (x : Value × Nat) => cs.setIfInBounds x.snd x.fst) A C.toList.zipIdx := by
    rw [← Array.toList_zipIdx, Array.foldl_toList]; simp
  apply Array.ext'
  have e := foldl_lay 0 C.toList 0 A
  simp only [Nat.zero_add] at e
  rw [e1, e, lay_all (by simpa using h)]
theorem fold_write (k : Int) (bs : List Value) (h : bs.length = 64) : List.foldl (fun (cs : Array Value) (x : Value × Nat) => cs.setIfInBounds (1 + x.snd) x.fst) ((#[Value.int .i64 0] ++ Array.replicate 64 (Value.int .u8 0)).setIfInBounds 0 (Value.int .i64 k)) bs.zipIdx = (Value.int .i64 k :: bs).toArray := by
  apply Array.ext'
  have e := foldl_lay 1 bs 0 ((#[Value.int IntKind.i64 0] ++ Array.replicate 64 (Value.int IntKind.u8 0)).setIfInBounds 0 (.int .i64 k))
  rw [e]
  refine List.ext_getElem? fun j => ?_
  rw [lay_at]
  cases j with
  | zero => simp
  | succ j =>
    by_cases hj : j < 64
    · rw [if_pos (by simp; omega)]; simp
    · rw [if_neg (by simp; omega), List.getElem?_eq_none (by simp; omega), List.getElem?_eq_none (by simp; omega)]
/-- The load of the cache's slice, under a name: it is not to be taken first. -/
def ldCache : Op := Op.load 93 (.tmp 26)
theorem arr_at (b o cap : Nat) (w : World) : (Instr.arrayAt 113 (.slice (some ⟨b, o, none⟩) 64 cap)).run Try.prog w = .ok (.pointer (some ⟨b, o, none⟩)) w := by
  simp [Instr.arrayAt, run_underlying Try.underlying113, Result.andThen]
theorem last_put {c : List (Nat × List Nat)} {D : DataW Unit} (h : Last c D) (hD : IsMap D) (k : Nat) (l : List Nat) (hk : k < 1000000) : Last (c ++ [(k, l)]) (D.put (.int .i64 k) (.lit (.int .i64 c.length))) := by
  intro n hn
  have hkey : WideAt.IsKeyLit (.int .i64 (k : Int)) := kint.key (key_int (wf_i64 (by omega) (by omega)))
  by_cases hnk : n = k
  · subst hnk
    refine .inr ⟨c.length, has_put_same hD hkey _, atKey_put_same hD hkey _ _, by simp, by simp, fun j hj hlt => ?_⟩
    simp at hj; omega
  · have hne : (Lit.int .i64 (n : Int)) ≠ .int .i64 (k : Int) := fun e => hnk (by injection e; omega)
    rcases h n hn with ⟨h1, h2⟩ | ⟨i, h1, h2, hi, h3, h4⟩
    · refine .inl ⟨by rw [has_put_other hne]; exact h1, fun p hp => ?_⟩
      rcases List.mem_append.1 hp with hp | hp
      · exact h2 p hp
      · simp at hp; subst hp; exact fun e => hnk e.symm
    · refine .inr ⟨i, by rw [has_put_other hne]; exact h1, by rw [atKey_put_other hne]; exact h2, by simp; omega, by rw [List.getElem_append_left hi]; exact h3, fun j hj hlt => ?_⟩
      by_cases hjl : j < c.length
      · rw [List.getElem_append_left hjl]; exact h4 j hjl hlt
      · rw [List.getElem_append_right (by omega)]
        have : j = c.length := by simp at hj; omega
        subst this
        simp
        exact fun e => hnk e.symm
theorem flat65_append (c : List (Nat × List Nat)) (k : Nat) (l : List Nat) : flat65 (c ++ [(k, l)]) = flat65 c ++ (pnum k :: byts l) := by
  unfold flat65
  rw [List.flatMap_append]; simp
theorem write_end {w w2 w3 : World} {F : Nat → Prop} {g : Nat} {st : PSt} {Bv : Value} {A : Option Addr} {c : Nat} {bm : Nat} {Pm : Option Nat} {D E : DataW Unit} (h : DevS w F g st Bv (.slice A st.cache.length c) bm Pm D E) (k : Nat) (l : List Nat) (hk : k < st.blocks.length) (hbl : st.blocks.length < 1000000) (h64 : l.length = 64) (hl : ∀ x ∈ l, x < 256) {C : Array Value} (hC : C = (.int .i64 (k : Int) :: byts l).toArray)
    (hturn2 : w.drew.mapTurned w2 bm) (hown2 : w2.ownsMap Try.prog 3 (plainElem Try.prog 3) bm (st.cache.length + 1) (D.put (.int .i64 k) (.lit (.int .i64 st.cache.length)))) {A3 : Option Addr} {c3 : Nat}
    (hown3 : w3.ownsRow 0 115 65 (.slice A3 (st.cache.length + 1) c3) (st.cache.length + 1) (flat65 st.cache ++ C.toList)) (hgr3 : (w2.alloc (.cells C 115)).drew.grownBy w3 (Value.slice A st.cache.length c).ownBlock)
    (hbl3 : (Value.slice A3 (st.cache.length + 1) c3).ownBlock = (Value.slice A st.cache.length c).ownBlock ∨ (Value.slice A3 (st.cache.length + 1) c3).ownBlock = some (w2.alloc (.cells C 115)).drew.heap.size)
    (hblk3 : Blk w3 g 98 (devCells st Bv (.slice A st.cache.length c) bm Pm)) :
    Dev (w3.setCell ⟨g, 1, none⟩ (.slice A3 (st.cache.length + 1) c3)) (Ext F w (w3.setCell ⟨g, 1, none⟩ (.slice A3 (st.cache.length + 1) c3))) g (st.put k l) ∧ Chg F w (w3.setCell ⟨g, 1, none⟩ (.slice A3 (st.cache.length + 1) c3)) := by
  generalize hw4 : w3.setCell ⟨g, 1, none⟩ (.slice A3 (st.cache.length + 1) c3) = w4
  have hz2 : w2.heap.size = w.heap.size := (turned_size hturn2).trans rfl
  have hz3 := hgr3.size
  simp only [World.size_drew, World.size_alloc] at hz3
  have hz4 : w4.heap.size = w3.heap.size := by rw [← hw4]; simp
  have far2 : ∀ i, i < w.heap.size → i ≠ bm → w2.heap[i]? = w.heap[i]? := fun i hi hne => (World.mapTurned.grown hturn2).block i hi (fun e => hne (by injection e))
  have far4 : ∀ i, i < w2.heap.size → i ≠ g → (∀ b, (Value.slice A st.cache.length c).ownBlock = some b → i ≠ b) → w4.heap[i]? = w2.heap[i]? := fun i hi hg hr => by
    rw [← hw4, Below.heap_setCell _ _ _ _ (by simpa using hg)]
    exact (hgr3.block i (Nat.lt_of_lt_of_le hi (by simp)) (fun e => hr i e.symm rfl)).trans (Below.heap_alloc _ _ _ hi)
  have hchg : Chg F w w4 := by
    have c1 : Chg F w w2 := ((Chg.refl F w).drew).grown (World.mapTurned.grown hturn2) (fun k hk => .inl (by injection hk with hk; subst hk; exact h.fm))
    have c2 : Chg F w w3 := ((c1.alloc (.cells C 115)).drew).grown hgr3 (fun b hb => .inl (h.C.mem b hb))
    rw [← hw4]
    exact c2.setCell (.inl h.fg) _
  have hrowne : ∀ {g' : Nat} {t : TypeId} {cs : Array Value}, Blk w g' t cs → t ≠ 115 → ∀ b, (Value.slice A st.cache.length c).ownBlock = some b → g' ≠ b := fun hb ht b hr e => h.C.ne_ hb (fun e => ht e.symm) (by rw [hr, e])
  refine ⟨⟨Bv, .slice A3 (st.cache.length + 1) c3, bm, Pm, _, E, ⟨⟨h.wf.b, fun p hp => ?_⟩, ext_lt h.lt hchg.size, .inl h.fg, ?_, ?_, ?_, .inl h.fm, ?_, last_put h.last h.M.isMap k l (by omega), fun b hb => ⟨.inl (h.P b hb).1, (h.P b hb).2.1, ?_⟩, h.due⟩⟩, hchg⟩
  · rcases List.mem_append.1 hp with hp | hp
    · exact h.wf.c p hp
    · simp at hp; subst hp; exact ⟨hk, h64, hl⟩
  · have := hblk3.set_ 1 (.slice A3 (st.cache.length + 1) c3)
    rw [hw4] at this
    exact this
  · refine (h.B.mono (G := Ext F w w4) (fun _ h => .inl h)).keep fun b hb => ?_
    obtain ⟨cur, hcur⟩ := h.B.blk hb
    have hbm : b ≠ bm := fun e => ownsMap_ne h.M hcur e.symm
    have hlt := hcur.lt
    exact (far4 b (by omega) (fun e => h.B.ne_ h.blk (by decide) (by rw [hb, e])) (hrowne hcur (by decide))).trans (far2 b hlt hbm)
  · rw [show (st.put k l).cache = st.cache ++ [(k, l)] from rfl, flat65_append, List.length_append]
    have hl3 : C.toList = pnum k :: byts l := by rw [hC]; rfl
    rw [← hl3]
    refine ⟨?_, fun b hb => ?_⟩
    · have : Row w3 (fun _ => True) 115 65 (.slice A3 (st.cache.length + 1) c3) (st.cache.length + 1) (flat65 st.cache ++ C.toList) := ⟨hown3, fun _ _ => trivial⟩
      have := this.set_far (p := ⟨g, 1, none⟩) (this.ne_ (g := g) hblk3 (by decide)) (.slice A3 (st.cache.length + 1) c3)
      rw [hw4] at this
      exact this.own
    · rcases hbl3 with e | e
      · rw [e] at hb; exact .inl (h.C.mem b hb)
      · rw [e] at hb
        injection hb with hb
        simp only [World.size_drew, World.size_alloc] at hb
        have := (hown3.lt b (by rw [e, ← hb]; simp)).2
        exact .inr ⟨by omega, by omega⟩
  · rw [show (st.put k l).cache = st.cache ++ [(k, l)] from rfl, List.length_append]
    refine ownsMap_keep hown2 (far4 bm hown2.lt (ownsMap_ne h.M h.blk) fun b hb e => ?_)
    obtain ⟨cur, hcur⟩ := h.C.blk hb
    exact ownsMap_ne h.M hcur e
  · have hP := (h.P b hb).2.2
    have hlt := hP.lt
    refine ownsMap_keep hP ((far4 b (by omega) (ownsMap_ne hP h.blk) fun i hi e => ?_).trans (far2 b hlt (h.P b hb).2.1))
    obtain ⟨cur, hcur⟩ := h.C.blk hi
    exact ownsMap_ne hP hcur e
set_option maxRecDepth 4000 in
set_option maxHeartbeats 4000000 in
theorem write1_good {w : World} {F : Nat → Prop} {g : Nat} {st : PSt} {Bv Cv : Value} {bm : Nat} {Pm : Option Nat} {D E : DataW Unit} (h : DevS w F g st Bv Cv bm Pm D E) (hcl : st.cache.length < 1000000) (hbl : st.blocks.length < 1000000) (b3 b4 b5 : Nat) (k : Nat) (b o cap : Nat) (l : List Nat) (h64 : l.length = 64) (hl : ∀ x ∈ l, x < 256)
    (e3 : w.cell? ⟨b3, 0, none⟩ = some (.pointer (some ⟨g, 0, none⟩))) (e4 : w.cell? ⟨b4, 0, none⟩ = some (.int .i64 (k : Int))) (e5 : w.cell? ⟨b5, 0, none⟩ = some (.slice (some ⟨b, o, none⟩) 64 cap)) (hk : k < st.blocks.length)
    (hn : ¬ F b3 ∧ ¬ F b4 ∧ ¬ F b5 ∧ ¬ F b) (hsl : w.rangeAt b o (byts l)) :
    Calls Try.prog 49 #[.pointer (some ⟨b3, 0, none⟩), .pointer (some ⟨b4, 0, none⟩), .pointer (some ⟨b5, 0, none⟩)] w fun e w' => e = .returned (.int .i64 0) ∧ Dev w' (Ext F w w') g (st.put k l) ∧ Chg F w w' := by
  have hh := Lib.hid (has_any h k)
  have hb : (decide (0 ≤ (k : Int)) && decide ((k : Int) < (st.blocks.length : Int))) = true := by simp; omega
  have wk : (Lit.int .i64 (k : Int)).wf = true := wf_i64 (by omega) (by omega)
  have wc : (Lit.int .i64 (st.cache.length : Int)).wf = true := wf_i64 (by omega) (by omega)
  obtain ⟨w2, hrun, hown2, hturn2⟩ := (World.ownsMap.drew h.M).store kint Try.underlying94 (by unfold maxLen; omega) (key_int wk) (plainElem_int Try.underlying3 wc)
  obtain ⟨A, c, rfl, hnc, hA⟩ := h.C.form
  have c1 : w.cell? ⟨g, 1, none⟩ = some (.slice A st.cache.length c) := h.blk.cell 1
  have c2 : w.cell? ⟨g, 2, none⟩ = some (.map (some bm)) := h.blk.cell 2
  have far : ∀ i, i < w.heap.size → i ≠ bm → w2.heap[i]? = w.heap[i]? := fun i hi hne => (World.mapTurned.grown hturn2).block i hi (fun e => hne (by injection e))
  have hz2 : w2.heap.size = w.heap.size := (turned_size hturn2).trans rfl
  have hblk2 : Blk w2 g 98 (devCells st Bv (.slice A st.cache.length c) bm Pm) := h.blk.keep (far g (h.lt g h.fg) (fun e => ownsMap_ne h.M h.blk e.symm))
  have c1' : w2.cell? ⟨g, 1, none⟩ = some (.slice A st.cache.length c) := hblk2.cell 1
  have nb : ∀ i, ¬ F i → i ≠ bm := fun i hi e => hi (e ▸ h.fm)
  have e3' : w2.cell? ⟨b3, 0, none⟩ = some (.pointer (some ⟨g, 0, none⟩)) := (World.cell?_of_block (far b3 (World.block_lt_of_cell? _ _ e3) (nb _ hn.1))).trans e3
  have e4' : w2.cell? ⟨b4, 0, none⟩ = some (.int .i64 (k : Int)) := (World.cell?_of_block (far b4 (World.block_lt_of_cell? _ _ e4) (nb _ hn.2.1))).trans e4
  have e5' : w2.cell? ⟨b5, 0, none⟩ = some (.slice (some ⟨b, o, none⟩) 64 cap) := (World.cell?_of_block (far b5 (World.block_lt_of_cell? _ _ e5) (nb _ hn.2.2.1))).trans e5
  obtain ⟨i1, hi1, hz1', hs1, hb1⟩ := write_parts
  have harr := arr_at b o cap
  have hsl2 : w2.rangeAt b o (byts l) := fun j v hv => (World.cell?_of_block (far b (World.block_lt_of_cell? _ _ (hsl j v hv)) (nb _ hn.2.2.2))).trans (hsl j v hv)
  have hC2 : Row w2 F 115 65 (.slice A st.cache.length c) st.cache.length (flat65 st.cache) := h.C.keep fun i hi => far i (h.lt i (h.C.mem i hi)) (fun e => by
    obtain ⟨cur, hc⟩ := h.C.blk hi
    exact ownsMap_ne h.M hc e.symm)
  have Hh := Lib.hid h
  clear h
  go_enter Try.func49, Try.ntmps49
  go_wp2_with (go_at_call 50; refine hh.out.mono ?_; rintro e w' ⟨rfl, rfl⟩; rw [hb])
  go_region
  all_goals
    go_wp2_with fail
    obtain ⟨t, ht⟩ : ∃ t : TypeId, t = 113 := ⟨_, rfl⟩
    have hagg : ∀ w, (isAgg t).run Try.prog w = .ok true w := by rw [ht]; intro w; kernel_rfl
    obtain ⟨N, hN⟩ : ∃ N : Nat, N = 64 := ⟨_, rfl⟩
    have hsz : ∀ w, (sizeOf t).run Try.prog w = .ok N w := by rw [ht, hN]; intro w; kernel_rfl
    have harr' : ∀ w, (Instr.arrayAt t (.slice (some ⟨b, o, none⟩) 64 cap)).run Try.prog w = .ok (.pointer (some ⟨b, o, none⟩)) w := by rw [ht]; exact harr
    have hld1 : ∀ w4 : World, w4.rangeAt b o (byts l) → (loadCellsFrom ⟨b, o, none⟩ 0 N #[]).run Try.prog w4 = .ok (byts l).toArray w4 := fun w4 h4 => by
      have := run_loadCells_list (P := Try.prog) w4 ⟨b, o, none⟩ (byts l) (fun j v hv => by rw [Addr.add_mid]; exact h4 j v hv)
      rw [byts_length, h64, ← hN] at this
      exact this
    obtain ⟨Z, hZ⟩ : ∃ Z : Array Value, Z = #[.int .i64 0] ++ Array.replicate 64 (.int .u8 0) := ⟨_, rfl⟩
    have hz0 : ∀ w, (zeroValue 115).run Try.prog w = .ok (.agg Z) w := by rw [hZ]; intro w; kernel_rfl
    have hz1 : Z.size = 65 := by rw [hZ]; rfl
    have hz9 : (Z = #[]) = False := by simp; intro e; rw [e] at hz1; cases hz1
    have hl64 : (byts l).length = 64 := by rw [byts_length, h64]
    obtain ⟨C, hC⟩ : ∃ C : Array Value, C = (.int .i64 (k : Int) :: byts l).toArray := ⟨_, rfl⟩
    have hc1 : C.size = 65 := by rw [hC]; simp [hl64]
    have hfold : List.foldl (fun (cs : Array Value) (x : Value × Nat) => cs.setIfInBounds (1 + x.snd) x.fst) (Z.setIfInBounds 0 (.int .i64 (k : Int))) (byts l).zipIdx = C := by rw [hZ, hC]; exact fold_write k (byts l) hl64
    have hfold2 : ∀ A : Array Value, A.size = 65 → Array.foldl (fun (cs : Array Value) (x : Value × Nat) => cs.setIfInBounds x.snd x.fst) A C.zipIdx 0 65 = C := fun A hA => by
      have e := fold_same A C (by rw [hA, hc1])
      rwa [hc1] at e
    have HC := Lib.hid hC
    have HC1 : ∀ u ∈ C.toList, u.oneCell' = true := by
      rw [hC]; intro u hu
      rcases List.mem_cons.1 hu with rfl | hu
      · rfl
      · exact byts_one _ u hu
    have hzsz : (Value.agg (#[Value.int .i64 0] ++ Array.replicate 64 (Value.int .u8 0))).cells.size = 65 := rfl
    have hb2a : Blk (w2.alloc (.cells C 115)).drew g 98 (devCells st Bv (.slice A st.cache.length c) bm Pm) := hblk2.alloc (.cells C 115)
    have hC2a : Row (w2.alloc (.cells C 115)).drew F 115 65 (.slice A st.cache.length c) st.cache.length (flat65 st.cache) := (hC2.alloc (.cells C 115)).drew
    have hcc : ∀ j u, C.toList[j]? = some u → (w2.alloc (.cells C 115)).drew.cell? ⟨w2.heap.size, j, none⟩ = some u := fun j u hu => by
      rw [World.cell?_drew, cell_fresh rfl]; simpa using hu
    rw [hz2] at hcc
    have al : ∀ {ad : Addr} {v : Value}, w2.cell? ad = some v → ∀ o, (w2.alloc o).cell? ad = some v := fun h o => by rw [World.cell?_alloc_lt _ _ _ (World.block_lt_of_cell? _ _ h)]; exact h
    have c1a := al c1'
    clear al
    have hld : ldCache = Op.load 93 (.tmp 26) := rfl
    rw [← hld]
    clear hZ hC
    have keepS : ∀ w4 : World, (∀ i, ¬ F i → i < w2.heap.size → w4.heap[i]? = w2.heap[i]?) → w4.cell? ⟨b3, 0, none⟩ = some (.pointer (some ⟨g, 0, none⟩)) ∧ w4.cell? ⟨b4, 0, none⟩ = some (.int .i64 (k : Int)) ∧ w4.cell? ⟨b5, 0, none⟩ = some (.slice (some ⟨b, o, none⟩) 64 cap) ∧ (loadCellsFrom ⟨b, o, none⟩ 0 N #[]).run Try.prog w4 = .ok (byts l).toArray w4 := fun w4 h4 =>
      ⟨(World.cell?_of_block (h4 b3 hn.1 (World.block_lt_of_cell? _ _ e3'))).trans e3', (World.cell?_of_block (h4 b4 hn.2.1 (World.block_lt_of_cell? _ _ e4'))).trans e4', (World.cell?_of_block (h4 b5 hn.2.2.1 (World.block_lt_of_cell? _ _ e5'))).trans e5', hld1 w4 (fun j v hv => (World.cell?_of_block (h4 b hn.2.2.2 (World.block_lt_of_cell? _ _ (hsl2 j v hv)))).trans (hsl2 j v hv))⟩
    have hs0 := keepS w2.drew (fun _ _ _ => rfl)
    have hs1' := keepS (w2.alloc (.cells C 115)).drew (fun i _ hi => Below.heap_alloc _ _ _ hi)
    have KS := Lib.hid keepS
    have HFg := Hh.out.fg
    clear keepS hld1
    rw [← ht]
    have HT := Lib.hid hturn2
    have HO := Lib.hid hown2
    clear ht hN harr
    go_region_held_law (fun w' => w'.cell? ⟨b3, 0, none⟩ = some (.pointer (some ⟨g, 0, none⟩)) ∧ w'.cell? ⟨b4, 0, none⟩ = some (.int .i64 (k : Int)) ∧ w'.cell? ⟨b5, 0, none⟩ = some (.slice (some ⟨b, o, none⟩) 64 cap) ∧ (loadCellsFrom ⟨b, o, none⟩ 0 N #[]).run Try.prog w' = .ok (byts l).toArray w') (first | exact hs0 | exact hs1' | exact hs3 | exact KS.out _ (fun i hi hlt => (Below.heap_setCell _ _ _ _ (fun (e : i = g) => hi (e ▸ HFg))).trans (hk3 i hi hlt))) (first
      | (refine step_append_at (w := _) (base := 0) (size := 65) (v := .slice A st.cache.length c) (m := 1) (news := C.toList) rfl (.tmp 27) (.tmp 33) _ rfl Try.underlying93 hi1 hz1' hs1 hb1 hzsz (by decide) rfl hC2a.own rfl (by simp [hc1]) hcc HC1 (by unfold maxLen; omega) (by omega) (Nat.zero_le _) ?_
         intro v3 w3 hown3 hgr3 hbl3
         obtain ⟨A3, c3, rfl⟩ := own_slice hown3
         have hblk3 := hb2a.grown hgr3 (hC2.ne_ hblk2 (by decide))
         have f3 := hblk3.frozen 1
         have c3' : w3.cell? ⟨g, 1, none⟩ = some (.slice A st.cache.length c) := hblk3.cell 1
         have hk3 : ∀ i, ¬ F i → i < w2.heap.size → w3.heap[i]? = w2.heap[i]? := fun i hi hlt => (hgr3.block i (Nat.lt_of_lt_of_le hlt (by simp)) (fun e => hi (hC2.mem i e.symm))).trans (Below.heap_alloc _ _ _ hlt)
         have hs3 := KS.out w3 hk3))
    all_goals
      go_wp2_with fail
      go_ret
      have hfin := write_end Hh.out k l hk hbl h64 hl HC.out HT.out HO.out hown3 hgr3 hbl3 hblk3
      exact ⟨rfl, hfin.1, hfin.2⟩
end Go.Proofs.Ytaainefdjbmekaa
