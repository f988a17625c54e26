/- The program's platter: an operation, whose planned fault panics and is recovered where it ends. The program's platter: the small methods. The document's platter: what Sync and Crash do. The document's platter: what Fail does. The document's platter: what New does. The program's platter: New. The program's platter: an operation as a whole, its own work given. -/
import Derived.Test.YtaainefdjbmekaaSbb
import Derived.Test.YtaainefdjbmekaaSbc
import Derived.Defers
import Derived.BigRegion
import Derived.Deep.OwnRows
namespace Go.Proofs.Ytaainefdjbmekaa
open Go.RowKit Go.Maps
abbrev theFault : Value := .iface 159 (.agg #[])
theorem isFault_nil (w : World) : Calls Try.prog 80 #[.nilIface] w fun e w' => e = .returned (.bool false) ∧ w' = w := by
  go_enter Try.func80, Try.ntmps80
  go_wp2_with fail
  go_ret
  exact ⟨rfl, rfl⟩
theorem isFault_yes (w : World) : Calls Try.prog 80 #[theFault] w fun e w' => e = .returned (.bool true) ∧ w' = w.alloc (.cells #[] 159) := by
  have ht : ∀ w, (Instr.typeAssert (.iface 159 (.agg #[])) 20 159 true).run Try.prog w = .ok (.tuple #[.agg #[], .bool true]) w := fun w => by kernel_rfl
  go_enter Try.func80, Try.ntmps80
  go_wp2_with fail
  go_ret
  exact ⟨rfl, rfl⟩
theorem catch_idle (p : Addr) (w : World) :
    CallsD Try.prog 79 #[.pointer (some p)] .returning w fun e u' w' => e = .returned (.tuple #[]) ∧ u' = .returning ∧ w' = w := by
  refine callsD_of_wpS Try.func79 rfl fun c₀ cs hu => ?_
  apply wpS_seq
  apply wpS_region
  simp [wpOpsS, go_sem, recoverD, hu, Try.ntmps79, Exit.thenS]
  refine (isFault_nil w).mono ?_
  rintro e w' ⟨rfl, rfl⟩
  refine wpS_cond (t := false) (by simp [Act.eval, Array.replicate]) ?_
  simp only [Bool.false_eq_true, if_false]
  refine wpS_of_wp (wp_skip ?_)
  cases c₀
  simp_all [bodyPostS, results, Try.results79]
theorem catch_fault (b : Nat) (x : Value) (older : List PanicEntry) (w : World) (hc : w.cell? ⟨b, 0, none⟩ = some x) (hz : w.frozen? ⟨b, 0, none⟩ = false) :
    CallsD Try.prog 79 #[.pointer (some ⟨b, 0, none⟩)] (.panicking ({ v := theFault, recovered := false } :: older)) w fun e u' w' =>
      e = .returned (.tuple #[]) ∧ u' = .panicking ({ v := theFault, recovered := true } :: older) ∧ w' = (w.alloc (.cells #[] 159)).setCell ⟨b, 0, none⟩ (.int .i64 6) := by
  have hc' : (w.alloc (.cells #[] 159)).cell? ⟨b, 0, none⟩ = some x := by rw [World.cell?_alloc_lt _ _ _ (World.block_lt_of_cell? _ _ hc)]; exact hc
  have hz' : (w.alloc (.cells #[] 159)).frozen? ⟨b, 0, none⟩ = false := by
    rw [World.frozen?_alloc_past _ _ _ (World.block_lt_of_cell? _ _ hc)]; exact hz
  refine callsD_of_wpS Try.func79 rfl fun c₀ cs hu => ?_
  apply wpS_seq
  apply wpS_region
  simp [wpOpsS, go_sem, recoverD, hu, Try.ntmps79, Exit.thenS]
  refine (isFault_yes w).mono ?_
  rintro e w' ⟨rfl, rfl⟩
  refine wpS_cond (t := true) (by simp [Act.eval, Array.replicate]) ?_
  simp only [if_true]
  apply wpS_region
  simp [wpOpsS, go_sem, hc', hz', bodyPostS, results, Try.results79]
theorem operate_ok (g : Nat) (k : Int) (fn : Nat) (cap : Array Value) (w : World) (hen : ∀ w, (callFunc fn cap).run Try.prog w = .ok (.enter fn cap) w) (Rb : World → Prop) (Rd : Int → World → Prop)
    (hb : Calls Try.prog 81 #[.pointer (some ⟨g, 0, none⟩), .int .i64 k] (w.alloc (.cells #[.int .i64 0] 34)) fun e w1 => e = .returned (.tuple #[]) ∧ Rb w1)
    (hd : ∀ w1, Rb w1 → Calls Try.prog fn cap w1 fun e w2 => ∃ c, e = .returned (.int .i64 c) ∧ Rd c w2)
    (hcell : ∀ c w2, Rd c w2 → ∃ x, w2.cell? ⟨w.heap.size, 0, none⟩ = some x ∧ w2.frozen? ⟨w.heap.size, 0, none⟩ = false) :
    Calls Try.prog 48 #[.pointer (some ⟨g, 0, none⟩), .int .i64 k, .func (.func fn) #[] cap] w fun e w' => ∃ c w2, e = .returned (.int .i64 c) ∧ Rd c w2 ∧ w' = w2.setCell ⟨w.heap.size, 0, none⟩ (.int .i64 c) := by
  have hmf : ∀ (fn : Fn) (first cap : Array Value) (w : World), (Instr.makeFunc fn first cap).run Try.prog w = .ok (.func fn first cap) w := fun _ _ _ _ => rfl
  go_enter_defers Try.func48, Try.ntmps48
  go_wp2_with (go_at_call 81; refine hb.mono ?_; rintro e w1 ⟨rfl, hr1⟩)
  refine (hd w1 hr1).mono ?_
  rintro e w2 ⟨c, rfl, hr2⟩
  obtain ⟨x, hx, hf⟩ := hcell c w2 hr2
  go_wp2_with fail
  refine leaves_cons (f := 79) (args := #[.pointer (some ⟨w.heap.size, 0, none⟩)]) (by simp) (by simp [go_sem]) ?_
  refine (catch_idle ⟨w.heap.size, 0, none⟩ _).mono ?_
  rintro e u' w'' ⟨rfl, rfl, rfl⟩
  have hs := World.cell?_setCell_same w2 ⟨w.heap.size, 0, none⟩ (.int .i64 c) hx
  simp [Leaves, settle, results, Try.results48, go_sem, hs]
  exact ⟨w2, hr2, rfl⟩
theorem operate_hit (g : Nat) (k : Int) (fn : Nat) (cap : Array Value) (w : World) (Rb : World → Prop)
    (hb : Calls Try.prog 81 #[.pointer (some ⟨g, 0, none⟩), .int .i64 k] (w.alloc (.cells #[.int .i64 0] 34)) fun e w1 => e = .panicked [{ v := theFault, recovered := false }] ∧ Rb w1)
    (hcell : ∀ w2, Rb w2 → ∃ x, w2.cell? ⟨w.heap.size, 0, none⟩ = some x ∧ w2.frozen? ⟨w.heap.size, 0, none⟩ = false) :
    Calls Try.prog 48 #[.pointer (some ⟨g, 0, none⟩), .int .i64 k, .func (.func fn) #[] cap] w fun e w' => ∃ w2, e = .returned (.int .i64 6) ∧ Rb w2 ∧ w' = (w2.alloc (.cells #[] 159)).setCell ⟨w.heap.size, 0, none⟩ (.int .i64 6) := by
  have hmf : ∀ (fn : Fn) (first cap : Array Value) (w : World), (Instr.makeFunc fn first cap).run Try.prog w = .ok (.func fn first cap) w := fun _ _ _ _ => rfl
  go_enter_defers Try.func48, Try.ntmps48
  go_wp2_with (go_at_call 81; refine hb.mono ?_; rintro e w1 ⟨rfl, hr1⟩)
  obtain ⟨x, hx, hf⟩ := hcell w1 hr1
  refine leaves_cons (f := 79) (args := #[.pointer (some ⟨w.heap.size, 0, none⟩)]) (by simp) (by simp [go_sem]) ?_
  refine (catch_fault w.heap.size x [] _ hx hf).mono ?_
  rintro e u' w'' ⟨rfl, rfl, rfl⟩
  have hx' : (w1.alloc (.cells #[] 159)).cell? ⟨w.heap.size, 0, none⟩ = some x := by rw [World.cell?_alloc_lt _ _ _ (World.block_lt_of_cell? _ _ hx)]; exact hx
  have hs := World.cell?_setCell_same (w1.alloc (.cells #[] 159)) ⟨w.heap.size, 0, none⟩ (.int .i64 6) hx'
  simp [Leaves, settle, results, Try.results48, go_sem, hs]
  exact ⟨w1, hr1, rfl⟩
end Go.Proofs.Ytaainefdjbmekaa
namespace Go.Proofs.Ytaainefdjbmekaa
open Go.RowKit Go.Maps
theorem has_any {w : World} {F : Nat → Prop} {g : Nat} {st : PSt} {Bv Cv : Value} {bm : Nat} {Pm : Option Nat} {D E : DataW Unit} (h : DevS w F g st Bv Cv bm Pm D E) (n : Int) :
    Calls Try.prog 50 #[.pointer (some ⟨g, 0, none⟩), .int .i64 n] w fun e w' => e = .returned (.bool (decide (0 ≤ n) && decide (n < (st.blocks.length : Int)))) ∧ w' = w := by
  obtain ⟨A, c, rfl, hnc, hA⟩ := h.B.form
  have c0 : w.cell? ⟨g, 0, none⟩ = some (.slice A st.blocks.length c) := h.blk.cell 0
  clear h
  cases h1 : decide (0 ≤ n) with
  | false =>
    go_enter Try.func50, Try.ntmps50
    go_wp2_with fail
    go_ret
    exact ⟨rfl, rfl⟩
  | true =>
    go_enter Try.func50, Try.ntmps50
    go_wp2_with fail
    go_ret
    exact ⟨rfl, rfl⟩
theorem kind_any (n : Int) (w : World) :
    Calls Try.prog 35 #[.int .i64 n] w fun e w' => e = .returned (.bool (decide (1 ≤ n) && decide (n ≤ 3))) ∧ w' = w := by
  cases h1 : decide (1 ≤ n) with
  | false =>
    go_enter Try.func35, Try.ntmps35
    go_wp2_with fail
    go_ret
    exact ⟨rfl, rfl⟩
  | true =>
    go_enter Try.func35, Try.ntmps35
    go_wp2_with fail
    go_ret
    exact ⟨rfl, rfl⟩
theorem dblocks {w : World} {F : Nat → Prop} {g : Nat} {st : PSt} (h : Dev w F g st) :
    Calls Try.prog 13 #[.pointer (some ⟨g, 0, none⟩)] w fun e w' => e = .returned (.int .i64 (st.blocks.length : Int)) ∧ w' = w := by
  obtain ⟨Bv, Cv, bm, Pm, D, E, h⟩ := h
  obtain ⟨A, c, rfl, hnc, hA⟩ := h.B.form
  have c0 : w.cell? ⟨g, 0, none⟩ = some (.slice A st.blocks.length c) := h.blk.cell 0
  go_enter Try.func13, Try.ntmps13
  go_wp2_with fail
  go_ret
  exact ⟨rfl, rfl⟩
def PSt.counted (st : PSt) (n : Int) : Int := if 1 ≤ n ∧ n ≤ 3 then (st.ops n.toNat : Int) else 0
end Go.Proofs.Ytaainefdjbmekaa
namespace Go.Proofs.Ytaainefdjbmekaa
open Go.RowKit
/-- One cached write is applied to the blocks. -/
def applyOne (bs : List (List Nat)) (p : Nat × List Nat) : List (List Nat) := bs.set p.1 p.2
/-- The first j cached writes are applied, but those that 'keep' leaves out. -/
def applied (st : PSt) (keep : Nat → Bool) : Nat → List (List Nat)
  | 0 => st.blocks
  | j + 1 => match st.cache[j]? with
    | some p => if keep j then applyOne (applied st keep j) p else applied st keep j
    | none => applied st keep j
def PSt.part (st : PSt) (keep : Nat → Bool) (j : Nat) : PSt := { st with blocks := applied st keep j }
theorem Held.drew {w : World} {F : Nat → Prop} {v : Value} {l : List Nat} (h : Held w F v l) : Held w.drew F v l := h.drewN 1
end Go.Proofs.Ytaainefdjbmekaa
namespace Go.Proofs.Ytaainefdjbmekaa
open Go.RowKit
/-- Fail: the state behind it. -/
def PSt.plans (st : PSt) (l : List (Int × Int)) : PSt := { st with plan := l, since := fun _ => 0 }
theorem planCells_length : ∀ l : List (Int × Int), (planCells l).length = l.length * 2
  | [] => rfl
  | f :: r => by
    show (planCells r).length + 1 + 1 = _
    rw [planCells_length r, List.length_cons]; omega
end Go.Proofs.Ytaainefdjbmekaa
namespace Go.Proofs.Ytaainefdjbmekaa
open Go.RowKit
/-- A block of zeros. -/
def zero64 : List Nat := List.replicate 64 0
/-- A platter as New makes it. -/
def newSt (n : Nat) : PSt := { blocks := List.replicate n zero64, cache := [], plan := [], ops := fun _ => 0, since := fun _ => 0 }
end Go.Proofs.Ytaainefdjbmekaa
namespace Go.Proofs.Ytaainefdjbmekaa
open Go.RowKit Go.Maps
/-- The world behind empty. -/
def emptyW (w : World) (g : Nat) : World := ((w.setCell ⟨g, 1, none⟩ (.slice none 0 0)).setCell ⟨g, 2, none⟩ (.map (some w.heap.size))).alloc (.map #[] 0)
theorem empty_run (g : Nat) (w : World) (u v : Value) (c1 : w.cell? ⟨g, 1, none⟩ = some u) (f1 : w.frozen? ⟨g, 1, none⟩ = false) (c2 : w.cell? ⟨g, 2, none⟩ = some v) (f2 : w.frozen? ⟨g, 2, none⟩ = false) :
    Calls Try.prog 42 #[.pointer (some ⟨g, 0, none⟩)] w fun e w' => e = .returned (.tuple #[]) ∧ w' = emptyW w g := by
  have hlt := World.block_lt_of_cell? _ _ c2
  have c2' : ((w.setCell ⟨g, 1, none⟩ (.slice none 0 0)).alloc (.map #[] 0)).cell? ⟨g, 2, none⟩ = some v := by
    rw [World.cell?_alloc_lt _ _ _ (by simpa using hlt), World.cell?_setCell_other _ _ _ _ (by simp)]; exact c2
  have f2' : ((w.setCell ⟨g, 1, none⟩ (.slice none 0 0)).alloc (.map #[] 0)).frozen? ⟨g, 2, none⟩ = false := by
    rw [World.frozen?_alloc_past _ _ _ (by simpa using hlt), World.frozen?_setCell]; exact f2
  have hmm := @run_makeMap Try.prog
  go_enter Try.func42, Try.ntmps42
  go_wp2_with fail
  refine bodyPost_end (results_none rfl _ _ _) rfl ?_
  exact ⟨rfl, rfl⟩
theorem emptyW_size (w : World) (g : Nat) : (emptyW w g).heap.size = w.heap.size + 1 := by simp [emptyW]
theorem emptyW_heap (w : World) {g i : Nat} (hi : i < w.heap.size) (hg : i ≠ g) : (emptyW w g).heap[i]? = w.heap[i]? := by
  unfold emptyW
  rw [Below.heap_alloc _ _ _ (by simpa using hi), Below.heap_setCell _ _ _ _ (by simpa using hg), Below.heap_setCell _ _ _ _ (by simpa using hg)]
theorem emptied {w : World} {F : Nat → Prop} {g : Nat} {st : PSt} {Bv Cv mv : Value} {Pm : Option Nat} {E : DataW Unit} (wfb : ∀ l ∈ st.blocks, l.length = 64 ∧ ∀ x ∈ l, x < 256) (lt : ∀ b, F b → b < w.heap.size) (fg : F g)
    (blk : Blk w g 98 #[Bv, Cv, mv, .map Pm, pnum (st.ops 0), pnum (st.ops 1), pnum (st.ops 2), pnum (st.ops 3)]) (B : Row w F 113 64 Bv st.blocks.length (flat64 st.blocks))
    (P : ∀ b, Pm = some b → F b ∧ w.ownsMap Try.prog 100 unitElem b st.plan.length E) (due : Due st Pm E) :
    DevS (emptyW w g) (Ext F w (emptyW w g)) g { st with cache := [] } Bv (.slice none 0 0) w.heap.size Pm (.map []) E ∧ Chg F w (emptyW w g) := by
  have far : ∀ i, F i → i ≠ g → (emptyW w g).heap[i]? = w.heap[i]? := fun i hi hne => emptyW_heap w (lt i hi) hne
  refine ⟨⟨⟨wfb, fun p hp => by simp at hp⟩, fun b hb => ?_, .inl fg, ?_, ?_, Row.nil _ _ _ _, .inr ⟨Nat.le_refl _, by rw [emptyW_size]; omega⟩, ?_, fun n _ => .inl ⟨rfl, fun p hp => by simp at hp⟩, fun b hb => ⟨.inl (P b hb).1, ?_, ?_⟩, due⟩, ?_⟩
  · rw [emptyW_size]
    rcases hb with hb | hb
    · have := lt b hb; omega
    · have := hb.2; rwa [emptyW_size] at this
  · exact ((blk.set_ 1 (.slice none 0 0)).set_ 2 (.map (some w.heap.size))).alloc (.map #[] 0)
  · exact (B.mono (G := Ext F w (emptyW w g)) (fun _ h => .inl h)).keep fun b hb => far b (B.mem b hb) (fun e => B.ne_ blk (by decide) (by rw [hb, e]))
  · have h1 := World.ownsMap_made (H := Unit) ((w.setCell ⟨g, 1, none⟩ (.slice none 0 0)).setCell ⟨g, 2, none⟩ (.map (some w.heap.size))) Try.prog 3 (plainElem Try.prog 3)
    have hs : ((w.setCell ⟨g, 1, none⟩ (.slice none 0 0)).setCell ⟨g, 2, none⟩ (.map (some w.heap.size))).heap.size = w.heap.size := by simp
    rw [hs] at h1
    exact h1
  · have := lt b (P b hb).1; omega
  · exact ownsMap_keep (P b hb).2 (far b (P b hb).1 (ownsMap_ne (P b hb).2 blk))
  · exact (((Chg.refl F w).setCell (p := ⟨g, 1, none⟩) (.inl fg) _).setCell (p := ⟨g, 2, none⟩) (.inl fg) _).alloc _
theorem dblock_info : (Try.prog.info? 113).map (fun i => (i.zero, i.size, i.bytes)) = some (some (.agg (Array.replicate 64 (.int .u8 0))), 64, 64) := by kernel_rfl
def dzero (n : Nat) : Array Value := madeCells (Array.replicate 64 (.int .u8 0)) (n * 64)
theorem make_dblocks (n : Nat) (hn : n ≤ 8192) (w : World) :
    (Instr.makeSlice 92 (.int .i64 (n : Int)) (.int .i64 (n : Int))).run Try.prog w = .ok (.slice (some ⟨w.heap.size, 0, none⟩) n n) (w.alloc (.cells (dzero n) 113)) := by
  obtain ⟨i, hi, hzz⟩ := Option.map_eq_some_iff.1 dblock_info
  simp only [Prod.mk.injEq] at hzz
  obtain ⟨hz, hs, hb⟩ := hzz
  have hr := run_make (P := Try.prog) w 92 113 i _ Try.underlying92 hi hz .i64 .i64 n n (by omega) (Int.le_refl _) (by rw [hb]; omega) (by omega)
  simp only [Int.toNat_natCast, hs, Value.cells] at hr
  exact hr
theorem dzero_list (n : Nat) : (dzero n).toList = flat64 (List.replicate n zero64) := by
  have h1 : ∀ x ∈ List.replicate n zero64, (byts x).length = 64 := fun x hx => by rw [(List.mem_replicate.1 hx).2]; decide
  refine List.ext_getElem? fun k => ?_
  by_cases hk : k < n * 64
  · have e1 : (flat64 (List.replicate n zero64))[k]? = some (.int .u8 0) := by
      have := flat_at h1 (i := k / 64) (k := k % 64) (by simp; omega) (Nat.mod_lt _ (by omega))
      rw [show k / 64 * 64 + k % 64 = k by omega] at this
      unfold flat64
      rw [this]
      simp only [List.getElem_replicate]
      unfold byts zero64
      rw [List.map_replicate, List.getElem?_replicate, if_pos (Nat.mod_lt _ (by omega))]
      rfl
    rw [e1]
    have hm : k % 64 < 64 := Nat.mod_lt _ (by omega)
    unfold dzero madeCells
    simp [hk, hm, Array.getElem!_eq_getD, Array.getD]
  · rw [List.getElem?_eq_none (by unfold dzero; simp [size_madeCells]; omega), List.getElem?_eq_none (by unfold flat64; rw [flat_length h1]; simp; omega)]
set_option maxHeartbeats 4000000 in
theorem dnew_good (n : Nat) (h1 : 64 ≤ n) (h2 : n ≤ 8192) (w : World) :
    Calls Try.prog 23 #[.int .i64 (n : Int)] w fun e w' => e = .returned (.tuple #[.pointer (some ⟨w.heap.size + 1, 0, none⟩), .int .i64 0]) ∧ Dev w' (fun b => w.heap.size ≤ b ∧ b < w'.heap.size) (w.heap.size + 1) (newSt n) ∧ Below w.heap.size w w' := by
  have d1 : decide ((n : Int) < 64) = false := by simp; omega
  have d2 : decide (8192 < (n : Int)) = false := by simp; omega
  have k1 := make_dblocks n h2
  go_enter Try.func23, Try.ntmps23
  go_wp2_with fail
  generalize hw2 : ((w.alloc (.cells (dzero n) 113)).alloc (.cells #[.slice (some ⟨w.heap.size, 0, none⟩) n n, .slice none 0 0, .map none, .map none, .int .i64 0, .int .i64 0, .int .i64 0, .int .i64 0] 98)) = w2
  have hz2 : w2.heap.size = w.heap.size + 2 := by rw [← hw2]; simp
  have hblk : Blk w2 (w.heap.size + 1) 98 #[.slice (some ⟨w.heap.size, 0, none⟩) n n, .slice none 0 0, .map none, .map none, .int .i64 0, .int .i64 0, .int .i64 0, .int .i64 0] := by
    have := Blk.new (w.alloc (.cells (dzero n) 113)) 98 #[.slice (some ⟨w.heap.size, 0, none⟩) n n, .slice none 0 0, .map none, .map none, .int .i64 0, .int .i64 0, .int .i64 0, .int .i64 0]
    rw [hw2] at this
    simpa using this
  have hb2 : Below w.heap.size w w2 := by rw [← hw2]; exact ((Below.refl _ _).alloc (Nat.le_refl _) _).alloc (by simp) _
  have hrow : Row w2 (fun b => w.heap.size ≤ b ∧ b < w2.heap.size) 113 64 (.slice (some ⟨w.heap.size, 0, none⟩) n n) n (flat64 (List.replicate n zero64)) := by
    have h := World.ownsRow_lit (base := 0) (e := 113) (size := 64) w (dzero n) n (Nat.zero_le _) (by unfold maxLen; omega) (by unfold dzero; rw [size_madeCells])
    rw [dzero_list] at h
    refine ⟨?_, fun k hk => ?_⟩
    · rw [← hw2]
      exact (Row.alloc (F := fun _ => True) ⟨h, fun _ _ => trivial⟩ _).own
    · have : w.heap.size = k := by simpa [Value.ownBlock] using hk
      subst this
      exact ⟨Nat.le_refl _, by rw [hz2]; omega⟩
  have hc := empty_run (w.heap.size + 1) w2 _ _ (hblk.cell 1) (hblk.frozen 1) (hblk.cell 2) (hblk.frozen 2)
  refine hc.mono ?_
  rintro e w3 ⟨rfl, rfl⟩
  have hem := emptied (w := w2) (F := fun b => w.heap.size ≤ b ∧ b < w2.heap.size) (g := w.heap.size + 1) (st := newSt n) (Bv := .slice (some ⟨w.heap.size, 0, none⟩) n n) (Cv := .slice none 0 0) (mv := .map none) (Pm := none) (E := .map [])
    (fun l hl => by rw [(List.mem_replicate.1 hl).2]; exact ⟨by decide, by decide⟩) (fun b hb => hb.2) ⟨by omega, by omega⟩ hblk (by simpa [newSt] using hrow) (fun b hb => by cases hb) (fun k j _ _ _ _ => rfl)
  clear hw2
  go_wp2_with fail
  go_ret2
  have hz3 : (emptyW w2 (w.heap.size + 1)).heap.size = w.heap.size + 3 := by rw [emptyW_size, hz2]
  refine ⟨rfl, Dev.mono ⟨_, _, _, _, _, _, hem.1⟩ (fun b hb => ?_) (fun b hb => hb.2), hb2.trans (hem.2.below (B := w.heap.size) (by omega) (fun i hi => hi.1))⟩
  rcases hb with hb | hb
  · exact ⟨hb.1, by omega⟩
  · exact ⟨by omega, hb.2⟩
end Go.Proofs.Ytaainefdjbmekaa
namespace Go.Proofs.Ytaainefdjbmekaa
open Go.RowKit Go.Maps
/-- The world in which an operation begins: with the cell of its result. -/
def opW (w : World) : World := w.alloc (.cells #[.int .i64 0] 34)
theorem opW_size (w : World) : (opW w).heap.size = w.heap.size + 1 := by simp [opW]
theorem dev_ok {w : World} {F G : Nat → Prop} {g : Nat} {st st1 st2 : PSt} (h : Dev w F g st) (hFG : ∀ i, F i → G i) (hG : ∀ i, G i → i < w.heap.size) (k code : Int)
    (hb : ∀ w, Dev w F g st → Calls Try.prog 81 #[.pointer (some ⟨g, 0, none⟩), .int .i64 k] w fun e w' => e = .returned (.tuple #[]) ∧ Dev w' F g st1 ∧ Chg F w w')
    (fn : Nat) (cap : Array Value) (hen : ∀ w, (callFunc fn cap).run Try.prog w = .ok (.enter fn cap) w) (X : World → Prop)
    (hd : ∀ w1, Dev w1 F g st1 → Chg F (opW w) w1 → Calls Try.prog fn cap w1 fun e w2 => e = .returned (.int .i64 code) ∧ Dev w2 (Ext F w1 w2) g st2 ∧ Chg G w1 w2 ∧ X w2)
    (hX : ∀ w2 v, w.heap.size < w2.heap.size → X w2 → X (w2.setCell ⟨w.heap.size, 0, none⟩ v)) :
    Calls Try.prog 48 #[.pointer (some ⟨g, 0, none⟩), .int .i64 k, .func (.func fn) #[] cap] w fun e w' => e = .returned (.int .i64 code) ∧ Dev w' (Ext F w w') g st2 ∧ Chg G w w' ∧ X w' := by
  have hd0 : Dev (opW w) F g st := h.keep (by rw [opW_size]; omega) (fun b hb => Below.heap_alloc _ _ _ (h.lt b hb))
  have hcc : ∀ w2, Chg G (opW w) w2 → ∃ x, w2.cell? ⟨w.heap.size, 0, none⟩ = some x ∧ w2.frozen? ⟨w.heap.size, 0, none⟩ = false := fun w2 hc => by
    have hkeep := hc.block w.heap.size (by rw [opW_size]; omega) (fun e => Nat.lt_irrefl _ (hG _ e))
    have hblk : Blk (opW w) w.heap.size 34 #[.int .i64 0] := Blk.new w _ _
    have hblk2 := hblk.keep hkeep
    exact ⟨.int .i64 0, hblk2.cell 0, hblk2.frozen 0⟩
  refine (operate_ok g k fn cap w hen (fun w1 => Dev w1 F g st1 ∧ Chg F (opW w) w1) (fun c w2 => c = code ∧ (∃ w1, Dev w2 (Ext F w1 w2) g st2 ∧ (opW w).heap.size ≤ w1.heap.size) ∧ Chg G (opW w) w2 ∧ X w2) (hb (opW w) hd0) ?_ (fun c w2 h2 => hcc w2 h2.2.2.1)).mono ?_
  · rintro w1 ⟨h1, hc1⟩
    refine (hd w1 h1 hc1).mono ?_
    rintro e w2 ⟨rfl, h2, hc2, hx2⟩
    exact ⟨code, rfl, rfl, ⟨w1, h2, hc1.size⟩, (hc1.mono hFG).then_ hc2, hx2⟩
  · rintro e w' ⟨c, w2, rfl, ⟨rfl, ⟨w1, h2, hz1⟩, hc2, hx2⟩, rfl⟩
    have hz2 := hc2.size
    rw [opW_size] at hz1 hz2
    have hne : ∀ i, Ext F w1 w2 i → i ≠ w.heap.size := fun i hi e => by
      rcases hi with hi | hi
      · have := h.lt i hi; omega
      · omega
    refine ⟨rfl, (h2.keep (by simp) (fun b hb => Below.heap_setCell _ _ _ _ (by simpa using hne b hb))).mono (fun b hb => ?_) (ext_lt h.lt (by simp; omega)), ?_, hX w2 _ (by omega) hx2⟩
    · rcases hb with hb | hb
      · exact .inl hb
      · exact .inr ⟨by omega, by simpa using hb.2⟩
    · have c0 : Chg G w (opW w) := (Chg.refl G w).alloc _
      exact (c0.then_ hc2).setCell (.inr (Nat.le_refl _)) _
theorem dev_hit {w : World} {F : Nat → Prop} {g : Nat} {st st1 : PSt} (h : Dev w F g st) (k : Int)
    (hb : ∀ w, Dev w F g st → Calls Try.prog 81 #[.pointer (some ⟨g, 0, none⟩), .int .i64 k] w fun e w' => e = .panicked [{ v := theFault, recovered := false }] ∧ Dev w' F g st1 ∧ Chg F w w')
    (fn : Nat) (cap : Array Value) :
    Calls Try.prog 48 #[.pointer (some ⟨g, 0, none⟩), .int .i64 k, .func (.func fn) #[] cap] w fun e w' => e = .returned (.int .i64 6) ∧ Dev w' F g st1 ∧ Chg F w w' := by
  have hd0 : Dev (opW w) F g st := h.keep (by rw [opW_size]; omega) (fun b hb => Below.heap_alloc _ _ _ (h.lt b hb))
  have hcc : ∀ w2, Chg F (opW w) w2 → ∃ x, w2.cell? ⟨w.heap.size, 0, none⟩ = some x ∧ w2.frozen? ⟨w.heap.size, 0, none⟩ = false := fun w2 hc => by
    have hkeep := hc.block w.heap.size (by rw [opW_size]; omega) (fun e => Nat.lt_irrefl _ (h.lt _ e))
    have hblk : Blk (opW w) w.heap.size 34 #[.int .i64 0] := Blk.new w _ _
    have hblk2 := hblk.keep hkeep
    exact ⟨.int .i64 0, hblk2.cell 0, hblk2.frozen 0⟩
  refine (operate_hit g k fn cap w (fun w1 => Dev w1 F g st1 ∧ Chg F (opW w) w1) (hb (opW w) hd0) (fun w2 h2 => hcc w2 h2.2)).mono ?_
  rintro e w' ⟨w2, rfl, ⟨h2, hc2⟩, rfl⟩
  have hz2 := hc2.size
  rw [opW_size] at hz2
  have c0 : Chg F w (opW w) := (Chg.refl F w).alloc _
  refine ⟨rfl, h2.keep (by simp) (fun b hb => ?_), ((c0.then_ hc2).alloc _).setCell (.inr (Nat.le_refl _)) _⟩
  have := h.lt b hb
  rw [Below.heap_setCell _ _ _ _ (show b ≠ w.heap.size by omega), Below.heap_alloc _ _ _ (h2.lt b hb)]
end Go.Proofs.Ytaainefdjbmekaa
