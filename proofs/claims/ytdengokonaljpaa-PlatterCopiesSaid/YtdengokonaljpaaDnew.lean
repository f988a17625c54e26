/- The program's platter: New. -/
import Derived.Test.YtdengokonaljpaaDsmall
import Derived.Test.YtdengokonaljpaaRnew
namespace Go.Proofs.Ytdengokonaljpaa
open Go.RowKit Go.Maps

/-- The world behind empty. -/
def emptyW (w : World) (g : Nat) : World := ((w.setCell ⟨g, 1, none⟩ (.slice none 0 0)).setCell ⟨g, 2, none⟩ (.map (some w.heap.size))).alloc (.map #[] 0)
theorem empty_run (g : Nat) (w : World) (u v : Value) (c1 : w.cell? ⟨g, 1, none⟩ = some u) (f1 : w.frozen? ⟨g, 1, none⟩ = false) (c2 : w.cell? ⟨g, 2, none⟩ = some v) (f2 : w.frozen? ⟨g, 2, none⟩ = false) :
    Calls Try.prog 26 #[.pointer (some ⟨g, 0, none⟩)] w fun e w' => e = .returned (.tuple #[]) ∧ w' = emptyW w g := by
  have hlt := World.block_lt_of_cell? _ _ c2
  have c2' : ((w.setCell ⟨g, 1, none⟩ (.slice none 0 0)).alloc (.map #[] 0)).cell? ⟨g, 2, none⟩ = some v := by
    rw [World.cell?_alloc_lt _ _ _ (by simpa using hlt), World.cell?_setCell_other _ _ _ _ (by simp)]; exact c2
  have f2' : ((w.setCell ⟨g, 1, none⟩ (.slice none 0 0)).alloc (.map #[] 0)).frozen? ⟨g, 2, none⟩ = false := by
    rw [World.frozen?_alloc_past _ _ _ (by simpa using hlt), World.frozen?_setCell]; exact f2
  have hmm := @run_makeMap Try.prog
  go_enter Try.func26, Try.ntmps26
  go_wp2_with fail
  refine bodyPost_end (results_none rfl _ _ _) rfl ?_
  exact ⟨rfl, rfl⟩

theorem emptyW_size (w : World) (g : Nat) : (emptyW w g).heap.size = w.heap.size + 1 := by simp [emptyW]
theorem emptyW_heap (w : World) {g i : Nat} (hi : i < w.heap.size) (hg : i ≠ g) : (emptyW w g).heap[i]? = w.heap[i]? := by
  unfold emptyW
  rw [Below.heap_alloc _ _ _ (by simpa using hi), Below.heap_setCell _ _ _ _ (by simpa using hg), Below.heap_setCell _ _ _ _ (by simpa using hg)]
theorem emptied {w : World} {F : Nat → Prop} {g : Nat} {st : PSt} {Bv Cv mv : Value} {Pm : Option Nat} {E : DataW Unit} (wfb : ∀ l ∈ st.blocks, l.length = 64 ∧ ∀ x ∈ l, x < 256) (lt : ∀ b, F b → b < w.heap.size) (fg : F g)
    (blk : Blk w g 72 #[Bv, Cv, mv, .map Pm, num (st.ops 0), num (st.ops 1), num (st.ops 2), num (st.ops 3)]) (B : Row w F 79 64 Bv st.blocks.length (flat64 st.blocks))
    (P : ∀ b, Pm = some b → F b ∧ w.ownsMap Try.prog 58 unitElem b st.plan.length E) (due : Due st Pm E) :
    DevS (emptyW w g) (Ext F w (emptyW w g)) g { st with cache := [] } Bv (.slice none 0 0) w.heap.size Pm (.map []) E ∧ Chg F w (emptyW w g) := by
  have far : ∀ i, F i → i ≠ g → (emptyW w g).heap[i]? = w.heap[i]? := fun i hi hne => emptyW_heap w (lt i hi) hne
  refine ⟨⟨⟨wfb, fun p hp => by simp at hp⟩, fun b hb => ?_, .inl fg, ?_, ?_, Row.nil _ _ _ _, .inr ⟨Nat.le_refl _, by rw [emptyW_size]; omega⟩, ?_, fun n _ => .inl ⟨rfl, fun p hp => by simp at hp⟩, fun b hb => ⟨.inl (P b hb).1, ?_, ?_⟩, due⟩, ?_⟩
  · rw [emptyW_size]
    rcases hb with hb | hb
    · have := lt b hb; omega
    · have := hb.2; rwa [emptyW_size] at this
  · exact ((blk.set_ 1 (.slice none 0 0)).set_ 2 (.map (some w.heap.size))).alloc (.map #[] 0)
  · exact (B.mono (G := Ext F w (emptyW w g)) (fun _ h => .inl h)).keep fun b hb => far b (B.mem b hb) (fun e => B.ne_ blk (by decide) (by rw [hb, e]))
  · have h1 := World.ownsMap_made (H := Unit) ((w.setCell ⟨g, 1, none⟩ (.slice none 0 0)).setCell ⟨g, 2, none⟩ (.map (some w.heap.size))) Try.prog 3 (plainElem Try.prog 3)
    have hs : ((w.setCell ⟨g, 1, none⟩ (.slice none 0 0)).setCell ⟨g, 2, none⟩ (.map (some w.heap.size))).heap.size = w.heap.size := by simp
    rw [hs] at h1
    exact h1
  · have := lt b (P b hb).1; omega
  · exact ownsMap_keep (P b hb).2 (far b (P b hb).1 (ownsMap_ne (P b hb).2 blk))
  · exact (((Chg.refl F w).setCell (p := ⟨g, 1, none⟩) (.inl fg) _).setCell (p := ⟨g, 2, none⟩) (.inl fg) _).alloc _

theorem dnew_bad (n : Int) (hbad : n < 64 ∨ 8192 < n) (w : World) :
    Calls Try.prog 10 #[.int .i64 n] w fun e w' => e = .returned (.tuple #[.pointer none, .int .i64 1]) ∧ w' = w := by
  have bad : ∀ (x y : Bool), decide (n < 64) = x → decide (8192 < n) = y → (x = true ∨ y = true) →
      Calls Try.prog 10 #[.int .i64 n] w fun e w' => e = .returned (.tuple #[.pointer none, .int .i64 1]) ∧ w' = w := by
    intro x y h1 h2 hor
    cases x <;> cases y <;> first
      | (simp at hor; done)
      | (go_enter Try.func10, Try.ntmps10
         go_wp2_with fail
         go_ret2
         exact ⟨rfl, rfl⟩)
  exact bad _ _ rfl rfl (hbad.imp (by simp) (by simp))

theorem dblock_info : (Try.prog.info? 79).map (fun i => (i.zero, i.size, i.bytes)) = some (some (.agg (Array.replicate 64 (.int .u8 0))), 64, 64) := by kernel_rfl
def dzero (n : Nat) : Array Value := madeCells (Array.replicate 64 (.int .u8 0)) (n * 64)
theorem make_dblocks (n : Nat) (hn : n ≤ 8192) (w : World) :
    (Instr.makeSlice 67 (.int .i64 (n : Int)) (.int .i64 (n : Int))).run Try.prog w = .ok (.slice (some ⟨w.heap.size, 0, none⟩) n n) (w.alloc (.cells (dzero n) 79)) := by
  obtain ⟨i, hi, hzz⟩ := Option.map_eq_some_iff.1 dblock_info
  simp only [Prod.mk.injEq] at hzz
  obtain ⟨hz, hs, hb⟩ := hzz
  have hr := run_make (P := Try.prog) w 67 79 i _ Try.underlying67 hi hz .i64 .i64 n n (by omega) (Int.le_refl _) (by rw [hb]; omega) (by omega)
  simp only [Int.toNat_natCast, hs, Value.cells] at hr
  exact hr
theorem dzero_list (n : Nat) : (dzero n).toList = flat64 (List.replicate n zero64) := by
  have h1 : ∀ x ∈ List.replicate n zero64, (byts x).length = 64 := fun x hx => by rw [(List.mem_replicate.1 hx).2]; decide
  refine List.ext_getElem? fun k => ?_
  by_cases hk : k < n * 64
  · have e1 : (flat64 (List.replicate n zero64))[k]? = some (.int .u8 0) := by
      have := flat_at h1 (i := k / 64) (k := k % 64) (by simp; omega) (Nat.mod_lt _ (by omega))
      rw [show k / 64 * 64 + k % 64 = k by omega] at this
      unfold flat64
      rw [this]
      simp only [List.getElem_replicate]
      unfold byts zero64
      rw [List.map_replicate, List.getElem?_replicate, if_pos (Nat.mod_lt _ (by omega))]
      rfl
    rw [e1]
    have hm : k % 64 < 64 := Nat.mod_lt _ (by omega)
    unfold dzero madeCells
    simp [hk, hm, Array.getElem!_eq_getD, Array.getD]
  · rw [List.getElem?_eq_none (by unfold dzero; simp [size_madeCells]; omega), List.getElem?_eq_none (by unfold flat64; rw [flat_length h1]; simp; omega)]

set_option maxHeartbeats 4000000 in
theorem dnew_good (n : Nat) (h1 : 64 ≤ n) (h2 : n ≤ 8192) (w : World) :
    Calls Try.prog 10 #[.int .i64 (n : Int)] w fun e w' => e = .returned (.tuple #[.pointer (some ⟨w.heap.size + 1, 0, none⟩), .int .i64 0]) ∧ Dev w' (fun b => w.heap.size ≤ b ∧ b < w'.heap.size) (w.heap.size + 1) (newSt n) ∧ Below w.heap.size w w' := by
  have d1 : decide ((n : Int) < 64) = false := by simp; omega
  have d2 : decide (8192 < (n : Int)) = false := by simp; omega
  have k1 := make_dblocks n h2
  go_enter Try.func10, Try.ntmps10
  go_wp2_with fail
  generalize hw2 : ((w.alloc (.cells (dzero n) 79)).alloc (.cells #[.slice (some ⟨w.heap.size, 0, none⟩) n n, .slice none 0 0, .map none, .map none, .int .i64 0, .int .i64 0, .int .i64 0, .int .i64 0] 72)) = w2
  have hz2 : w2.heap.size = w.heap.size + 2 := by rw [← hw2]; simp
  have hblk : Blk w2 (w.heap.size + 1) 72 #[.slice (some ⟨w.heap.size, 0, none⟩) n n, .slice none 0 0, .map none, .map none, .int .i64 0, .int .i64 0, .int .i64 0, .int .i64 0] := by
    have := Blk.new (w.alloc (.cells (dzero n) 79)) 72 #[.slice (some ⟨w.heap.size, 0, none⟩) n n, .slice none 0 0, .map none, .map none, .int .i64 0, .int .i64 0, .int .i64 0, .int .i64 0]
    rw [hw2] at this
    simpa using this
  have hb2 : Below w.heap.size w w2 := by rw [← hw2]; exact ((Below.refl _ _).alloc (Nat.le_refl _) _).alloc (by simp) _
  have hrow : Row w2 (fun b => w.heap.size ≤ b ∧ b < w2.heap.size) 79 64 (.slice (some ⟨w.heap.size, 0, none⟩) n n) n (flat64 (List.replicate n zero64)) := by
    have h := World.ownsRow_lit (base := 0) (e := 79) (size := 64) w (dzero n) n (Nat.zero_le _) (by unfold maxLen; omega) (by unfold dzero; rw [size_madeCells])
    rw [dzero_list] at h
    refine ⟨?_, fun k hk => ?_⟩
    · rw [← hw2]
      exact (Row.alloc (F := fun _ => True) ⟨h, fun _ _ => trivial⟩ _).own
    · have : w.heap.size = k := by simpa [Value.ownBlock] using hk
      subst this
      exact ⟨Nat.le_refl _, by rw [hz2]; omega⟩
  have hc := empty_run (w.heap.size + 1) w2 _ _ (hblk.cell 1) (hblk.frozen 1) (hblk.cell 2) (hblk.frozen 2)
  refine hc.mono ?_
  rintro e w3 ⟨rfl, rfl⟩
  have hem := emptied (w := w2) (F := fun b => w.heap.size ≤ b ∧ b < w2.heap.size) (g := w.heap.size + 1) (st := newSt n) (Bv := .slice (some ⟨w.heap.size, 0, none⟩) n n) (Cv := .slice none 0 0) (mv := .map none) (Pm := none) (E := .map [])
    (fun l hl => by rw [(List.mem_replicate.1 hl).2]; exact ⟨by decide, by decide⟩) (fun b hb => hb.2) ⟨by omega, by omega⟩ hblk (by simpa [newSt] using hrow) (fun b hb => by cases hb) (fun k j _ _ _ _ => rfl)
  clear hw2
  go_wp2_with fail
  go_ret2
  have hz3 : (emptyW w2 (w.heap.size + 1)).heap.size = w.heap.size + 3 := by rw [emptyW_size, hz2]
  refine ⟨rfl, Dev.mono ⟨_, _, _, _, _, _, hem.1⟩ (fun b hb => ?_) (fun b hb => hb.2), hb2.trans (hem.2.below (B := w.heap.size) (by omega) (fun i hi => hi.1))⟩
  rcases hb with hb | hb
  · exact ⟨hb.1, by omega⟩
  · exact ⟨by omega, hb.2⟩
end Go.Proofs.Ytdengokonaljpaa
