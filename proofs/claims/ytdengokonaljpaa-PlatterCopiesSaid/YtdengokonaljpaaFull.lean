/- A block of one byte; bytes as a string. -/
import Derived.Test.YtdengokonaljpaaDrot
import Derived.Laws.BytesArg
namespace Go.Proofs.Ytdengokonaljpaa
open Go.RowKit Go.Maps

def all64 (b : Nat) : List Nat := List.replicate 64 b
theorem all64_bytes {b : Nat} (h : b < 256) : ∀ x ∈ all64 b, x < 256 := fun x hx => by rw [(List.mem_replicate.1 hx).2]; exact h
theorem all64_length (b : Nat) : (all64 b).length = 64 := List.length_replicate ..

def half (b j : Nat) : List Nat := List.replicate j b ++ List.replicate (64 - j) 0
theorem half_length {b j : Nat} (hj : j ≤ 64) : (half b j).length = 64 := by simp [half]; omega
theorem half_step {b j : Nat} (hj : j < 64) : (half b j).set j b = half b (j + 1) := by
  refine List.ext_getElem? fun k => ?_
  by_cases h1 : j = k
  · subst h1
    rw [List.getElem?_set_self (by rw [half_length (by omega)]; omega)]
    simp [half, List.getElem?_append_left]
  · rw [List.getElem?_set_ne h1]
    unfold half
    by_cases h2 : k < j
    · rw [List.getElem?_append_left (by simpa using h2), List.getElem?_append_left (by simp; omega)]
      simp [h2, show k < j + 1 by omega]
    · rw [List.getElem?_append_right (by simp; omega), List.getElem?_append_right (by simp; omega)]
      simp [List.getElem?_replicate]
      split <;> split <;> first | rfl | omega

set_option maxHeartbeats 1000000 in
theorem full_any (b : Nat) (w : World) :
    Calls Try.prog 19 #[.int .u8 (b : Int)] w fun e w' => e = .returned (.slice (some ⟨w.heap.size, 0, none⟩) 64 64) ∧ Below w.heap.size w w' ∧ w'.heap.size = w.heap.size + 1 ∧ Blk w' w.heap.size 5 (byts (all64 b)).toArray := by
  have k1 := make_block
  have hz : zblock = (byts (half b 0)).toArray := by
    apply Array.ext'
    rw [zblock_list]; rfl
  go_enter Try.func19, Try.ntmps19
  go_wp2_with fail
  go_loopw [4] (fun i wr => ∃ j : Nat, j ≤ 64 ∧ i = .int .i64 j ∧ Below w.heap.size w wr ∧ wr.heap.size = w.heap.size + 1 ∧ Blk wr w.heap.size 5 (byts (half b j)).toArray) (fun i _ => 64 - (intOf i).toNat)
  case atStart =>
    refine ⟨0, by omega, rfl, (Below.refl _ _).alloc (Nat.le_refl _) _, by simp, ?_⟩
    rw [← hz]
    exact Blk.new w _ _
  case round =>
    obtain ⟨j, hj, rfl, hbl, hzr, hblk⟩ := hrel
    by_cases hlt : j < 64
    · have c1 : wr.cell? ⟨w.heap.size, j, none⟩ = some (.int .u8 (((half b j).getD j 0 : Nat) : Int)) := by
        rw [hblk.cell j]
        simpa using cell_of_byts (l := half b j) (i := j) (by rw [half_length hj]; exact hlt)
      have f1 := hblk.frozen j
      have Hb := Lib.hid hblk
      clear hblk
      go_wp2_with fail
      go_roundw
      case rel =>
        refine ⟨j + 1, by omega, by go_num, hbl.setCell (Nat.le_refl _) _, by simpa using hzr, ?_⟩
        have h1 := Hb.out.set_ j (.int .u8 (b : Int))
        have h2 : (byts (half b j)).toArray.setIfInBounds j (.int .u8 (b : Int)) = (byts (half b (j + 1))).toArray := by
          rw [List.setIfInBounds_toArray, set_byts, half_step hlt]
        rw [h2] at h1
        exact h1
      case measure => simp [intOf]; omega
    · have hj64 : j = 64 := by omega
      subst hj64
      go_wp2_with fail
      go_ret
      exact ⟨rfl, hbl, hzr, by simpa [half, all64] using hblk⟩

/-- Bytes as a string. -/
def str (l : List Nat) : ByteArray := strOfNums (l.map fun n : Nat => (n : Int))
theorem str_inj {l l' : List Nat} (h : ∀ x ∈ l, x < 256) (h' : ∀ x ∈ l', x < 256) (e : str l = str l') : l = l' := by
  have : (str l).data.toList = (str l').data.toList := by rw [e]
  unfold str at this
  rw [strOfNums_data, strOfNums_data, List.map_map, List.map_map] at this
  have inj : ∀ (l l' : List Nat), (∀ x ∈ l, x < 256) → (∀ x ∈ l', x < 256) → l.map (fun n => UInt8.ofNat n) = l'.map (fun n => UInt8.ofNat n) → l = l' := by
    intro l
    induction l with
    | nil => intro l' _ _ e; cases l' with
      | nil => rfl
      | cons => simp at e
    | cons a l ih =>
      intro l' h h' e
      cases l' with
      | nil => simp at e
      | cons b l' =>
        simp only [List.map_cons, List.cons.injEq] at e
        have ha := h a (List.mem_cons_self ..)
        have hb := h' b (List.mem_cons_self ..)
        have e1 : a = b := by
          have := congrArg UInt8.toNat e.1
          simp only [UInt8.toNat_ofNat'] at this
          omega
        rw [e1, ih l' (fun x hx => h x (List.mem_cons_of_mem _ hx)) (fun x hx => h' x (List.mem_cons_of_mem _ hx)) e.2]
  exact inj l l' h h' this
theorem conv_blk {w : World} {m : Nat} {t : TypeId} {l : List Nat} {cap : Nat} (h : Blk w m t (byts l).toArray) (hl : l.length = 64) :
    (convert 49 9 (.slice (some ⟨m, 0, none⟩) 64 cap)).run Try.prog w = .ok (.string (str l)) w := by
  rw [← hl]
  refine run_convert_bytes_arg (P := Try.prog) w 49 5 Try.underlying49 Try.underlying5 m 0 l.length cap (l.map fun n : Nat => (n : Int)) (by simp) (fun i hi => ?_) _ Try.underlying9
  rw [Nat.zero_add, h.cell i]
  simp [byts, List.getD, hi]
end Go.Proofs.Ytdengokonaljpaa
