/- LeafKnown returns true; the memory that was there stays as it is. -/
import Derived.Test.YtpicalkcgioimaaLupd
import Derived.Test.YtpicalkcgioimaaLmakes
namespace Go.Proofs.Ytpicalkcgioimaa
open Go.RowKit Crc

/-- The sum of the frame by hand. -/
def kS : Nat := sum ([197, 126, 65, 0, 2, 1, 0, 0, 1, 0, 0, 0] ++ [9])
theorem kS_lt : kS < 4294967296 := more_lt (by decide) _
/-- The frame by hand. -/
def kW (s : Nat) : List Nat := [197, 126, 65, 0, 2, 1, 0, 0, 1, 0, 0, 0] ++ [s % 256, s / 256 % 256, s / 65536 % 256, s / 16777216 % 256] ++ [9]
theorem kF : frameB 65 258 [9] = kW kS ++ List.replicate 47 0 := by
  rw [frame_parts, show headB 65 258 [9].length = [197, 126, 65, 0, 2, 1, 0, 0, 1, 0, 0, 0] from rfl, show fill (16 + [9].length) = 47 from rfl, show le4 258 = [2, 1, 0, 0] from rfl, show le4 [9].length = [1, 0, 0, 0] from rfl]
  unfold kW kS
  generalize sum _ = S
  generalize List.replicate 47 0 = R
  rfl
theorem kF_len : (frameB 65 258 [9]).length = 64 := by rw [kF]; rfl
theorem kF_at {i : Nat} (h : i < 17) : (frameB 65 258 [9]).getD i 0 = (kW kS).getD i 0 := by rw [kF]; exact getD_app h
theorem kF_zero {i : Nat} (h : 17 ≤ i) : (frameB 65 258 [9]).getD i 0 = 0 := by
  rw [kF, List.getD_eq_getElem?_getD, List.getElem?_append_right (by exact h), List.getElem?_replicate]
  split <;> rfl
theorem k_none : openE (List.replicate 64 0) 0 = 4 := by decide
theorem k_tail : openE ((frameB 65 258 [9]).set 40 1) 65 = 5 := by
  have hs : ∀ i, i < 40 → ((frameB 65 258 [9]).set 40 1).getD i 0 = (frameB 65 258 [9]).getD i 0 := fun i hi => by
    rw [List.getD_eq_getElem?_getD, List.getElem?_set_ne (by omega), ← List.getD_eq_getElem?_getD]
  have hl : ((frameB 65 258 [9]).set 40 1).length = 64 := by rw [List.length_set, kF_len]
  have h0 : sizeE ((frameB 65 258 [9]).set 40 1) = 0 := sizeE_zero (by omega) (by rw [badHead_congr (fun i hi => hs i (by omega))]; exact fr_head (by decide) (by decide))
  have h8 : g4 ((frameB 65 258 [9]).set 40 1) 8 = 1 := by
    rw [g4_congr (fun i hi _ => hs i (by omega))]; exact fr_g8 (by decide)
  have ht : tailBad ((frameB 65 258 [9]).set 40 1) ((frameB 65 258 [9]).set 40 1).length = true := by
    unfold tailBad
    rw [List.take_length, h8, List.any_eq_true]
    refine ⟨1, ?_, by decide⟩
    rw [List.mem_iff_getElem?]
    refine ⟨23, ?_⟩
    rw [List.getElem?_drop, List.getElem?_set_self (by rw [kF_len]; decide)]
  unfold openE
  rw [hl] at ht
  rw [h0, h8, hl, ht]
  rw [if_neg (by decide), if_neg (by decide), if_neg (by decide), Bool.or_true]
  rfl
theorem by_lit {w : World} {cs : Array Value} {l : List Nat} {n : Nat} (h : cs = (byts l).toArray) (hn : n = l.length) (hl : ∀ x ∈ l, x < 256) (hs : l.length ≤ 1000000) : By (w.alloc (.cells cs 5)) (some ⟨w.heap.size, 0, none⟩) n l :=
  ⟨(sl_cells h).more (by simp), hl, by omega, by simp, hs⟩
theorem mine_empty {w0 w : World} (h : Below w0.heap.size w0 w) : Mine w0 (w.alloc (.cells #[] 5)) (some ⟨w.heap.size, 0, none⟩) 0 0 [] := ⟨World.ownsRow_base (own_empty w) h.size, h.alloc h.size _⟩
theorem k_size15 : sizeV ((frameB 65 258 [9]).take 15) = .tuple #[.int .i64 0, .int .i64 2] := by
  have : sizeE ((frameB 65 258 [9]).take 15) = 2 := by unfold sizeE; rw [List.length_take, kF_len]; rfl
  rw [sizeV_bad (by omega), this]; rfl
theorem k_size16 : sizeV ((frameB 65 258 [9]).take 16) = .tuple #[.int .i64 1, .int .i64 0] := by
  have hs : ∀ i, i < 16 → ((frameB 65 258 [9]).take 16).getD i 0 = (frameB 65 258 [9]).getD i 0 := fun i hi => getD_take hi
  have h0 : sizeE ((frameB 65 258 [9]).take 16) = 0 := sizeE_zero (by rw [List.length_take, kF_len]; decide) (by rw [badHead_congr (fun i hi => hs i (by omega))]; exact fr_head (by decide) (by decide))
  have h8 : g4 ((frameB 65 258 [9]).take 16) 8 = 1 := by
    rw [g4_congr (fun i hi _ => hs i (by omega))]; exact fr_g8 (by decide)
  rw [sizeV_good h0, h8]; rfl
end Go.Proofs.Ytpicalkcgioimaa
