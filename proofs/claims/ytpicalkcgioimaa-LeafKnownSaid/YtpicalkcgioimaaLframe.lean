/- What a frame says, and what a frame that was changed says. -/
import Derived.Test.YtpicalkcgioimaaLmake
import Derived.Test.YtpicalkcgioimaaRopen
namespace Go.Proofs.Ytpicalkcgioimaa
open Go.RowKit Crc

theorem g4_congr {l l' : List Nat} {k : Nat} (h : ∀ i, i < k + 4 → k ≤ i → l.getD i 0 = l'.getD i 0) : g4 l k = g4 l' k := by
  unfold g4
  rw [h k (by omega) (by omega), h (k + 1) (by omega) (by omega), h (k + 2) (by omega) (by omega), h (k + 3) (by omega) (by omega)]
theorem badHead_congr {l l' : List Nat} (h : ∀ i, i < 12 → l.getD i 0 = l'.getD i 0) : badHead l ↔ badHead l' := by
  unfold badHead
  rw [h 0 (by omega), h 1 (by omega), h 3 (by omega), g4_congr (l := l) (l' := l') (k := 8) (fun i hi _ => h i (by omega)), g4_congr (l := l) (l' := l') (k := 4) (fun i hi _ => h i (by omega))]
theorem getD_take {l : List Nat} {n i : Nat} (h : i < n) : (l.take n).getD i 0 = l.getD i 0 := by
  rw [List.getD_eq_getElem?_getD, List.getElem?_take, if_pos h, ← List.getD_eq_getElem?_getD]
theorem getD_app {l r : List Nat} {i : Nat} (h : i < l.length) : (l ++ r).getD i 0 = l.getD i 0 := by
  rw [List.getD_eq_getElem?_getD, List.getElem?_append_left h, ← List.getD_eq_getElem?_getD]

section
variable {k g : Nat} {d : List Nat}
theorem fr_len (k g : Nat) (d : List Nat) : (frameB k g d).length = 16 + d.length + fill (16 + d.length) := by
  rw [frame_parts]; simp [le4]; omega
theorem fr_fill (n : Nat) : (16 + n + fill (16 + n)) = (n + 79) / 64 * 64 := by unfold fill; omega
theorem fr_g4 (hg : g < 4294967296) : g4 (frameB k g d) 4 = g := by
  rw [frame_parts]
  exact g4_le hg [197, 126, k, 0] _
theorem fr_g8 (hd : d.length < 4294967296) : g4 (frameB k g d) 8 = d.length := by
  rw [frame_parts, ← List.append_assoc]
  exact g4_le hd ([197, 126, k, 0] ++ le4 g) _
theorem fr_g12 : g4 (frameB k g d) 12 = sum (headB k g d.length ++ d) := by
  rw [frame_parts, ← List.append_assoc, ← List.append_assoc]
  exact g4_le (more_lt (by decide) _) (([197, 126, k, 0] ++ le4 g) ++ le4 d.length) _
theorem fr_0 : (frameB k g d).getD 0 0 = 197 := by rw [frame_parts]; rfl
theorem fr_1 : (frameB k g d).getD 1 0 = 126 := by rw [frame_parts]; rfl
theorem fr_2 : (frameB k g d).getD 2 0 = k := by rw [frame_parts]; rfl
theorem fr_3 : (frameB k g d).getD 3 0 = 0 := by rw [frame_parts]; rfl
theorem fr_head (hg : g ≤ 2147483647) (hd : d.length ≤ 4096) : ¬ badHead (frameB k g d) := by
  unfold badHead
  rw [fr_0, fr_1, fr_3, fr_g4 (by omega), fr_g8 (by omega)]
  omega
theorem sizeE_zero {l : List Nat} (h : 16 ≤ l.length) (hb : ¬ badHead l) : sizeE l = 0 := by
  unfold sizeE
  rw [if_neg (by omega), if_neg hb]
theorem fr_sizeE (hg : g ≤ 2147483647) (hd : d.length ≤ 4096) : sizeE (frameB k g d) = 0 := sizeE_zero (by rw [fr_len]; omega) (fr_head hg hd)
theorem fr_blk (hd : d.length ≤ 4096) : blk (g4 (frameB k g d) 8) * 64 = (frameB k g d).length := by
  rw [fr_g8 (by omega), blk_nat hd, fr_len, fr_fill]
theorem fr_drop : (frameB k g d).drop 16 = d ++ List.replicate (fill (16 + d.length)) 0 := by
  rw [frame_parts]
  exact head_drop k g d.length _ _ rfl
theorem fr_take : (frameB k g d).take 12 = headB k g d.length := by
  rw [frame_parts]
  exact head_take k g d.length _
theorem fr_data (hd : d.length < 4294967296) : dataB (frameB k g d) = d := by
  unfold dataB
  rw [fr_g8 hd, fr_drop, List.take_left]
theorem fr_sum (hd : d.length < 4294967296) : sumB (frameB k g d) = g4 (frameB k g d) 12 := by
  unfold sumB
  rw [fr_data hd, fr_take, fr_g12]
theorem fr_tail (hd : d.length < 4294967296) : tailBad (frameB k g d) (frameB k g d).length = false := by
  unfold tailBad
  rw [List.take_length, fr_g8 hd, ← List.drop_drop, fr_drop, List.drop_left, List.any_replicate]
  simp
theorem fr_open (hg : g ≤ 2147483647) (hd : d.length ≤ 4096) (k' : Nat) : openE (frameB k g d) k' = if k ≠ k' then 4 else 0 := by
  unfold openE
  rw [fr_sizeE hg hd, if_neg (by omega), fr_blk hd, if_neg (by omega), if_neg (by omega), fr_sum (by omega), fr_tail (by omega), fr_2]
  simp
/-- Cut anywhere it is too short. -/
theorem fr_cut (hg : g ≤ 2147483647) (hd : d.length ≤ 4096) {n : Nat} (hn : n < (frameB k g d).length) (k' : Nat) : openE ((frameB k g d).take n) k' = 2 := by
  have hl : ((frameB k g d).take n).length = n := by rw [List.length_take]; omega
  by_cases h : n < 16
  · have : sizeE ((frameB k g d).take n) = 2 := by unfold sizeE; rw [hl, if_pos h]
    unfold openE
    rw [this]; rfl
  · have hs : sizeE ((frameB k g d).take n) = 0 := sizeE_zero (by omega) (by rw [badHead_congr (fun i hi => getD_take (by omega))]; exact fr_head hg hd)
    have h8 : g4 ((frameB k g d).take n) 8 = g4 (frameB k g d) 8 := g4_congr fun i hi _ => getD_take (by omega)
    unfold openE
    rw [hs, if_neg (by omega), h8, fr_blk hd, hl, if_neg (by omega), if_pos hn]
/-- With something behind it it is too long. -/
theorem fr_more (hg : g ≤ 2147483647) (hd : d.length ≤ 4096) (k' : Nat) : openE (frameB k g d ++ [0]) k' = 3 := by
  have hlen := fr_len k g d
  have hs : sizeE (frameB k g d ++ [0]) = 0 := sizeE_zero (by rw [List.length_append]; omega) (by rw [badHead_congr (fun i hi => getD_app (by omega))]; exact fr_head hg hd)
  have h8 : g4 (frameB k g d ++ [0]) 8 = g4 (frameB k g d) 8 := g4_congr fun i hi _ => getD_app (by omega)
  unfold openE
  rw [hs, if_neg (by omega), h8, fr_blk hd, List.length_append, if_pos (by simp)]
end
end Go.Proofs.Ytpicalkcgioimaa
