/- Which of two crowns counts, plain; what Choose answers of two encoded crowns, and of one beside a blank block. -/
import Derived.Test.YthdmghocfngfgaaCla
import Derived.Test.YthdmghocfngfgaaCcho
namespace Go.Proofs.Ythdmghocfngfgaa
open Go.RowKit Crc

theorem choose_two {c d : Cn.C} (hc : Cn.Ok c) (hd : Cn.Ok d) (gc : c.gain < 18446744073709551616) (gd : d.gain < 18446744073709551616) (hne : c.gen ≠ d.gen) : Cn.chooseE (Cn.enc c) (Cn.enc d) = (if d.gen < c.gen then 0 else 1, 0) := by
  unfold Cn.chooseE
  rw [Cn.enc_blank, Cn.enc_blank, Cn.dec_enc hc gc, Cn.dec_enc hd gd, Cn.fields_enc hc gc, Cn.fields_enc hd gd]
  by_cases h : d.gen < c.gen
  · simp [hne, h]
  · simp [hne, h]
theorem chv_two {c d : Cn.C} (hc : Cn.Ok c) (hd : Cn.Ok d) (gc : c.gain < 18446744073709551616) (gd : d.gain < 18446744073709551616) (hne : c.gen ≠ d.gen) : chV (Cn.enc c) (Cn.enc d) = if d.gen < c.gen then c else d := by
  unfold chV
  rw [choose_two hc hd gc gd hne, Cn.fields_enc hc gc, Cn.fields_enc hd gd]
  by_cases h : d.gen < c.gen
  · simp [h]
  · simp [h]
theorem choose_one {c : Cn.C} (hc : Cn.Ok c) (gc : c.gain < 18446744073709551616) : Cn.chooseE (Cn.enc c) (List.replicate 64 0) = (0, if c.gen = 1 then 0 else 5) := by
  unfold Cn.chooseE
  rw [Cn.enc_blank, Cn.blank_zeros, Cn.dec_enc hc gc, Cn.fields_enc hc gc]
  by_cases h : c.gen = 1
  · simp [h]
  · have := Cn.dec_zeros
    rw [if_neg (by simp), if_neg (fun hh => h hh.2.2), if_neg (by simp), if_pos (.inr this), if_neg h]
theorem chv_one {c : Cn.C} (hc : Cn.Ok c) (gc : c.gain < 18446744073709551616) : chV (Cn.enc c) (List.replicate 64 0) = if c.gen = 1 then c else zeroC := by
  unfold chV
  rw [choose_one hc gc, Cn.fields_enc hc gc]
  by_cases h : c.gen = 1
  · simp [h]
  · simp [h]
/-- Choose of two encoded crowns. -/
theorem lchoose {c d : Cn.C} (hc : Cn.Ok c) (hd : Cn.Ok d) (gc : c.gain < 18446744073709551616) (gd : d.gain < 18446744073709551616) (hne : c.gen ≠ d.gen) {W : World} {G K : Nat} (h1 : ByBlk W G (Cn.enc c)) (h2 : ByBlk W K (Cn.enc d)) :
    Calls Try.prog 21 #[.slice (some ⟨G, 0, none⟩) 64 64, .slice (some ⟨K, 0, none⟩) 64 64] W fun e w' => e = .returned (.tuple #[crV (if d.gen < c.gen then c else d), .int .i64 (if d.gen < c.gen then 0 else 1), .int .i64 0]) ∧ Below W.heap.size W w' := by
  refine (choose_any (some ⟨G, 0, none⟩) (some ⟨K, 0, none⟩) 64 64 (Cn.enc c) (Cn.enc d) (Cn.enc_lt c) (Cn.enc_lt d) (by rw [Cn.enc_len]; decide) (by rw [Cn.enc_len]; decide) 64 64 (Cn.enc_len c).symm (Cn.enc_len d).symm (by decide) (by decide) (byblk_sl h1) (byblk_sl h2)).mono ?_
  rintro e w' ⟨rfl, hb⟩
  refine ⟨?_, hb⟩
  rw [chv_two hc hd gc gd hne, choose_two hc hd gc gd hne]
  by_cases h : d.gen < c.gen
  · simp [h]
  · simp [h]
/-- Choose of an encoded crown beside a blank block. -/
theorem lchoose1 {c : Cn.C} (hc : Cn.Ok c) (gc : c.gain < 18446744073709551616) {W : World} {G K : Nat} (h1 : ByBlk W G (Cn.enc c)) (h2 : ByBlk W K (List.replicate 64 0)) :
    Calls Try.prog 21 #[.slice (some ⟨G, 0, none⟩) 64 64, .slice (some ⟨K, 0, none⟩) 64 64] W fun e w' => e = .returned (.tuple #[crV (if c.gen = 1 then c else zeroC), .int .i64 0, .int .i64 (if c.gen = 1 then 0 else 5)]) ∧ Below W.heap.size W w' := by
  refine (choose_any (some ⟨G, 0, none⟩) (some ⟨K, 0, none⟩) 64 64 (Cn.enc c) (List.replicate 64 0) (Cn.enc_lt c) zeros_lt (by rw [Cn.enc_len]; decide) (by simp) 64 64 (Cn.enc_len c).symm (by simp) (by decide) (by decide) (byblk_sl h1) (byblk_sl h2)).mono ?_
  rintro e w' ⟨rfl, hb⟩
  refine ⟨?_, hb⟩
  rw [chv_one hc gc, choose_one hc gc]
  by_cases h : c.gen = 1
  · simp [h]
  · simp [h]
end Go.Proofs.Ythdmghocfngfgaa
