/- The document's Open. -/
import Derived.Test.YtpicalkcgioimaaRmake
import Derived.Test.YtpicalkcgioimaaCutS
import Derived.Deep.RegionHeldLaw
namespace Go.Proofs.Ytpicalkcgioimaa
open Go.RowKit Crc

/-- The data of a frame. -/
def dataB (l : List Nat) : List Nat := (l.drop 16).take (g4 l 8)
/-- The sum that the head and the data have. -/
def sumB (l : List Nat) : Nat := sum (l.take 12 ++ dataB l)
/-- A byte behind the data that is not 0, before place i. -/
def tailBad (l : List Nat) (i : Nat) : Bool := ((l.take i).drop (16 + g4 l 8)).any (· != 0)
/-- Open's error. -/
def openE (l : List Nat) (kind : Nat) : Nat :=
  if sizeE l ≠ 0 then sizeE l else if blk (g4 l 8) * 64 < l.length then 3 else if l.length < blk (g4 l 8) * 64 then 2
  else if (g4 l 12 != sumB l || tailBad l l.length) = true then 5 else if l.getD 2 0 ≠ kind then 4 else 0
/-- How Open ends. -/
def OpenR (l : List Nat) (kind : Nat) (w : World) (e : Ending) (w' : World) : Prop :=
  Below w.heap.size w w' ∧ ((openE l kind ≠ 0 ∧ e = .returned (.tuple #[.int .i64 0, .slice none 0 0, .int .i64 ((openE l kind : Nat) : Int)])) ∨
    (openE l kind = 0 ∧ ∃ A c, e = .returned (.tuple #[.int .i64 ((g4 l 4 : Nat) : Int), .slice A (g4 l 8) c, .int .i64 0]) ∧ w'.ownsRow w.heap.size 5 1 (.slice A (g4 l 8) c) (g4 l 8) (byts (dataB l))))

theorem drewN_below {w : World} (n : Nat) : Below w.heap.size w (w.drewN n) := ⟨rfl, rfl, rfl, Nat.le_refl _, fun _ _ => rfl⟩
theorem sizeE_cases (l : List Nat) : sizeE l ≠ 0 ∨ (sizeE l = 0 ∧ 16 ≤ l.length ∧ ¬ badHead l) := by
  unfold sizeE
  by_cases h : l.length < 16
  · rw [if_pos h]; exact .inl (by decide)
  · rw [if_neg h]
    by_cases hb : badHead l
    · rw [if_pos hb]; exact .inl (by decide)
    · rw [if_neg hb]; exact .inr ⟨rfl, by omega, hb⟩
theorem sizeV_bad {l : List Nat} (h : sizeE l ≠ 0) : sizeV l = .tuple #[.int .i64 0, .int .i64 ((sizeE l : Nat) : Int)] := by simp [sizeV, h]
theorem sizeV_good {l : List Nat} (h : sizeE l = 0) : sizeV l = .tuple #[.int .i64 ((blk (g4 l 8) : Nat) : Int), .int .i64 0] := by simp [sizeV, h]

set_option maxHeartbeats 4000000 in
theorem ropen_bad (A : Option Addr) (cap : Nat) (l : List Nat) (kind : Nat) (hl : ∀ x ∈ l, x < 256) (hlen : l.length ≤ 1000000000) {w : World} {B : Nat} (hsl : Sl w B A (byts l)) (h : sizeE l ≠ 0) :
    Calls Try.prog 16 #[.slice A l.length cap, .int .u8 (kind : Int)] w (OpenR l kind w) := by
  have hE : openE l kind = sizeE l := by unfold openE; rw [if_pos h]
  have N := rsize_any A cap l hl hlen hsl
  unfold SizeR at N
  rw [sizeV_bad h] at N
  unfold OpenR
  rw [hE]
  have hne : ((sizeE l : Int) != 0) = true := by simp; omega
  have hne' : (sizeE l != 0) = true := by simp; omega
  have H := Lib.hid h
  have N' := Lib.hid N
  clear h N hE hl hsl
  generalize sizeE l = z at *
  generalize l.length = n at *
  go_enter Try.func16, Try.ntmps16
  go_wp2_with fail
  refine N'.out.mono ?_
  rintro e w1 ⟨rfl, n1, rfl⟩
  go_wp2_with fail
  go_returns
  exact ⟨drewN_below n1, .inl ⟨H.out, rfl⟩⟩

theorem tail_next {l : List Nat} {i : Nat} (h : i < l.length) (hm : 16 + g4 l 8 ≤ i) : tailBad l (i + 1) = (tailBad l i || (l.getD i 0 != 0)) := by
  unfold tailBad
  have e : l.take (i + 1) = l.take i ++ [l.getD i 0] := by
    rw [List.take_add_one, List.getElem?_eq_getElem h, List.getD_eq_getElem?_getD, List.getElem?_eq_getElem h]; rfl
  rw [e, List.drop_append_of_le_length (by rw [List.length_take]; omega), List.any_append]
  simp
theorem tail_none {l : List Nat} : tailBad l (16 + g4 l 8) = false := by
  unfold tailBad
  rw [List.drop_eq_nil_of_le (by rw [List.length_take]; omega)]
  rfl
theorem dataB_len {l : List Nat} (h : 16 + g4 l 8 ≤ l.length) : (dataB l).length = g4 l 8 := by
  unfold dataB
  rw [List.length_take, List.length_drop]
  omega
theorem sumB_lt (l : List Nat) : sumB l < 4294967296 := more_lt (by decide) _
section
variable {W : World} {A : Option Addr} {cap : Nat} {l : List Nat}
theorem q_get (hl : ∀ x ∈ l, x < 256) (hlen : l.length ≤ 1000000000) (hsl : Sl W W.heap.size A (byts l)) (k : Nat) (z : Int) (hz : z = (k : Int)) (hk : k + 3 < l.length) (n : Nat) :
    Calls Try.prog 28 #[.slice A l.length cap, .int .i64 z] (W.drewN n) fun e w' => e = .returned (.int .i64 ((g4 l k : Nat) : Int)) ∧ ∃ n', w' = W.drewN n' :=
  get_lit A cap l hl k z hz hk hlen hsl ⟨n, rfl⟩
theorem q_sum (hl : ∀ x ∈ l, x < 256) (hsl : Sl W W.heap.size A (byts l)) (h12 : 12 ≤ l.length) (n : Nat) :
    Calls Try.prog 23 #[.slice A 12 cap] (W.drewN n) fun e w' => e = .returned (.int .u32 ((sum (l.take 12) : Nat) : Int)) ∧ ∃ n', w' = W.drewN n' := by
  have ht : (l.take 12).length = 12 := by rw [List.length_take]; omega
  have h : Sl (W.drewN n) (W.drewN n).heap.size A (byts (l.take 12)) := by rw [← byts_take]; exact Sl.to (w := W.drewN n) hsl 12
  have c := rsum_any A cap (l.take 12) (fun x hx => hl x (List.mem_of_mem_take hx)) (by omega) (W.drewN n) h
  rw [ht] at c
  refine c.mono ?_
  rintro e w' ⟨rfl, rfl⟩
  exact ⟨rfl, n, rfl⟩
theorem q_more (hl : ∀ x ∈ l, x < 256) (hsl : Sl W W.heap.size A (byts l)) (hcap : l.length ≤ cap) (hd : 16 + g4 l 8 ≤ l.length) (n : Nat) :
    Calls Try.prog 22 #[.int .u32 ((sum (l.take 12) : Nat) : Int), .slice (cutA A cap 16) (g4 l 8) (cap - 16)] (W.drewN n) fun e w' => e = .returned (.int .u32 ((sumB l : Nat) : Int)) ∧ ∃ n', w' = W.drewN n' := by
  have hdl : (dataB l).length = g4 l 8 := by unfold dataB; rw [List.length_take, List.length_drop]; omega
  have h : Sl (W.drewN n) (W.drewN n).heap.size (cutA A cap 16) (byts (dataB l)) := by
    unfold dataB
    rw [← byts_take, ← byts_drop]
    exact (Sl.from (w := W.drewN n) hsl (by rw [byts_length]; exact hcap)).to _
  have c := rmore_any (sum (l.take 12)) (more_lt (by decide) _) (cutA A cap 16) (cap - 16) (dataB l) (fun x hx => hl x (List.mem_of_mem_drop (List.mem_of_mem_take hx))) (by
    have := g4_lt hl 8
    omega) (W.drewN n) h
  rw [hdl, ← sum_append] at c
  refine c.mono ?_
  rintro e w' ⟨rfl, rfl⟩
  exact ⟨rfl, n, rfl⟩
end
end Go.Proofs.Ytpicalkcgioimaa
