/- The states of PlatterKeeps. -/
import Derived.Test.YtdengokonaljpaaPfl
namespace Go.Proofs.Ytdengokonaljpaa
open Go.RowKit Go.Maps

/-- The block that write j goes to. -/
def kn (ws : List Nat) (j : Nat) : Nat := ws.getD j 0 % 8
/-- Behind i writes. -/
def kst (ws : List Nat) : Nat → PSt
  | 0 => newSt 64
  | i + 1 => ((kst ws i).count 2).put (kn ws i) (all64 (i + 1))
/-- What block n is to hold of the first i writes, of those that f keeps. -/
def kw (ws : List Nat) (f : Nat → Bool) (n : Nat) : Nat → Nat
  | 0 => 0
  | i + 1 => if kn ws i = n ∧ f i = true then i + 1 else kw ws f n i
theorem kw_le (ws : List Nat) (f : Nat → Bool) (n : Nat) : ∀ i, kw ws f n i ≤ i
  | 0 => Nat.le_refl _
  | i + 1 => by
    rw [kw]
    split
    · exact Nat.le_refl _
    · exact Nat.le_succ_of_le (kw_le ws f n i)
theorem kst_mild (ws : List Nat) : ∀ i, Mild (kst ws i) 64 i
  | 0 => mild_new 64
  | i + 1 => (kst_mild ws i).put 2 _ _
theorem kst_cache (ws : List Nat) : ∀ i, (kst ws i).cache = (List.range i).map fun j => (kn ws j, all64 (j + 1))
  | 0 => rfl
  | i + 1 => by
    rw [List.range_succ, List.map_append, ← kst_cache ws i]; rfl
theorem kst_blocks (ws : List Nat) : ∀ i, (kst ws i).blocks = List.replicate 64 zero64
  | 0 => rfl
  | i + 1 => kst_blocks ws i
theorem kst_look (ws : List Nat) (n : Nat) (hn : n < 64) : ∀ i, (kst ws i).look n = all64 (kw ws (fun _ => true) n i)
  | 0 => by
    show (List.replicate 64 zero64).getD n [] = _
    rw [List.getD, List.getElem?_replicate, if_pos hn]; rfl
  | i + 1 => by
    rw [kst, look_put, look_count, kst_look ws n hn i, kw]
    by_cases h : kn ws i = n
    · rw [if_pos h, if_pos ⟨h, rfl⟩]
    · rw [if_neg h, if_neg fun x => h x.1]
theorem applied_kst (ws : List Nat) (f : Nat → Bool) (n m : Nat) (hn : n < 64) (st : PSt) (hc : st.cache = (kst ws m).cache) (hb : st.blocks = (kst ws m).blocks) : ∀ j, j ≤ m → (applied st f j).getD n [] = all64 (kw ws f n j)
  | 0, _ => by
    show st.blocks.getD n [] = _
    rw [hb, kst_blocks, List.getD, List.getElem?_replicate, if_pos hn]; rfl
  | j + 1, hj => by
    have hcj : st.cache[j]? = some (kn ws j, all64 (j + 1)) := by
      rw [hc, kst_cache, List.getElem?_map, List.getElem?_range (by omega)]; rfl
    have hl : (applied st f j).length = 64 := by rw [applied_length, hb, kst_blocks, List.length_replicate]
    have ih := applied_kst ws f n m hn st hc hb j (by omega)
    rw [applied, hcj, kw]
    simp only
    by_cases hf : f j = true
    · rw [if_pos hf]
      by_cases h : kn ws j = n
      · rw [if_pos ⟨h, hf⟩, applyOne, h, List.getD, List.getElem?_set_self (by omega)]; rfl
      · rw [if_neg fun x => h x.1, applyOne, List.getD, List.getElem?_set_ne h, ← List.getD]; exact ih
    · rw [if_neg hf, if_neg fun x => hf x.2]; exact ih
/-- r reads behind the writes. -/
def reads (st : PSt) : Nat → PSt
  | 0 => st
  | r + 1 => (reads st r).count 1
theorem reads_parts (st : PSt) : ∀ r, (reads st r).cache = st.cache ∧ (reads st r).blocks = st.blocks ∧ (reads st r).plan = st.plan
  | 0 => ⟨rfl, rfl, rfl⟩
  | r + 1 => reads_parts st r
theorem reads_look (st : PSt) (n r : Nat) : (reads st r).look n = st.look n := by
  unfold PSt.look; rw [(reads_parts st r).1, (reads_parts st r).2.1]
theorem reads_mild {st : PSt} {m N : Nat} (h : Mild st m N) : ∀ r, Mild (reads st r) m (N + r)
  | 0 => h
  | r + 1 => (reads_mild h r).count 1
/-- Behind the crash: what is kept. -/
theorem crash_look (ws : List Nat) (keep : List Bool) (m r n : Nat) (hn : n < 64) : ((reads (kst ws m) r).crash keep).look n = all64 (kw ws (fun i => keep.getD i false) n m) := by
  rw [look_none rfl]
  show (applied (reads (kst ws m) r) _ (reads (kst ws m) r).cache.length).getD n [] = _
  rw [(reads_parts _ r).1, kst_cache, List.length_map, List.length_range]
  exact applied_kst ws _ n m hn _ (reads_parts _ r).1 (reads_parts _ r).2.1 m (Nat.le_refl _)
end Go.Proofs.Ytdengokonaljpaa
