/- Holes of free blocks, a taken block behind each: their runs, the first that has room (no walk). -/
import Derived.Test.YtfiafgmlbejboaaRn
namespace Go.Proofs.Ytfiafgmlbejboaa.Rn
open Go.RowKit

theorem freeN_set {F : List Bool} {i : Nat} (hi : i < F.length) (b : Bool) : freeN (F.set i b) + (if F.getD i false = true then 1 else 0) = freeN F + if b = true then 1 else 0 := by
  unfold freeN
  rw [List.countP_set hi]
  have hg : F.getD i false = F[i] := by rw [List.getD_eq_getElem?_getD, List.getElem?_eq_getElem hi]; rfl
  have hpos : F[i] = true → 1 ≤ F.countP id := fun h => List.countP_pos_iff.2 ⟨F[i], List.getElem_mem hi, h⟩
  rw [hg]
  simp only [id_eq]
  cases h : F[i] <;> cases b <;> simp <;> have := hpos h <;> omega
theorem freeN_setN {F : List Bool} {a : Nat} {b : Bool} : ∀ n, a + n ≤ F.length → (∀ k, k < n → F.getD (a + k) false = !b) → if b = true then freeN (setN F a b n) = freeN F + n else freeN (setN F a b n) + n = freeN F
  | 0, _, _ => by rw [setN]; split <;> rfl
  | n + 1, h, hb => by
    have ih := freeN_setN n (by omega) (fun k hk => hb k (by omega))
    have hs := freeN_set (F := setN F a b n) (i := a + n) (by rw [setN_len]; omega) b
    rw [setN_at F a b (a + n) n (by omega), if_neg (show ¬ (a ≤ a + n ∧ a + n < a + n) by omega), hb n (by omega)] at hs
    rw [setN]
    cases b <;> simp at ih hs ⊢ <;> omega
/-- Holes of these sizes, a taken block behind each. -/
def H : List Nat → List Bool
  | [] => []
  | s :: ss => List.replicate s true ++ [false] ++ H ss
theorem H_snoc (s : Nat) : ∀ ss : List Nat, H (ss ++ [s]) = H ss ++ List.replicate s true ++ [false]
  | [] => by simp [H]
  | t :: ss => by rw [List.cons_append, H, H_snoc s ss, H]; simp only [List.append_assoc]
theorem H_len_snoc (s : Nat) (ss : List Nat) : (H (ss ++ [s])).length = (H ss).length + s + 1 := by
  rw [H_snoc]; simp; omega
/-- The runs of holes end ahead of the end. -/
theorem H_cut (ss : List Nat) : ∀ r ∈ list (H ss), r.1 + r.2 < (H ss).length := by
  rcases List.eq_nil_or_concat ss with rfl | ⟨t, s, rfl⟩
  · intro r hr; cases hr
  · rw [List.concat_eq_append, H_snoc]; exact list_cut _
theorem H_list (s : Nat) (ss : List Nat) : list (H (ss ++ [s])) = list (H ss) ++ if s = 0 then [] else [((H ss).length, s)] := by
  rw [H_snoc, list_snoc, if_neg (by decide)]
  cases s with
  | zero => simp
  | succ s => rw [list_free (H_cut ss), if_neg (by omega)]
theorem H_free (s : Nat) (ss : List Nat) : freeN (H (ss ++ [s])) = freeN (H ss) + s := by
  unfold freeN
  rw [H_snoc, List.countP_append, List.countP_append, List.countP_replicate]
  simp
theorem H_great (s : Nat) (ss : List Nat) : greatest (H (ss ++ [s])) = max (greatest (H ss)) s := by
  rw [H_snoc]
  rw [← greatest_snoc (H ss) s (H_cut ss)]
  unfold greatest
  rw [list_snoc, if_neg (by decide)]
/-- The first hole that has room for k blocks. -/
def want (k : Nat) (ss : List Nat) : Option Nat := ((list (H ss)).find? fun r => decide (k ≤ r.2)).map (·.1)
theorem want_snoc {k : Nat} (hk : 1 ≤ k) (s : Nat) (ss : List Nat) : want k (ss ++ [s]) = match want k ss with | some a => some a | none => if k ≤ s then some (H ss).length else none := by
  unfold want
  rw [H_list, List.find?_append]
  cases hf : (list (H ss)).find? fun r => decide (k ≤ r.2) with
  | some r => rfl
  | none =>
    simp only [Option.none_or, Option.map_none]
    by_cases h0 : s = 0
    · rw [if_pos h0, if_neg (by omega)]; rfl
    · rw [if_neg h0]
      by_cases h : k ≤ s
      · rw [if_pos h]
        have e : decide (k ≤ s) = true := decide_eq_true h
        simp only [List.find?_cons, e, Option.map_some]
      · rw [if_neg h]
        have e : decide (k ≤ s) = false := decide_eq_false h
        simp only [List.find?_cons, e, List.find?_nil, Option.map_none]
/-- What is not yet used, behind the holes. -/
theorem rest_at {F : List Bool} {n j : Nat} {b : Bool} (h : F.length ≤ j) (h2 : j < F.length + n) : (F ++ List.replicate n b).getD j false = b := by
  rw [List.getD_eq_getElem?_getD, List.getElem?_append_right h, List.getElem?_replicate, if_pos (by omega)]; rfl
theorem mark_hole {F : List Bool} {s rest : Nat} : mark (F ++ List.replicate (s + (rest + 1)) true) ((F.length + s : Nat) : Int) 1 = (true, F ++ List.replicate s true ++ [false] ++ List.replicate rest true) := by
  have hl : (F ++ List.replicate (s + (rest + 1)) true).length = F.length + s + rest + 1 := by rw [List.length_append, List.length_replicate]; omega
  have e : all (F ++ List.replicate (s + (rest + 1)) true) ((F.length + s : Nat) : Int) 1 (!false) = true := (all_iff _ _ _ _).2 ⟨by omega, by omega, by omega, by omega, fun k hk => by
    rw [Int.toNat_natCast]
    exact rest_at (by omega) (by have : k < 1 := hk; omega)⟩
  unfold mark change
  rw [if_pos e, Int.toNat_natCast]
  show (true, setN _ _ _ 1) = _
  congr 1
  simp only [setN, Nat.add_zero]
  rw [List.set_append_right _ _ (by omega), show F.length + s - F.length = s by omega, List.replicate_append_replicate.symm, List.set_append_right _ _ (by rw [List.length_replicate]; exact Nat.le_refl _), List.length_replicate, Nat.sub_self, List.replicate_succ, List.set_cons_zero]
  simp only [List.append_assoc, List.cons_append, List.nil_append]
theorem mark_rest {F : List Bool} {n : Nat} (h : 1 ≤ n) : mark (F ++ List.replicate n true) (F.length : Int) (n : Int) = (true, F ++ List.replicate n false) := by
  have hl : (F ++ List.replicate n true).length = F.length + n := by rw [List.length_append, List.length_replicate]
  have e : all (F ++ List.replicate n true) (F.length : Int) (n : Int) (!false) = true := (all_iff _ _ _ _).2 ⟨by omega, by omega, by omega, by omega, fun k hk => by
    rw [Int.toNat_natCast] at hk ⊢
    exact rest_at (by omega) (by omega)⟩
  unfold mark change
  rw [if_pos e, Int.toNat_natCast, Int.toNat_natCast]
  congr 1
  refine ext (by rw [setN_len, hl, List.length_append, List.length_replicate]) fun j hj => ?_
  rw [setN_len, hl] at hj
  rw [setN_at _ _ _ _ _ (by omega)]
  by_cases h1 : F.length ≤ j ∧ j < F.length + n
  · rw [if_pos h1, rest_at h1.1 h1.2]
  · rw [if_neg h1, List.getD_eq_getElem?_getD, List.getElem?_append_left (by omega), List.getD_eq_getElem?_getD, List.getElem?_append_left (by omega)]
/-- Holes and nothing else: what is free, the longest, the first that has room. -/
theorem full_holes (ss : List Nat) (n : Nat) : list (H ss ++ List.replicate n false) = list (H ss) ∧ freeN (H ss ++ List.replicate n false) = freeN (H ss) ∧ greatest (H ss ++ List.replicate n false) = greatest (H ss) := by
  have h := list_taken (H ss) n
  refine ⟨h, ?_, ?_⟩
  · unfold freeN; rw [List.countP_append, List.countP_replicate]; simp
  · unfold greatest; rw [h]
/-- All blocks of a run are free. -/
theorem list_true (F : List Bool) : ∀ r ∈ list F, ∀ j, r.1 ≤ j → j < r.1 + r.2 → F.getD j false = true := by
  suffices h : ∀ k, ∀ r ∈ listK F k, ∀ j, r.1 ≤ j → j < r.1 + r.2 → F.getD j false = true from h F.length
  intro k
  induction k with
  | zero => intro r hr; cases hr
  | succ k ih =>
    intro r hr j h1 h2
    rw [listK] at hr
    split at hr
    · rename_i hk
      unfold push at hr
      cases hl : (listK F k).getLast? with
      | none =>
        rw [hl] at hr; simp only [List.mem_singleton] at hr; subst hr
        have : j = k := by have : k ≤ j := h1; have : j < k + 1 := h2; omega
        rw [this]; exact hk
      | some q =>
        rw [hl] at hr
        have hq := ih q (List.mem_of_mem_getLast? hl)
        simp only at hr
        split at hr
        · rename_i hqe
          rcases List.mem_append.1 hr with h | h
          · exact ih r ((List.dropLast_sublist _).subset h) j h1 h2
          · rw [List.mem_singleton] at h; subst h
            by_cases hj : j = k
            · rw [hj]; exact hk
            · exact hq j h1 (by have : j < q.1 + (q.2 + 1) := h2; omega)
        · rcases List.mem_append.1 hr with h | h
          · exact ih r h j h1 h2
          · rw [List.mem_singleton] at h; subst h
            have : j = k := by have : k ≤ j := h1; have : j < k + 1 := h2; omega
            rw [this]; exact hk
    · exact ih r hr j h1 h2
/-- What was taken is not free; given back, all is as it was. -/
theorem take_back {F : List Bool} {k : Nat} (hk : 1 ≤ k) {r : Nat × Nat} (hf : ((list F).find? fun r => decide (k ≤ r.2)) = some r) :
    take F (k : Int) = (r.1, true, setN F r.1 false k) ∧ freeN (setN F r.1 false k) + k = freeN F ∧ mark (setN F r.1 false k) (r.1 : Int) 1 = (false, setN F r.1 false k) ∧ give (setN F r.1 false k) (r.1 : Int) (k : Int) = (true, F) := by
  have hr := List.mem_of_find?_eq_some hf
  have hkr : k ≤ r.2 := by have := List.find?_some hf; simpa using this
  obtain ⟨e1, e2⟩ := list_end F r hr
  have ht := list_true F r hr
  have hat := fun j => setN_at F r.1 false j k (by omega)
  refine ⟨?_, ?_, ?_, ?_⟩
  · unfold take
    rw [if_neg (by omega)]
    have : (fun r : Nat × Nat => decide ((k : Int) ≤ (r.2 : Int))) = fun r => decide (k ≤ r.2) := by funext r; simp
    rw [this, hf]; rfl
  · have := freeN_setN (F := F) (a := r.1) (b := false) k (by omega) (fun i hi => by rw [ht _ (by omega) (by omega)]; rfl)
    simpa using this
  · unfold mark change
    rw [if_neg]
    intro hh
    have := ((all_iff _ _ _ _).1 hh).2.2.2.2 0 (by decide)
    rw [Int.toNat_natCast, Nat.add_zero, hat, if_pos (by omega)] at this
    cases this
  · have e : all (setN F r.1 false k) (r.1 : Int) (k : Int) (!true) = true := (all_iff _ _ _ _).2 ⟨by omega, by omega, by rw [setN_len]; omega, by rw [setN_len]; omega, fun i hi => by
      rw [Int.toNat_natCast] at hi ⊢
      rw [hat, if_pos (by omega)]; rfl⟩
    unfold give change
    rw [if_pos e, Int.toNat_natCast, Int.toNat_natCast]
    congr 1
    refine ext (by rw [setN_len, setN_len]) fun j hj => ?_
    rw [setN_at _ _ _ _ _ (by rw [setN_len]; omega), hat]
    by_cases h : r.1 ≤ j ∧ j < r.1 + k
    · rw [if_pos h, ht j h.1 (by omega)]
    · rw [if_neg h, if_neg h]
theorem take_none {F : List Bool} {k : Nat} (hk : 1 ≤ k) (hf : ((list F).find? fun r => decide (k ≤ r.2)) = none) : take F (k : Int) = (0, false, F) := by
  unfold take
  rw [if_neg (by omega)]
  have : (fun r : Nat × Nat => decide ((k : Int) ≤ (r.2 : Int))) = fun r => decide (k ≤ r.2) := by funext r; simp
  rw [this, hf]
end Go.Proofs.Ytfiafgmlbejboaa.Rn
