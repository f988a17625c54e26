/- The program's row of runs, with their uses now and their uses at the last Settle (plain Lean, no program). -/
import Derived.Test.YtfiafgmlbejboaaShok
namespace Go.Proofs.Ytfiafgmlbejboaa.Sk
open Sh

/-- A run: first block, blocks, uses now, uses at the last Settle (0: it was not known). -/
abbrev K := Nat × Nat × Nat × Nat
def toN (k : K) : U := (k.1, k.2.1, k.2.2.1)
def toW (k : K) : U := (k.1, k.2.1, k.2.2.2)
def isL (k : K) : Bool := k.2.2.1 == 0
def isA (k : K) : Bool := k.2.2.2 == 0
def ofN (l : List K) : List U := l.map toN
def ofW (l : List K) : List U := (l.filter fun k => !isA k).map toW
def Asc (l : List K) : Prop := l.Pairwise fun a b => a.1 < b.1
def at_ (l : List K) (k : Nat) : K := l.getD k (0, 0, 0, 0)
theorem at_eq {l : List K} {k : Nat} (h : k < l.length) : at_ l k = l[k] := by unfold at_; rw [List.getD_eq_getElem?_getD, List.getElem?_eq_getElem h]; rfl
theorem at_some {l : List K} {k : Nat} (h : k < l.length) : l[k]? = some (at_ l k) := by rw [at_eq h, List.getElem?_eq_getElem h]
theorem ofN_len (l : List K) : (ofN l).length = l.length := by unfold ofN; rw [List.length_map]
theorem ofN_at {l : List K} {k : Nat} (h : k < l.length) : Sh.at_ (ofN l) k = toN (at_ l k) := by
  unfold Sh.at_ ofN
  rw [List.getD_eq_getElem?_getD, List.getElem?_map, at_some h]
  rfl
theorem Asc.lt {l : List K} (h : Asc l) {i j : Nat} (hij : i < j) (hj : j < l.length) : (at_ l i).1 < (at_ l j).1 := by
  rw [at_eq hj, at_eq (Nat.lt_trans hij hj)]
  exact (List.pairwise_iff_getElem.1 h) i j _ hj hij
/-- The first that does not lie below a. -/
structure Found (l : List K) (a : Int) (i : Nat) (is : Bool) : Prop where
  le : i ≤ l.length
  lo : ∀ j, j < i → ((at_ l j).1 : Int) < a
  hi : ∀ j, i ≤ j → j < l.length → a ≤ ((at_ l j).1 : Int)
  is_ : is = (decide (i < l.length) && decide (((at_ l i).1 : Int) = a))
section
variable {l : List K} {a : Int} {i : Nat} {is : Bool}
theorem Found.yes (h : Found l a i true) : i < l.length ∧ ((at_ l i).1 : Int) = a := by
  have := h.is_
  simpa using this.symm
theorem Found.idx_yes (h : Found l a i true) : idx (ofN l) a = some i := by
  obtain ⟨h1, h2⟩ := h.yes
  refine idx_here (by rw [ofN_len]; exact h1) (by rw [ofN_at h1]; exact h2) fun j hj => ?_
  rw [ofN_at (by omega)]
  have := h.lo j hj
  show ((at_ l j).1 : Int) ≠ a
  omega
theorem Found.idx_no (hs : Asc l) (h : Found l a i false) : idx (ofN l) a = none := by
  refine idx_none fun j hj => ?_
  rw [ofN_len] at hj
  rw [ofN_at hj]
  show ((at_ l j).1 : Int) ≠ a
  intro e
  rcases Nat.lt_or_ge j i with c | c
  · have := h.lo j c; omega
  · have hi := h.is_
    have c1 : i < l.length := by omega
    have c2 : ((at_ l i).1 : Int) = a := by
      have h1 := h.hi i (Nat.le_refl _) c1
      rcases Nat.eq_or_lt_of_le c with c | c
      · rw [c]; exact e
      · have := hs.lt c hj; omega
    simp [c1, c2] at hi
theorem Found.below {a : Nat} (h : Found l (a : Int) i is) : below (ofN l) a = i := by
  refine below_here (by rw [ofN_len]; exact h.le) (fun j hj => ?_) (fun hk => ?_)
  · rw [ofN_at (by have := h.le; omega)]
    have := h.lo j hj
    show (at_ l j).1 < a
    omega
  · rw [ofN_len] at hk
    rw [ofN_at hk]
    have := h.hi i (Nat.le_refl _) hk
    show ¬ (at_ l i).1 < a
    omega
/-- A run more. -/
def insK (l : List K) (i a n : Nat) : List K := l.take i ++ [(a, n, 1, 0)] ++ l.drop i
theorem insK_len (l : List K) (i a n : Nat) (h : i ≤ l.length) : (insK l i a n).length = l.length + 1 := by
  unfold insK
  rw [List.length_append, List.length_append, List.length_take, List.length_drop, List.length_singleton]
  omega
theorem ofN_ins {a : Nat} (h : Found l (a : Int) i is) (n : Nat) : ofN (insK l i a n) = ins (ofN l) a n := by
  unfold ins
  rw [h.below]
  unfold insK ofN
  rw [List.map_append, List.map_append, List.map_take, List.map_drop]
  rfl
theorem ofW_ins (l : List K) (i a n : Nat) : ofW (insK l i a n) = ofW l := by
  have e : ofW l = ofW (l.take i ++ l.drop i) := by rw [List.take_append_drop]
  rw [e]
  unfold insK ofW
  rw [List.filter_append, List.filter_append, List.filter_append]
  simp [isA]
theorem asc_ins {a : Nat} (hs : Asc l) (h : Found l (a : Int) i false) (n : Nat) : Asc (insK l i a n) := by
  have hlo : ∀ u ∈ l.take i, u.1 < a := fun u hu => by
    obtain ⟨j, hj, rfl⟩ := List.mem_iff_getElem.1 hu
    rw [List.length_take] at hj
    rw [List.getElem_take]
    have := h.lo j (by omega)
    rw [at_eq (by omega)] at this
    omega
  have hhi : ∀ u ∈ l.drop i, a < u.1 := fun u hu => by
    obtain ⟨j, hj, rfl⟩ := List.mem_iff_getElem.1 hu
    rw [List.length_drop] at hj
    rw [List.getElem_drop]
    have h1 := h.hi (i + j) (by omega) (by omega)
    have h3 := h.idx_no hs
    rw [at_eq (by omega)] at h1
    have hne : ((Sh.at_ (ofN l) (i + j)).1 : Int) ≠ a := by
      intro e
      unfold idx at h3
      rw [List.findIdx?_eq_none_iff] at h3
      have := h3 (Sh.at_ (ofN l) (i + j)) (by
        unfold Sh.at_
        rw [List.getD_eq_getElem?_getD, List.getElem?_eq_getElem (by rw [ofN_len]; omega)]
        exact List.getElem_mem _)
      simp at this
      omega
    rw [ofN_at (by omega), at_eq (by omega)] at hne
    have hne : ((l[i + j]).1 : Int) ≠ (a : Int) := hne
    omega
  unfold insK Asc
  refine List.pairwise_append.2 ⟨List.pairwise_append.2 ⟨hs.sublist (List.take_sublist _ _), List.pairwise_singleton _ _, fun u hu v hv => ?_⟩, hs.sublist (List.drop_sublist _ _), fun u hu v hv => ?_⟩
  · rw [List.mem_singleton.1 hv]; exact hlo u hu
  · rcases List.mem_append.1 hu with hu | hu
    · exact Nat.lt_trans (hlo u hu) (hhi v hv)
    · rw [List.mem_singleton.1 hu]; exact hhi v hv
theorem add_no {n : Int} (h : n < 1 ∨ a < 0) : add (ofN l) a n = (false, ofN l) := by
  unfold add
  rw [if_pos]
  rcases h with h | h
  · exact .inl h
  · exact .inr (.inl h)
theorem add_known {n : Int} (h : Found l a i true) : add (ofN l) a n = (false, ofN l) := by
  unfold add idxV
  rw [h.idx_yes, if_pos (.inr (.inr (Int.natCast_nonneg i)))]
theorem add_new {a n : Nat} (hs : Asc l) (h : Found l (a : Int) i false) (hn : 1 ≤ n) : add (ofN l) (a : Int) (n : Int) = (true, ofN (insK l i a n)) := by
  unfold add idxV
  rw [h.idx_no hs, if_neg (by show ¬ _; simp; omega), ofN_ins h, Int.toNat_natCast, Int.toNat_natCast]
/-- Uses changed. -/
def putU (l : List K) (i m : Nat) : List K := l.set i ((at_ l i).1, (at_ l i).2.1, m, (at_ l i).2.2.2)
theorem putU_len (l : List K) (i m : Nat) : (putU l i m).length = l.length := by unfold putU; rw [List.length_set]
theorem ofN_put (h : i < l.length) (m : Nat) : ofN (putU l i m) = setU (ofN l) i m := by
  unfold putU setU
  rw [ofN_at h]
  unfold ofN
  rw [List.map_set]
  rfl
theorem ofW_put (h : i < l.length) (m : Nat) : ofW (putU l i m) = ofW l := by
  have e : l.set i ((at_ l i).1, (at_ l i).2.1, m, (at_ l i).2.2.2) = l.take i ++ ((at_ l i).1, (at_ l i).2.1, m, (at_ l i).2.2.2) :: l.drop (i + 1) := List.set_eq_take_append_cons_drop .. |>.trans (by rw [if_pos h])
  have e2 : l = l.take i ++ at_ l i :: l.drop (i + 1) := by
    conv => lhs; rw [← List.take_append_drop i l]
    rw [List.drop_eq_getElem_cons h, at_eq h]
  unfold putU
  rw [e]
  conv => rhs; rw [e2]
  unfold ofW
  rw [List.filter_append, List.filter_append, List.map_append, List.map_append]
  congr 1
  rw [List.filter_cons, List.filter_cons]
  show (if (!isA ((at_ l i).1, (at_ l i).2.1, m, (at_ l i).2.2.2)) = true then _ else _ : List K).map toW = _
  have : isA ((at_ l i).1, (at_ l i).2.1, m, (at_ l i).2.2.2) = isA (at_ l i) := rfl
  rw [this]
  split <;> rfl
theorem asc_put (hs : Asc l) (h : i < l.length) (m : Nat) : Asc (putU l i m) := by
  have e : (putU l i m).map (·.1) = l.map (·.1) := by
    unfold putU
    rw [List.map_set]
    refine List.ext_getElem (by simp) fun j h1 h2 => ?_
    rw [List.getElem_set]
    split
    · next e => subst e; rw [List.getElem_map, at_eq h]
    · rfl
  have h1 : (l.map (·.1)).Pairwise (· < ·) := List.pairwise_map.2 hs
  rw [← e] at h1
  exact List.pairwise_map.1 h1
theorem change_no (hs : Asc l) (h : Found l a i false) (more : Bool) : change (ofN l) a more = (false, ofN l) := by
  unfold change
  rw [h.idx_no hs]
theorem change_late (h : Found l a i true) (hz : (at_ l i).2.2.1 = 0) (more : Bool) : change (ofN l) a more = (false, ofN l) := by
  unfold change
  rw [h.idx_yes]
  simp only
  rw [ofN_at h.yes.1, if_pos (show (toN (at_ l i)).2.2 = 0 from hz)]
theorem change_yes (h : Found l a i true) (hz : (at_ l i).2.2.1 ≠ 0) (more : Bool) : change (ofN l) a more = (true, ofN (putU l i (if more = true then (at_ l i).2.2.1 + 1 else (at_ l i).2.2.1 - 1))) := by
  unfold change
  rw [h.idx_yes, ofN_put h.yes.1]
  simp only
  rw [ofN_at h.yes.1, if_neg (show ¬ (toN (at_ l i)).2.2 = 0 from hz)]
  rfl
theorem uses_yes (h : Found l a i true) : uses (ofN l) a = (at_ l i).2.2.1 := by
  unfold uses
  rw [h.idx_yes]
  simp only
  rw [ofN_at h.yes.1]
  rfl
theorem uses_no (hs : Asc l) (h : Found l a i false) : uses (ofN l) a = 0 := by
  unfold uses
  rw [h.idx_no hs]
end
/-- The runs for which p holds. -/
def runsOf (p : K → Bool) (l : List K) : List (Nat × Nat) := (l.filter p).map fun k => (k.1, k.2.1)
theorem lst_late (l : List K) : lst true (ofN l) = runsOf isL l := by
  unfold lst runsOf ofN
  rw [List.filter_map, List.map_map]
  congr 1
  refine List.filter_congr fun k _ => ?_
  show (isLate (toN k) == true) = isL k
  simp [isLate, toN, isL]
theorem lst_used (l : List K) : lst false (ofN l) = runsOf (fun k => !isL k) l := by
  unfold lst runsOf ofN
  rw [List.filter_map, List.map_map]
  congr 1
  refine List.filter_congr fun k _ => ?_
  show (isLate (toN k) == false) = !isL k
  simp [isLate, toN, isL]
theorem runsOf_next (p : K → Bool) {l : List K} {i : Nat} (h : i < l.length) : runsOf p (l.take (i + 1)) = runsOf p (l.take i) ++ if p (at_ l i) = true then [((at_ l i).1, (at_ l i).2.1)] else [] := by
  unfold runsOf
  rw [List.take_add_one, at_some h, List.filter_append, List.map_append]
  congr 1
  by_cases c : p (at_ l i) = true
  · rw [if_pos c]; simp [List.filter, c]
  · rw [if_neg c]; simp [List.filter, c]
theorem runsOf_few (p : K → Bool) (l : List K) : (runsOf p l).length ≤ l.length := by unfold runsOf; rw [List.length_map]; exact List.length_filter_le _ _
theorem filter_next (p : K → Bool) {l : List K} {i : Nat} (h : i < l.length) : (l.take (i + 1)).filter p = (l.take i).filter p ++ if p (at_ l i) = true then [at_ l i] else [] := by
  rw [List.take_add_one, at_some h, List.filter_append]
  congr 1
  by_cases c : p (at_ l i) = true
  · rw [if_pos c]; simp [List.filter, c]
  · rw [if_neg c]; simp [List.filter, c]
/-- What is given back, run by run. -/
def gone (p : K → Bool) (F : List Bool) (l : List K) : List Bool := giveAll F (ofN (l.filter p))
def sumN (p : K → Bool) (l : List K) : Nat := blocks (ofN (l.filter p))
theorem gone_next (p : K → Bool) (F : List Bool) {l : List K} {i : Nat} (h : i < l.length) : gone p F (l.take (i + 1)) = if p (at_ l i) = true then (Rn.give (gone p F (l.take i)) ((at_ l i).1 : Int) ((at_ l i).2.1 : Int)).2 else gone p F (l.take i) := by
  unfold gone
  rw [filter_next p h]
  split
  · unfold ofN giveAll
    rw [List.map_append, List.foldl_append]
    rfl
  · rw [List.append_nil]
theorem sumN_next (p : K → Bool) {l : List K} {i : Nat} (h : i < l.length) : sumN p (l.take (i + 1)) = sumN p (l.take i) + if p (at_ l i) = true then (at_ l i).2.1 else 0 := by
  unfold sumN
  rw [filter_next p h]
  split
  · unfold ofN blocks
    rw [List.map_append, List.map_append, List.sum_append]
    simp [toN]
  · rw [List.append_nil]; omega
theorem sumN_few (p : K → Bool) {l : List K} {M : Nat} (h : ∀ k ∈ l, k.2.1 ≤ M) (i : Nat) : sumN p (l.take i) ≤ l.length * M := by
  have h1 : ∀ (r : List K), (∀ k ∈ r, k.2.1 ≤ M) → blocks (ofN r) ≤ r.length * M := by
    intro r hr
    induction r with
    | nil => simp [blocks, ofN]
    | cons k r ih =>
      have := ih fun k hk => hr k (List.mem_cons_of_mem _ hk)
      have h2 := hr k (List.mem_cons_self ..)
      unfold blocks ofN at this ⊢
      rw [List.map_cons, List.map_cons, List.sum_cons, List.length_cons, Nat.add_mul]
      show k.2.1 + _ ≤ _
      omega
  have hsub : ((l.take i).filter p).Sublist l := List.filter_sublist.trans (List.take_sublist _ _)
  exact Nat.le_trans (h1 _ fun k hk => h k (hsub.subset hk)) (Nat.mul_le_mul_right _ hsub.length_le)
theorem lates_is (l : List K) : lates (ofN l) = ofN (l.filter isL) := by
  unfold lates ofN
  rw [List.filter_map]
  rfl
theorem used_is (l : List K) : used (ofN l) = ofN (l.filter fun k => !isL k) := by
  unfold used ofN
  rw [List.filter_map]
  rfl
/-- Uses at the last Settle made the uses now (Settle), or the other way round (Back). -/
def lev1 (k : K) : K := (k.1, k.2.1, k.2.2.1, k.2.2.1)
def lev2 (k : K) : K := (k.1, k.2.1, k.2.2.2, k.2.2.2)
theorem settle_now (l : List K) : ofN ((l.filter fun k => !isL k).map lev1) = used (ofN l) := by
  rw [used_is]
  unfold ofN
  rw [List.map_map]
  rfl
theorem settle_was (l : List K) : ofW ((l.filter fun k => !isL k).map lev1) = used (ofN l) := by
  rw [used_is]
  unfold ofW ofN
  rw [List.filter_map, List.filter_filter, List.map_map]
  congr 1
  refine List.filter_congr fun k _ => ?_
  show (!isA (lev1 k) && !isL k) = !isL k
  have : isA (lev1 k) = isL k := rfl
  rw [this, Bool.and_self]
theorem back_now (l : List K) : ofN ((l.filter fun k => !isA k).map lev2) = ofW l := by
  unfold ofN ofW
  rw [List.map_map]
  rfl
theorem back_was (l : List K) : ofW ((l.filter fun k => !isA k).map lev2) = ofW l := by
  unfold ofW
  rw [List.filter_map, List.filter_filter, List.map_map]
  congr 1
  refine List.filter_congr fun k _ => ?_
  show (!isA (lev2 k) && !isA k) = !isA k
  have : isA (lev2 k) = isA k := rfl
  rw [this, Bool.and_self]
theorem asc_lev {l : List K} (h : Asc l) (p : K → Bool) {f : K → K} (hf : ∀ k, (f k).1 = k.1) : Asc ((l.filter p).map f) := by
  refine List.pairwise_map.2 ((h.sublist List.filter_sublist).imp fun {a b} h => ?_)
  rw [hf, hf]; exact h
theorem news_is {l : List K} (h : Asc l) : news (ofN l) (ofW l) = ofN (l.filter isA) := by
  unfold news ofN
  rw [List.filter_map]
  congr 1
  refine List.filter_congr fun k hk => ?_
  show (!(ofW l).any fun o => decide (o.1 = (toN k).1)) = isA k
  cases hA : isA k with
  | false =>
    have : ((ofW l).any fun o => decide (o.1 = (toN k).1)) = true := List.any_eq_true.2 ⟨toW k, List.mem_map.2 ⟨k, List.mem_filter.2 ⟨hk, by simp [hA]⟩, rfl⟩, by simp [toN, toW]⟩
    rw [this]; rfl
  | true =>
    have : ((ofW l).any fun o => decide (o.1 = (toN k).1)) = false := by
      rw [List.any_eq_false]
      intro o ho
      obtain ⟨k2, hk2, rfl⟩ := List.mem_map.1 ho
      obtain ⟨hm, hA2⟩ := List.mem_filter.1 hk2
      simp only [decide_eq_true_eq]
      intro e
      have e : k2.1 = k.1 := e
      have : k2 = k := by
        obtain ⟨i, hi, rfl⟩ := List.mem_iff_getElem.1 hm
        obtain ⟨j, hj, rfl⟩ := List.mem_iff_getElem.1 hk
        have hp := List.pairwise_iff_getElem.1 h
        rcases Nat.lt_trichotomy i j with c | c | c
        · have := hp i j hi hj c; omega
        · subst c; rfl
        · have := hp j i hj hi c; omega
      subst this
      rw [hA] at hA2
      cases hA2
    rw [this]; rfl
end Go.Proofs.Ytfiafgmlbejboaa.Sk
