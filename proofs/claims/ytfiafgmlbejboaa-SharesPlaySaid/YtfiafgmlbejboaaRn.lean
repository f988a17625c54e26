/- Free blocks as a list of Bools: the runs, what is taken, marked, given (no walk). -/
import Derived.Test.YtfiafgmlbejboaaLaw
namespace Go.Proofs.Ytfiafgmlbejboaa.Rn
open Go.RowKit

/-- One block more at the end: it makes the last run longer, or begins one. -/
def push (l : List (Nat × Nat)) (i : Nat) : List (Nat × Nat) :=
  match l.getLast? with
  | some r => if r.1 + r.2 = i then l.dropLast ++ [(r.1, r.2 + 1)] else l ++ [(i, 1)]
  | none => [(i, 1)]
/-- The free runs among the first k blocks. -/
def listK (F : List Bool) : Nat → List (Nat × Nat)
  | 0 => []
  | k + 1 => if F.getD k false = true then push (listK F k) k else listK F k
def list (F : List Bool) : List (Nat × Nat) := listK F F.length
def freeN (F : List Bool) : Nat := F.countP id
def greatest (F : List Bool) : Nat := ((list F).map (·.2)).foldl max 0
/-- Are all of n blocks from a place on free, or taken, as is asked? -/
def all (F : List Bool) (a n : Int) (b : Bool) : Bool := decide (0 ≤ a) && decide (1 ≤ n) && decide (a < F.length) && decide (n ≤ F.length - a) && (List.range n.toNat).all fun k => F.getD (a.toNat + k) false == b
/-- n blocks from a place on. -/
def setN (F : List Bool) (a : Nat) (b : Bool) : Nat → List Bool
  | 0 => F
  | n + 1 => (setN F a b n).set (a + n) b
/-- Mark and Give: the answer and what is free then. -/
def change (F : List Bool) (a n : Int) (b : Bool) : Bool × List Bool := if all F a n (!b) then (true, setN F a.toNat b n.toNat) else (false, F)
def mark (F : List Bool) (a n : Int) : Bool × List Bool := change F a n false
def give (F : List Bool) (a n : Int) : Bool × List Bool := change F a n true
/-- Take: the answer, and what is free then. -/
def take (F : List Bool) (n : Int) : Nat × Bool × List Bool :=
  if n < 1 then (0, false, F) else match (list F).find? fun r => decide (n ≤ (r.2 : Int)) with
    | some r => (r.1, true, setN F r.1 false n.toNat)
    | none => (0, false, F)
def new (blocks : Int) : List Bool := if blocks < 0 ∨ 8192 < blocks then [] else List.replicate blocks.toNat true

theorem setN_len (F : List Bool) (a : Nat) (b : Bool) : ∀ n, (setN F a b n).length = F.length
  | 0 => rfl
  | n + 1 => by rw [setN, List.length_set]; exact setN_len F a b n
theorem getD_set (F : List Bool) (i : Nat) (v : Bool) {j : Nat} (hi : i < F.length) : (F.set i v).getD j false = if i = j then v else F.getD j false := by
  rw [List.getD_eq_getElem?_getD, List.getElem?_set]
  by_cases h : i = j
  · subst h; rw [if_pos rfl, if_pos hi, if_pos rfl]; rfl
  · rw [if_neg h, if_neg h, List.getD_eq_getElem?_getD]
theorem setN_at (F : List Bool) (a : Nat) (b : Bool) (j : Nat) : ∀ n, a + n ≤ F.length → (setN F a b n).getD j false = if a ≤ j ∧ j < a + n then b else F.getD j false
  | 0, _ => by rw [setN, if_neg (by omega)]
  | n + 1, h => by
    rw [setN, getD_set _ _ _ (by rw [setN_len]; omega), setN_at F a b j n (by omega)]
    by_cases h1 : a + n = j
    · rw [if_pos h1, if_pos (by omega)]
    · rw [if_neg h1]
      by_cases h2 : a ≤ j ∧ j < a + n
      · rw [if_pos h2, if_pos (by omega)]
      · rw [if_neg h2, if_neg (by omega)]
theorem ext {F G : List Bool} (hl : F.length = G.length) (h : ∀ j, j < F.length → F.getD j false = G.getD j false) : F = G := by
  apply List.ext_getElem?
  intro j
  rcases Nat.lt_or_ge j F.length with hj | hj
  · have := h j hj
    rw [List.getD_eq_getElem?_getD, List.getD_eq_getElem?_getD, List.getElem?_eq_getElem hj, List.getElem?_eq_getElem (by omega)] at this
    rw [List.getElem?_eq_getElem hj, List.getElem?_eq_getElem (by omega)]
    simpa using this
  · rw [List.getElem?_eq_none hj, List.getElem?_eq_none (by omega)]
theorem all_iff (F : List Bool) (a n : Int) (b : Bool) : all F a n b = true ↔ 0 ≤ a ∧ 1 ≤ n ∧ a < F.length ∧ n ≤ F.length - a ∧ ∀ k, k < n.toNat → F.getD (a.toNat + k) false = b := by
  unfold all
  simp only [Bool.and_eq_true, decide_eq_true_eq, List.all_eq_true, List.mem_range, beq_iff_eq]
  constructor
  · rintro ⟨⟨⟨⟨h1, h2⟩, h3⟩, h4⟩, h5⟩; exact ⟨h1, h2, h3, h4, h5⟩
  · rintro ⟨h1, h2, h3, h4, h5⟩; exact ⟨⟨⟨⟨h1, h2⟩, h3⟩, h4⟩, h5⟩
theorem listK_app (F G : List Bool) : ∀ k, k ≤ F.length → listK (F ++ G) k = listK F k
  | 0, _ => rfl
  | k + 1, h => by
    have e : (F ++ G).getD k false = F.getD k false := by rw [List.getD_eq_getElem?_getD, List.getElem?_append_left (by omega), ← List.getD_eq_getElem?_getD]
    rw [listK, listK, e, listK_app F G k (by omega)]
theorem list_snoc (F : List Bool) (b : Bool) : list (F ++ [b]) = if b = true then push (list F) F.length else list F := by
  unfold list
  have e : (F ++ [b]).getD F.length false = b := by rw [List.getD_eq_getElem?_getD, List.getElem?_append_right (Nat.le_refl _), Nat.sub_self]; rfl
  rw [List.length_append, List.length_singleton, listK, e, listK_app F [b] _ (Nat.le_refl _)]
theorem list_taken (F : List Bool) : ∀ n, list (F ++ List.replicate n false) = list F
  | 0 => by rw [List.replicate_zero, List.append_nil]
  | n + 1 => by rw [List.replicate_succ', ← List.append_assoc, list_snoc, if_neg (by decide), list_taken F n]
/-- Where runs end: not behind the blocks that there are. -/
theorem listK_end (F : List Bool) : ∀ k, ∀ r ∈ listK F k, 1 ≤ r.2 ∧ r.1 + r.2 ≤ k := by
  intro k
  induction k with
  | zero => intro r hr; cases hr
  | succ k ih =>
    intro r hr
    rw [listK] at hr
    split at hr
    · unfold push at hr
      cases hl : (listK F k).getLast? with
      | none => rw [hl] at hr; simp only [List.mem_singleton] at hr; subst hr; exact ⟨Nat.le_refl _, Nat.le_refl _⟩
      | some q =>
        rw [hl] at hr
        have hq := ih q (List.mem_of_mem_getLast? hl)
        simp only at hr
        split at hr
        · rcases List.mem_append.1 hr with h | h
          · have := ih r ((List.dropLast_sublist _).subset h); omega
          · rw [List.mem_singleton] at h; subst h; omega
        · rcases List.mem_append.1 hr with h | h
          · have := ih r h; omega
          · rw [List.mem_singleton] at h; subst h; exact ⟨Nat.le_refl _, Nat.le_refl _⟩
    · have := ih r hr; omega
theorem list_end (F : List Bool) : ∀ r ∈ list F, 1 ≤ r.2 ∧ r.1 + r.2 ≤ F.length := listK_end F F.length
/-- Free blocks behind blocks of which the last one is taken (or there is none): one run more. -/
theorem list_free {F : List Bool} (h : ∀ r ∈ list F, r.1 + r.2 < F.length) : ∀ n, list (F ++ List.replicate (n + 1) true) = list F ++ [(F.length, n + 1)]
  | 0 => by
    rw [List.replicate_succ, List.replicate_zero, list_snoc, if_pos rfl]
    unfold push
    cases hl : (list F).getLast? with
    | none =>
      have : list F = [] := List.getLast?_eq_none_iff.1 hl
      rw [this]; rfl
    | some q =>
      have := h q (List.mem_of_mem_getLast? hl)
      simp only
      rw [if_neg (by omega)]
  | n + 1 => by
    rw [List.replicate_succ', ← List.append_assoc, list_snoc, if_pos rfl, list_free h n]
    unfold push
    rw [List.getLast?_append, List.getLast?_singleton]
    simp
theorem list_all (n : Nat) : list (List.replicate (n + 1) true) = [(0, n + 1)] := by
  have := list_free (F := []) (by intro r hr; cases hr) n
  rw [List.nil_append] at this
  exact this
/-- Behind a taken block a run may begin. -/
theorem list_cut (F : List Bool) : ∀ r ∈ list (F ++ [false]), r.1 + r.2 < (F ++ [false]).length := by
  intro r hr
  rw [list_snoc, if_neg (by decide)] at hr
  have := list_end F r hr
  rw [List.length_append, List.length_singleton]; omega
theorem greatest_snoc (F : List Bool) (n : Nat) (h : ∀ r ∈ list F, r.1 + r.2 < F.length) : greatest (F ++ List.replicate n true) = max (greatest F) n := by
  cases n with
  | zero => rw [List.replicate_zero, List.append_nil, Nat.max_zero]
  | succ n =>
    unfold greatest
    rw [list_free h n, List.map_append, List.foldl_append]; rfl

/-- Taken from the beginning. -/
def pre (s t : Nat) : List Bool := List.replicate s false ++ List.replicate t true
theorem pre_len (s t : Nat) : (pre s t).length = s + t := by unfold pre; rw [List.length_append, List.length_replicate, List.length_replicate]
theorem pre_at {s t j : Nat} (h : j < s + t) : (pre s t).getD j false = decide (s ≤ j) := by
  unfold pre
  by_cases hj : j < s
  · rw [List.getD_eq_getElem?_getD, List.getElem?_append_left (by rw [List.length_replicate]; exact hj), List.getElem?_replicate, if_pos hj, decide_eq_false (by omega)]; rfl
  · rw [List.getD_eq_getElem?_getD, List.getElem?_append_right (by rw [List.length_replicate]; omega), List.length_replicate, List.getElem?_replicate, if_pos (by omega), decide_eq_true (by omega)]; rfl
theorem list_pre (s t : Nat) : list (pre s t) = if t = 0 then [] else [(s, t)] := by
  have h0 : list (List.replicate s false) = [] := by
    have := list_taken [] s
    rw [List.nil_append] at this
    exact this
  unfold pre
  cases t with
  | zero => rw [List.replicate_zero, List.append_nil, h0, if_pos rfl]
  | succ t => rw [list_free (by rw [h0]; intro r hr; cases hr), h0, List.length_replicate, if_neg (by omega)]; rfl
theorem setN_pre {s t n : Nat} (h : n ≤ t) : setN (pre s t) s false n = pre (s + n) (t - n) := by
  refine ext (by rw [setN_len, pre_len, pre_len]; omega) fun j hj => ?_
  rw [setN_len, pre_len] at hj
  rw [setN_at _ _ _ _ _ (by rw [pre_len]; omega), pre_at hj, pre_at (by omega)]
  by_cases h1 : s ≤ j ∧ j < s + n
  · rw [if_pos h1, decide_eq_false (by omega)]
  · rw [if_neg h1]
    by_cases h2 : s ≤ j
    · rw [decide_eq_true h2, decide_eq_true (by omega)]
    · rw [decide_eq_false h2, decide_eq_false (by omega)]
theorem take_pre {s t n : Nat} (h1 : 1 ≤ n) : take (pre s t) (n : Int) = if n ≤ t then (s, true, pre (s + n) (t - n)) else (0, false, pre s t) := by
  unfold take
  rw [if_neg (by omega), list_pre]
  by_cases h : n ≤ t
  · rw [if_neg (by omega), if_pos h]
    have e : decide ((n : Int) ≤ (t : Int)) = true := decide_eq_true (by omega)
    simp only [List.find?_cons, e, Int.toNat_natCast]
    rw [setN_pre h]
  · rw [if_neg h]
    by_cases h0 : t = 0
    · rw [if_pos h0]; rfl
    · rw [if_neg h0]
      have e : decide ((n : Int) ≤ (t : Int)) = false := decide_eq_false (by omega)
      simp only [List.find?_cons, e, List.find?_nil]

/-- What is taken is just these pieces, apart from each other. -/
structure Pieces (F : List Bool) (l : List (Nat × Nat)) : Prop where
  fit : ∀ r ∈ l, 1 ≤ r.2 ∧ r.1 + r.2 ≤ F.length
  apart : l.Pairwise fun r q => r.1 + r.2 ≤ q.1 ∨ q.1 + q.2 ≤ r.1
  taken : ∀ j, j < F.length → (F.getD j false = false ↔ ∃ r ∈ l, r.1 ≤ j ∧ j < r.1 + r.2)
theorem Pieces.perm {F : List Bool} {l l' : List (Nat × Nat)} (h : Pieces F l) (hp : l.Perm l') : Pieces F l' :=
  ⟨fun r hr => h.fit r (hp.mem_iff.2 hr), (hp.pairwise_iff (fun h => h.symm)).1 h.apart, fun j hj => (h.taken j hj).trans ⟨fun ⟨r, hr, h'⟩ => ⟨r, hp.mem_iff.1 hr, h'⟩, fun ⟨r, hr, h'⟩ => ⟨r, hp.mem_iff.2 hr, h'⟩⟩⟩
/-- A piece is given back, once. -/
theorem Pieces.give {F : List Bool} {r : Nat × Nat} {l : List (Nat × Nat)} (h : Pieces F (r :: l)) : Rn.give F (r.1 : Int) (r.2 : Int) = (true, setN F r.1 true r.2) ∧ Pieces (setN F r.1 true r.2) l ∧
    Rn.give (setN F r.1 true r.2) (r.1 : Int) (r.2 : Int) = (false, setN F r.1 true r.2) := by
  obtain ⟨f1, f2⟩ := h.fit r (List.mem_cons_self ..)
  have ha := List.pairwise_cons.1 h.apart
  have hat := fun j => setN_at F r.1 true j r.2 f2
  have e1 : all F (r.1 : Int) (r.2 : Int) (!true) = true := (all_iff _ _ _ _).2 ⟨by omega, by omega, by omega, by omega, fun k hk => by
    rw [Int.toNat_natCast] at hk ⊢
    exact (h.taken _ (by omega)).2 ⟨r, List.mem_cons_self .., by omega, by omega⟩⟩
  have e2 : all (setN F r.1 true r.2) (r.1 : Int) (r.2 : Int) (!true) = false := by
    rw [Bool.eq_false_iff]
    intro hh
    have := ((all_iff _ _ _ _).1 hh).2.2.2.2 0 (by omega)
    rw [Int.toNat_natCast, hat, if_pos (by omega)] at this
    cases this
  refine ⟨?_, ⟨fun q hq => by rw [setN_len]; exact h.fit q (List.mem_cons_of_mem _ hq), ha.2, fun j hj => ?_⟩, ?_⟩
  · unfold Rn.give change
    rw [if_pos e1, Int.toNat_natCast, Int.toNat_natCast]
  · rw [setN_len] at hj
    rw [hat]
    by_cases hr : r.1 ≤ j ∧ j < r.1 + r.2
    · rw [if_pos hr]
      constructor
      · intro hh; cases hh
      · rintro ⟨q, hq, h1, h2⟩
        have := ha.1 q hq
        omega
    · rw [if_neg hr, h.taken j hj]
      constructor
      · rintro ⟨q, hq, h1⟩
        rcases List.mem_cons.1 hq with e | hq
        · subst e; exact absurd h1 hr
        · exact ⟨q, hq, h1⟩
      · rintro ⟨q, hq, h1⟩; exact ⟨q, List.mem_cons_of_mem _ hq, h1⟩
  · unfold Rn.give change
    rw [e2]; rfl
theorem Pieces.none {F : List Bool} (h : Pieces F []) : F = List.replicate F.length true := by
  refine ext (by rw [List.length_replicate]) fun j hj => ?_
  rw [List.getD_eq_getElem?_getD (l := List.replicate _ _), List.getElem?_replicate, if_pos hj]
  cases hb : F.getD j false with
  | true => rfl
  | false =>
    obtain ⟨r, hr, -⟩ := (h.taken j hj).1 hb
    cases hr
theorem Pieces.start (t : Nat) : Pieces (pre 0 t) [] := by
  refine ⟨fun r hr => (by cases hr), List.Pairwise.nil, fun j hj => ?_⟩
  rw [pre_len] at hj
  rw [pre_at hj]
  simp
/-- The next piece. -/
theorem Pieces.next {s t n : Nat} {l : List (Nat × Nat)} (h : Pieces (pre s t) l) (hs : ∀ r ∈ l, r.1 + r.2 ≤ s) (h1 : 1 ≤ n) (hn : n ≤ t) : Pieces (pre (s + n) (t - n)) (l ++ [(s, n)]) ∧ ∀ r ∈ l ++ [(s, n)], r.1 + r.2 ≤ s + n := by
  have hlen : (pre (s + n) (t - n)).length = (pre s t).length := by rw [pre_len, pre_len]; omega
  refine ⟨⟨fun r hr => ?_, ?_, fun j hj => ?_⟩, fun r hr => ?_⟩
  · rw [hlen]
    rcases List.mem_append.1 hr with hr | hr
    · exact h.fit r hr
    · rw [List.mem_singleton] at hr; subst hr; rw [pre_len]; exact ⟨h1, by show s + n ≤ _; omega⟩
  · refine List.pairwise_append.2 ⟨h.apart, List.pairwise_singleton _ _, fun r hr q hq => ?_⟩
    rw [List.mem_singleton] at hq; subst hq
    exact .inl (hs r hr)
  · rw [hlen] at hj
    have ht := h.taken j hj
    rw [pre_len] at hj
    rw [pre_at hj] at ht
    rw [pre_at (by omega)]
    rw [decide_eq_false_iff_not] at ht ⊢
    constructor
    · intro hh
      by_cases hsj : s ≤ j
      · exact ⟨(s, n), List.mem_append_right _ (List.mem_singleton.2 rfl), hsj, by show j < s + n; omega⟩
      · obtain ⟨r, hr, h'⟩ := ht.1 hsj
        exact ⟨r, List.mem_append_left _ hr, h'⟩
    · rintro ⟨r, hr, h1', h2'⟩
      rcases List.mem_append.1 hr with hr | hr
      · have := hs r hr; omega
      · rw [List.mem_singleton] at hr; subst hr
        have : j < s + n := h2'
        omega
  · rcases List.mem_append.1 hr with hr | hr
    · have := hs r hr; omega
    · rw [List.mem_singleton] at hr; subst hr; exact Nat.le_refl _
end Go.Proofs.Ytfiafgmlbejboaa.Rn
