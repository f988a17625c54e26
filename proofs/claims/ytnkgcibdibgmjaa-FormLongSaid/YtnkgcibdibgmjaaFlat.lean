/- Plain Lean: the forest of depth's tree.go, how deep its leaves lie, and what flatter makes of that. Plain Lean: what flatter makes of the depths. -/
import Derived.Test.YtnkgcibdibgmjaaDepc
namespace Go.Proofs.Ytnkgcibdibgmjaa
open Go.RowKit

/-- The forest: weights, parents, the first leaf and the first inner node without a parent. -/
structure Fo where
  ws : List Int
  ps : List Int
  lf : Nat
  inn : Nat

/-- Whether the lightest root is a leaf. -/
def Fo.leafy (n : Nat) (f : Fo) : Bool := decide (f.lf < n) && (decide (f.inn = f.ws.length) || decide (f.ws.getD f.lf 0 ≤ f.ws.getD f.inn 0))
def Fo.least (n : Nat) (f : Fo) : Nat := if f.leafy n then f.lf else f.inn
def Fo.taken (n : Nat) (f : Fo) : Fo := if f.leafy n then { f with lf := f.lf + 1 } else { f with inn := f.inn + 1 }
def Fo.joined (n : Nat) (f : Fo) : Fo :=
  let a := f.least n
  let b := (f.taken n).least n
  let g := (f.taken n).taken n
  { g with ws := f.ws ++ [wrap64 (f.ws.getD a 0 + f.ws.getD b 0)], ps := (f.ps.set a (f.ws.length : Nat)).set b (f.ws.length : Nat) }
def Fo.joins (n : Nat) : Nat → Fo → Fo
  | 0, f => f
  | t + 1, f => (f.joins n t).joined n

/-- What holds after t joins. -/
structure FoOk (n t : Nat) (f : Fo) : Prop where
  wl : f.ws.length = n + t
  pl : f.ps.length = 2 * n - 1
  l1 : f.lf ≤ n
  i1 : n ≤ f.inn
  i2 : f.inn ≤ n + t
  tot : f.lf + f.inn = n + 2 * t
  par : ∀ i, (i < f.lf ∨ n ≤ i ∧ i < f.inn) → ∃ p : Nat, f.ps.getD i 0 = (p : Int) ∧ n ≤ p ∧ p < n + t ∧ i < p
  monoL : ∀ i j, i ≤ j → j < f.lf → f.ps.getD i 0 ≤ f.ps.getD j 0
  monoI : ∀ i j, n ≤ i → i ≤ j → j < f.inn → f.ps.getD i 0 ≤ f.ps.getD j 0

def rsum (v : Nat → Nat) (lo : Nat) : Nat → Nat
  | 0 => 0
  | k + 1 => v lo + rsum v (lo + 1) k
theorem rsum_snoc (v : Nat → Nat) : ∀ (k lo : Nat), rsum v lo (k + 1) = rsum v lo k + v (lo + k)
  | 0, lo => by simp [rsum]
  | k + 1, lo => by
    have := rsum_snoc v k (lo + 1)
    rw [show rsum v lo (k + 1 + 1) = v lo + rsum v (lo + 1) (k + 1) from rfl, this, show rsum v lo (k + 1) = v lo + rsum v (lo + 1) k from rfl, show lo + 1 + k = lo + (k + 1) by omega]
    omega
/-- The roots' values. -/
def roots (v : Nat → Nat) (n t : Nat) (f : Fo) : Nat := rsum v f.lf (n - f.lf) + rsum v f.inn (n + t - f.inn)

theorem getD_set (l : List Int) (a : Nat) (q : Int) (i : Nat) : (l.set a q).getD i 0 = if a = i ∧ i < l.length then q else l.getD i 0 := by
  rw [List.getD_eq_getElem?_getD, List.getD_eq_getElem?_getD, List.getElem?_set]
  by_cases h : a = i
  · subst h
    by_cases h2 : a < l.length
    · simp [h2]
    · rw [if_pos rfl, if_neg h2, if_neg (fun e => h2 e.2), List.getElem?_eq_none (by omega)]
  · rw [if_neg h, if_neg (fun e => h e.1)]

/-- The four ways to take two roots: which they are, and what is left. -/
def Two (n t : Nat) (f : Fo) (a b lf inn : Nat) : Prop :=
  (a = f.lf ∧ b = f.lf + 1 ∧ lf = f.lf + 2 ∧ inn = f.inn ∧ f.lf + 2 ≤ n) ∨ (a = f.lf ∧ b = f.inn ∧ lf = f.lf + 1 ∧ inn = f.inn + 1 ∧ f.lf + 1 ≤ n ∧ f.inn + 1 ≤ n + t) ∨
  (a = f.inn ∧ b = f.lf ∧ lf = f.lf + 1 ∧ inn = f.inn + 1 ∧ f.lf + 1 ≤ n ∧ f.inn + 1 ≤ n + t) ∨ (a = f.inn ∧ b = f.inn + 1 ∧ lf = f.lf ∧ inn = f.inn + 2 ∧ f.inn + 2 ≤ n + t)

section
variable {n t : Nat} {f : Fo}
/-- There is a root to take: it is a leaf, or an inner node. -/
theorem Fo.some {f : Fo} {M : Nat} (h4 : f.ws.length = M) (h1 : f.lf ≤ n) (h2 : f.inn ≤ M) (h3 : f.lf + f.inn < n + M) : (f.leafy n = true ∧ f.lf < n) ∨ (f.leafy n = false ∧ f.inn < M) := by
  unfold Fo.leafy
  by_cases a : f.lf < n
  · by_cases b : f.inn = f.ws.length
    · exact .inl ⟨by simp [a, b], a⟩
    · by_cases c : f.ws.getD f.lf 0 ≤ f.ws.getD f.inn 0
      · refine .inl ⟨?_, a⟩
        rw [decide_eq_true a, decide_eq_true c]; simp
      · refine .inr ⟨?_, by omega⟩
        rw [decide_eq_false b, decide_eq_false c]; simp
  · exact .inr ⟨by simp [a], by omega⟩
theorem FoOk.two (h : FoOk n t f) (ht : t + 1 < n) : Two n t f (f.least n) ((f.taken n).least n) ((f.taken n).taken n).lf ((f.taken n).taken n).inn ∧ f.least n < f.ws.length ∧ (f.taken n).least n < f.ws.length := by
  have h1 := h.l1
  have h2 := h.i2
  have h3 := h.tot
  have h4 := h.wl
  have h5 := h.i1
  unfold Two
  rcases Fo.some (f := f) (n := n) (M := n + t) h4 h1 h2 (by omega) with ⟨e, a⟩ | ⟨e, a⟩
  · have et : f.taken n = { f with lf := f.lf + 1 } := by unfold Fo.taken; rw [if_pos e]
    have el : f.least n = f.lf := by unfold Fo.least; rw [if_pos e]
    rcases Fo.some (f := f.taken n) (n := n) (M := n + t) (by rw [et]; exact h4) (by rw [et]; exact a) (by rw [et]; exact h2) (by rw [et]; show f.lf + 1 + f.inn < _; omega) with ⟨e2, a2⟩ | ⟨e2, a2⟩
    · have et2 : (f.taken n).taken n = { f with lf := f.lf + 2 } := by rw [Fo.taken, if_pos e2, et]
      have el2 : (f.taken n).least n = f.lf + 1 := by rw [Fo.least, if_pos e2, et]
      rw [et] at a2
      have a2' : f.lf + 1 < n := a2
      rw [et2, el2, el]
      exact ⟨.inl ⟨rfl, rfl, rfl, rfl, by omega⟩, by omega, by omega⟩
    · have et2 : (f.taken n).taken n = { f with lf := f.lf + 1, inn := f.inn + 1 } := by rw [Fo.taken, if_neg (by rw [e2]; decide), et]
      have el2 : (f.taken n).least n = f.inn := by rw [Fo.least, if_neg (by rw [e2]; decide), et]
      rw [et] at a2
      have a2' : f.inn < n + t := a2
      rw [et2, el2, el]
      exact ⟨.inr (.inl ⟨rfl, rfl, rfl, rfl, by omega, by omega⟩), by omega, by omega⟩
  · have et : f.taken n = { f with inn := f.inn + 1 } := by unfold Fo.taken; rw [if_neg (by rw [e]; decide)]
    have el : f.least n = f.inn := by unfold Fo.least; rw [if_neg (by rw [e]; decide)]
    rcases Fo.some (f := f.taken n) (n := n) (M := n + t) (by rw [et]; exact h4) (by rw [et]; exact h1) (by rw [et]; exact a) (by rw [et]; show f.lf + (f.inn + 1) < _; omega) with ⟨e2, a2⟩ | ⟨e2, a2⟩
    · have et2 : (f.taken n).taken n = { f with lf := f.lf + 1, inn := f.inn + 1 } := by rw [Fo.taken, if_pos e2, et]
      have el2 : (f.taken n).least n = f.lf := by rw [Fo.least, if_pos e2, et]
      rw [et] at a2
      have a2' : f.lf < n := a2
      rw [et2, el2, el]
      exact ⟨.inr (.inr (.inl ⟨rfl, rfl, rfl, rfl, by omega, by omega⟩)), by omega, by omega⟩
    · have et2 : (f.taken n).taken n = { f with inn := f.inn + 2 } := by rw [Fo.taken, if_neg (by rw [e2]; decide), et]
      have el2 : (f.taken n).least n = f.inn + 1 := by rw [Fo.least, if_neg (by rw [e2]; decide), et]
      rw [et] at a2
      have a2' : f.inn + 1 < n + t := a2
      rw [et2, el2, el]
      exact ⟨.inr (.inr (.inr ⟨rfl, rfl, rfl, rfl, by omega⟩)), by omega, by omega⟩
theorem FoOk.step (h : FoOk n t f) (ht : t + 1 < n) (z : Int) {a b lf inn : Nat} (hc : Two n t f a b lf inn) : FoOk n (t + 1) ⟨f.ws ++ [z], (f.ps.set a ((n + t : Nat) : Int)).set b ((n + t : Nat) : Int), lf, inn⟩ := by
  have h1 := h.l1
  have h2 := h.i2
  have h3 := h.tot
  have h4 := h.wl
  have h5 := h.i1
  have h6 := h.pl
  have at_ : ∀ i, i < 2 * n - 1 → ((f.ps.set a ((n + t : Nat) : Int)).set b ((n + t : Nat) : Int)).getD i 0 = if i = a ∨ i = b then ((n + t : Nat) : Int) else f.ps.getD i 0 := by
    intro i hi
    rw [getD_set, getD_set, List.length_set, h6]
    by_cases e1 : b = i
    · rw [if_pos ⟨e1, hi⟩, if_pos (.inr e1.symm)]
    · rw [if_neg (fun e => e1 e.1)]
      by_cases e2 : a = i
      · rw [if_pos ⟨e2, hi⟩, if_pos (.inl e2.symm)]
      · rw [if_neg (fun e => e2 e.1), if_neg (by rintro (e | e) <;> omega)]
  have old : ∀ i, (i < lf ∨ n ≤ i ∧ i < inn) → ¬ (i = a ∨ i = b) → (i < f.lf ∨ n ≤ i ∧ i < f.inn) := by
    intro i hi hn
    rcases hc with hc | hc | hc | hc <;> obtain ⟨rfl, rfl, rfl, rfl, hc⟩ := hc <;> omega
  have bd : ∀ i, (i < lf ∨ n ≤ i ∧ i < inn) → i < n + t := by
    intro i hi
    rcases hc with hc | hc | hc | hc <;> obtain ⟨rfl, rfl, rfl, rfl, hc⟩ := hc <;> omega
  refine ⟨by rw [List.length_append, h4]; rfl, by rw [List.length_set, List.length_set, h6], ?_, ?_, ?_, ?_, ?_, ?_, ?_⟩
  · show lf ≤ n
    rcases hc with hc | hc | hc | hc <;> obtain ⟨rfl, rfl, rfl, rfl, hc⟩ := hc <;> omega
  · show n ≤ inn
    rcases hc with hc | hc | hc | hc <;> obtain ⟨rfl, rfl, rfl, rfl, hc⟩ := hc <;> omega
  · show inn ≤ n + (t + 1)
    rcases hc with hc | hc | hc | hc <;> obtain ⟨rfl, rfl, rfl, rfl, hc⟩ := hc <;> omega
  · show lf + inn = n + 2 * (t + 1)
    rcases hc with hc | hc | hc | hc <;> obtain ⟨rfl, rfl, rfl, rfl, hc⟩ := hc <;> omega
  · intro i hi
    have hb := bd i hi
    show ∃ p : Nat, ((f.ps.set a ((n + t : Nat) : Int)).set b ((n + t : Nat) : Int)).getD i 0 = _ ∧ _
    rw [at_ i (by omega)]
    by_cases e : i = a ∨ i = b
    · rw [if_pos e]; exact ⟨n + t, rfl, by omega, by omega, by omega⟩
    · rw [if_neg e]
      obtain ⟨p, e1, e2, e3, e4⟩ := h.par i (old i hi e)
      exact ⟨p, e1, e2, by omega, e4⟩
  · intro i j hij hj
    show ((f.ps.set a ((n + t : Nat) : Int)).set b ((n + t : Nat) : Int)).getD i 0 ≤ ((f.ps.set a ((n + t : Nat) : Int)).set b ((n + t : Nat) : Int)).getD j 0
    have hj' : j < lf := hj
    have hjb := bd j (.inl hj')
    rw [at_ i (by omega), at_ j (by omega)]
    by_cases e1 : j = a ∨ j = b
    · rw [if_pos e1]
      by_cases e2 : i = a ∨ i = b
      · rw [if_pos e2]; exact Int.le_refl _
      · rw [if_neg e2]
        obtain ⟨p, e1, _, e3, _⟩ := h.par i (old i (.inl (by omega)) e2)
        rw [e1]; omega
    · rw [if_neg e1]
      have e3 : j < f.lf := by
        rcases hc with hc | hc | hc | hc <;> obtain ⟨rfl, rfl, rfl, rfl, hc⟩ := hc <;> omega
      rw [if_neg (by rcases hc with hc | hc | hc | hc <;> obtain ⟨rfl, rfl, rfl, rfl, hc⟩ := hc <;> omega)]
      exact h.monoL i j hij e3
  · intro i j hn hij hj
    show ((f.ps.set a ((n + t : Nat) : Int)).set b ((n + t : Nat) : Int)).getD i 0 ≤ ((f.ps.set a ((n + t : Nat) : Int)).set b ((n + t : Nat) : Int)).getD j 0
    have hj' : j < inn := hj
    have hjb := bd j (.inr ⟨by omega, hj'⟩)
    rw [at_ i (by omega), at_ j (by omega)]
    by_cases e1 : j = a ∨ j = b
    · rw [if_pos e1]
      by_cases e2 : i = a ∨ i = b
      · rw [if_pos e2]; exact Int.le_refl _
      · rw [if_neg e2]
        obtain ⟨p, e1, _, e3, _⟩ := h.par i (old i (.inr ⟨hn, by omega⟩) e2)
        rw [e1]; omega
    · rw [if_neg e1]
      have e3 : j < f.inn := by
        rcases hc with hc | hc | hc | hc <;> obtain ⟨rfl, rfl, rfl, rfl, hc⟩ := hc <;> omega
      rw [if_neg (by rcases hc with hc | hc | hc | hc <;> obtain ⟨rfl, rfl, rfl, rfl, hc⟩ := hc <;> omega)]
      exact h.monoI i j hn hij e3
theorem roots_step (h : FoOk n t f) (v : Nat → Nat) (z : Int) {a b lf inn : Nat} {ps : List Int} (hc : Two n t f a b lf inn) (ha : 2 * v a = v (n + t)) (hb : 2 * v b = v (n + t)) : roots v n (t + 1) ⟨f.ws ++ [z], ps, lf, inn⟩ = roots v n t f := by
  have h1 := h.l1
  have h2 := h.i2
  unfold roots
  show rsum v lf (n - lf) + rsum v inn (n + (t + 1) - inn) = _
  have cut : ∀ lo k, 0 < k → rsum v lo k = v lo + rsum v (lo + 1) (k - 1) := fun lo k hk => by
    obtain ⟨k, rfl⟩ : ∃ j, k = j + 1 := ⟨k - 1, by omega⟩
    rfl
  rcases hc with hc | hc | hc | hc <;> obtain ⟨rfl, rfl, rfl, rfl, hc⟩ := hc
  · rw [show n + (t + 1) - f.inn = (n + t - f.inn) + 1 by omega, rsum_snoc, show f.inn + (n + t - f.inn) = n + t by omega, cut f.lf (n - f.lf) (by omega), cut (f.lf + 1) (n - f.lf - 1) (by omega), show n - f.lf - 1 - 1 = n - (f.lf + 2) by omega, show f.lf + 1 + 1 = f.lf + 2 from rfl]
    omega
  · rw [show n + (t + 1) - (f.inn + 1) = (n + t - f.inn - 1) + 1 by omega, rsum_snoc, show f.inn + 1 + (n + t - f.inn - 1) = n + t by omega, cut f.lf (n - f.lf) (by omega), cut f.inn (n + t - f.inn) (by omega), show n - f.lf - 1 = n - (f.lf + 1) by omega]
    omega
  · rw [show n + (t + 1) - (f.inn + 1) = (n + t - f.inn - 1) + 1 by omega, rsum_snoc, show f.inn + 1 + (n + t - f.inn - 1) = n + t by omega, cut f.lf (n - f.lf) (by omega), cut f.inn (n + t - f.inn) (by omega), show n - f.lf - 1 = n - (f.lf + 1) by omega]
    omega
  · rw [show n + (t + 1) - (f.inn + 2) = (n + t - f.inn - 2) + 1 by omega, rsum_snoc, show f.inn + 2 + (n + t - f.inn - 2) = n + t by omega, cut f.inn (n + t - f.inn) (by omega), cut (f.inn + 1) (n + t - f.inn - 1) (by omega), show n + t - f.inn - 1 - 1 = n + t - f.inn - 2 by omega, show f.inn + 1 + 1 = f.inn + 2 from rfl]
    omega
theorem joined_is (h : FoOk n t f) : f.joined n = ⟨f.ws ++ [wrap64 (f.ws.getD (f.least n) 0 + f.ws.getD ((f.taken n).least n) 0)], (f.ps.set (f.least n) ((n + t : Nat) : Int)).set ((f.taken n).least n) ((n + t : Nat) : Int), ((f.taken n).taken n).lf, ((f.taken n).taken n).inn⟩ := by
  unfold Fo.joined
  rw [h.wl]
theorem FoOk.join (h : FoOk n t f) (ht : t + 1 < n) : FoOk n (t + 1) (f.joined n) := by
  rw [joined_is h]; exact h.step ht _ (h.two ht).1
end
def Fo.first (ws : List Int) : Fo := ⟨ws, List.replicate (2 * ws.length - 1) 0, 0, ws.length⟩
theorem first_ok (ws : List Int) : FoOk ws.length 0 (Fo.first ws) :=
  ⟨rfl, by simp [Fo.first], Nat.zero_le _, Nat.le_refl _, Nat.le_refl _, by simp [Fo.first], fun i hi => by rcases hi with h | h <;> simp [Fo.first] at h; omega, fun i j _ hj => by simp [Fo.first] at hj, fun i j h1 h2 hj => by simp [Fo.first] at hj; omega⟩
theorem joins_ok (ws : List Int) : ∀ t, t < ws.length → FoOk ws.length t ((Fo.first ws).joins ws.length t)
  | 0, _ => first_ok ws
  | t + 1, h => (joins_ok ws t (by omega)).join h
/-- The values of the leaves together are those of the roots, where each node has half of its parent's. -/
theorem joins_roots (ws : List Int) (v : Nat → Nat) : ∀ t, t < ws.length → (∀ i, (i < ((Fo.first ws).joins ws.length t).lf ∨ ws.length ≤ i ∧ i < ((Fo.first ws).joins ws.length t).inn) → 2 * v i = v (((Fo.first ws).joins ws.length t).ps.getD i 0).toNat) →
    roots v ws.length t ((Fo.first ws).joins ws.length t) = rsum v 0 ws.length
  | 0, _, _ => by simp [roots, Fo.joins, Fo.first, rsum]
  | t + 1, h, hv => by
    have ok := joins_ok ws t (by omega)
    have ih := joins_roots ws v t (by omega)
    have tw := ok.two h
    have nx := ok.join h
    rw [show (Fo.first ws).joins ws.length (t + 1) = ((Fo.first ws).joins ws.length t).joined ws.length from rfl] at hv ⊢
    generalize (Fo.first ws).joins ws.length t = f at *
    rw [joined_is ok] at hv nx ⊢
    obtain ⟨tw, -, -⟩ := tw
    have h1 := ok.l1
    have h2 := ok.i2
    have h6 := ok.pl
    have h5 := ok.i1
    generalize f.least ws.length = a at *
    generalize (f.taken ws.length).least ws.length = b at *
    generalize ((f.taken ws.length).taken ws.length).lf = lf at *
    generalize ((f.taken ws.length).taken ws.length).inn = inn at *
    have at_ : ∀ i, i < 2 * ws.length - 1 → ((f.ps.set a ((ws.length + t : Nat) : Int)).set b ((ws.length + t : Nat) : Int)).getD i 0 = if i = a ∨ i = b then ((ws.length + t : Nat) : Int) else f.ps.getD i 0 := by
      intro i hi
      rw [getD_set, getD_set, List.length_set, h6]
      by_cases e1 : b = i
      · rw [if_pos ⟨e1, hi⟩, if_pos (.inr e1.symm)]
      · rw [if_neg (fun e => e1 e.1)]
        by_cases e2 : a = i
        · rw [if_pos ⟨e2, hi⟩, if_pos (.inl e2.symm)]
        · rw [if_neg (fun e => e2 e.1), if_neg (by rintro (e | e) <;> omega)]
    have ta : (a < lf ∨ ws.length ≤ a ∧ a < inn) ∧ (b < lf ∨ ws.length ≤ b ∧ b < inn) := by
      rcases tw with hc | hc | hc | hc <;> obtain ⟨rfl, rfl, rfl, rfl, hc⟩ := hc <;> omega
    have abd : a < 2 * ws.length - 1 ∧ b < 2 * ws.length - 1 := by
      rcases tw with hc | hc | hc | hc <;> obtain ⟨rfl, rfl, rfl, rfl, hc⟩ := hc <;> omega
    have ha := hv a ta.1
    have hb := hv b ta.2
    simp only [at_ a abd.1, at_ b abd.2, true_or, or_true, if_true, Int.toNat_natCast] at ha hb
    rw [roots_step ok v _ tw ha hb]
    refine ih fun i hi => ?_
    have hi2 : (i < lf ∨ ws.length ≤ i ∧ i < inn) ∧ ¬ (i = a ∨ i = b) ∧ i < 2 * ws.length - 1 := by
      rcases tw with hc | hc | hc | hc <;> obtain ⟨rfl, rfl, rfl, rfl, hc⟩ := hc <;> omega
    have := hv i hi2.1
    simp only [at_ i hi2.2.2, if_neg hi2.2.1] at this
    exact this

/-! ### How deep -/
/-- Depths, from the place below k down. -/
def dep (ps : List Int) : Nat → List Int → List Int
  | 0, l => l
  | k + 1, l => dep ps k (l.set k (l.getD (ps.getD k 0).toNat 0 + 1))
theorem dep_len (ps : List Int) : ∀ k l, (dep ps k l).length = l.length
  | 0, _ => rfl
  | k + 1, l => by rw [dep, dep_len ps k, List.length_set]
/-- What stands from k on stays. -/
theorem dep_keep (ps : List Int) : ∀ k l i, k ≤ i → (dep ps k l).getD i 0 = l.getD i 0
  | 0, _, _, _ => rfl
  | k + 1, l, i, h => by rw [dep, dep_keep ps k _ i (by omega), getD_set, if_neg (by omega)]
theorem dep_is (ps : List Int) : ∀ k l, k ≤ l.length → (∀ i, i < k → i < (ps.getD i 0).toNat) → ∀ i, i < k → (dep ps k l).getD i 0 = (dep ps k l).getD (ps.getD i 0).toNat 0 + 1
  | 0, _, _, _, _, h => absurd h (Nat.not_lt_zero _)
  | k + 1, l, hl, hp, i, hi => by
    rw [dep]
    rcases Nat.lt_or_ge i k with h | h
    · exact dep_is ps k _ (by rw [List.length_set]; omega) (fun i hi => hp i (by omega)) i h
    · obtain rfl : i = k := by omega
      have := hp i (by omega)
      rw [dep_keep ps i _ i (Nat.le_refl _), dep_keep ps i _ _ (by omega), getD_set, if_pos ⟨rfl, by omega⟩, getD_set, if_neg (by omega)]

def forestV (ws : List Int) : Fo := (Fo.first ws).joins ws.length (ws.length - 1)
def depAll (ws : List Int) : List Int := dep (forestV ws).ps (2 * ws.length - 2) (List.replicate (2 * ws.length - 1) 0)
def depthsV (ws : List Int) : List Int := (depAll ws).take ws.length

/-- All that is asked of depths by what follows. -/
structure Deep (n : Nat) (ds : List Int) : Prop where
  len : ds.length = n
  pos : 2 ≤ n → ∀ i, i < n → 1 ≤ ds.getD i 0
  top : ∀ i, i < n → 0 ≤ ds.getD i 0 ∧ ds.getD i 0 ≤ 2 * n
  mono : ∀ i j, i ≤ j → j < n → ds.getD j 0 ≤ ds.getD i 0
  one : n = 1 → ds.getD 0 0 = 0
  sum : 2 ≤ n → rsum (fun i => 2 ^ (600 - (ds.getD i 0).toNat)) 0 n = 2 ^ 600
theorem rsum_congr {v u : Nat → Nat} : ∀ k lo, (∀ i, lo ≤ i → i < lo + k → v i = u i) → rsum v lo k = rsum u lo k
  | 0, _, _ => rfl
  | k + 1, lo, h => by
    rw [rsum, rsum, h lo (Nat.le_refl _) (by omega), rsum_congr k (lo + 1) fun i h1 h2 => h i (by omega) (by omega)]
theorem forest_end {ws : List Int} (hn : 2 ≤ ws.length) : FoOk ws.length (ws.length - 1) (forestV ws) ∧ (forestV ws).lf = ws.length ∧ (forestV ws).inn = 2 * ws.length - 2 := by
  have h : FoOk ws.length (ws.length - 1) (forestV ws) := joins_ok ws _ (by omega)
  have h1 := h.l1
  have h2 := h.i2
  have h3 := h.tot
  have h5 := h.i1
  have h7 : (forestV ws).inn ≠ 2 * ws.length - 1 := fun e => by
    obtain ⟨p, _, _, e3, e4⟩ := h.par (2 * ws.length - 2) (.inr ⟨by omega, by omega⟩)
    omega
  exact ⟨h, by omega, by omega⟩
theorem depths_deep (ws : List Int) (h256 : ws.length ≤ 256) : Deep ws.length (depthsV ws) := by
  have hlen : (depAll ws).length = 2 * ws.length - 1 := by rw [depAll, dep_len, List.length_replicate]
  have hat : ∀ i, i < ws.length → (depthsV ws).getD i 0 = (depAll ws).getD i 0 := fun i hi => by
    unfold depthsV
    rw [List.getD_eq_getElem?_getD, List.getD_eq_getElem?_getD, List.getElem?_take, if_pos hi]
  have hl : (depthsV ws).length = ws.length := by unfold depthsV; rw [List.length_take, hlen]; omega
  by_cases hn : 2 ≤ ws.length
  · obtain ⟨ok, hlf, hinn⟩ := forest_end hn
    have hpar : ∀ i, i < 2 * ws.length - 2 → ∃ p : Nat, (forestV ws).ps.getD i 0 = (p : Int) ∧ ws.length ≤ p ∧ p ≤ 2 * ws.length - 2 ∧ i < p := fun i hi => by
      obtain ⟨p, e1, e2, e3, e4⟩ := ok.par i (by omega)
      exact ⟨p, e1, e2, by omega, e4⟩
    have hd : ∀ i, i < 2 * ws.length - 2 → (depAll ws).getD i 0 = (depAll ws).getD ((forestV ws).ps.getD i 0).toNat 0 + 1 := fun i hi => by
      unfold depAll
      exact dep_is _ _ _ (by rw [List.length_replicate]; omega) (fun i hi => by obtain ⟨p, e1, _, _, e4⟩ := hpar i hi; rw [e1, Int.toNat_natCast]; exact e4) i hi
    have hroot : (depAll ws).getD (2 * ws.length - 2) 0 = 0 := by
      unfold depAll
      rw [dep_keep _ _ _ _ (Nat.le_refl _), List.getD_eq_getElem?_getD, List.getElem?_replicate]
      split <;> rfl
    have hb : ∀ k i, 2 * ws.length - 2 - i = k → i ≤ 2 * ws.length - 2 → 0 ≤ (depAll ws).getD i 0 ∧ (depAll ws).getD i 0 ≤ (k : Int) := by
      intro k
      induction k using Nat.strongRecOn with
      | _ k ih =>
        intro i hk hi
        by_cases e : i = 2 * ws.length - 2
        · rw [e, hroot]; omega
        · obtain ⟨p, e1, e2, e3, e4⟩ := hpar i (by omega)
          rw [hd i (by omega), e1, Int.toNat_natCast]
          have := ih (2 * ws.length - 2 - p) (by omega) p rfl e3
          omega
    have hmI : ∀ k i j, 2 * ws.length - 2 - i = k → ws.length ≤ i → i ≤ j → j ≤ 2 * ws.length - 2 → (depAll ws).getD j 0 ≤ (depAll ws).getD i 0 := by
      intro k
      induction k using Nat.strongRecOn with
      | _ k ih =>
        intro i j hk hi hij hj
        by_cases e : j = 2 * ws.length - 2
        · rw [e, hroot]; exact (hb _ i rfl (by omega)).1
        · obtain ⟨p, e1, e2, e3, e4⟩ := hpar i (by omega)
          obtain ⟨q, f1, f2, f3, f4⟩ := hpar j (by omega)
          have hm := ok.monoI i j hi hij (by omega)
          rw [e1, f1] at hm
          rw [hd i (by omega), hd j (by omega), e1, f1, Int.toNat_natCast, Int.toNat_natCast]
          have := ih (2 * ws.length - 2 - p) (by omega) p q rfl e2 (by omega) f3
          omega
    refine ⟨hl, fun _ i hi => ?_, fun i hi => ?_, fun i j hij hj => ?_, fun h => by omega, fun _ => ?_⟩
    · rw [hat i hi, hd i (by omega)]
      obtain ⟨p, e1, e2, e3, e4⟩ := hpar i (by omega)
      have := hb _ p rfl e3
      rw [e1, Int.toNat_natCast]; omega
    · rw [hat i hi]
      have := hb _ i rfl (by omega)
      omega
    · rw [hat i (by omega), hat j hj, hd i (by omega), hd j (by omega)]
      obtain ⟨p, e1, e2, e3, e4⟩ := hpar i (by omega)
      obtain ⟨q, f1, f2, f3, f4⟩ := hpar j (by omega)
      have hm := ok.monoL i j hij (by omega)
      rw [e1, f1] at hm
      rw [e1, f1, Int.toNat_natCast, Int.toNat_natCast]
      have := hmI _ p q rfl e2 (by omega) f3
      omega
    · rw [rsum_congr (u := fun i => 2 ^ (600 - ((depAll ws).getD i 0).toNat)) _ _ (fun i _ h2 => by rw [hat i (by omega)])]
      have := joins_roots ws (fun i => 2 ^ (600 - ((depAll ws).getD i 0).toNat)) (ws.length - 1) (by omega) (fun i hi => by
        have hi2 : i < 2 * ws.length - 2 := by
          rcases hi with h | h
          · have h' : i < (forestV ws).lf := h; omega
          · have h' : i < (forestV ws).inn := h.2; omega
        show 2 * 2 ^ (600 - ((depAll ws).getD i 0).toNat) = 2 ^ (600 - ((depAll ws).getD ((forestV ws).ps.getD i 0).toNat 0).toNat)
        obtain ⟨p, e1, e2, e3, e4⟩ := hpar i hi2
        have h3 := hb _ p rfl e3
        rw [hd i hi2, e1, Int.toNat_natCast]
        generalize (depAll ws).getD p 0 = x at *
        obtain ⟨m, hm⟩ : ∃ m, m = 600 - (x + 1).toNat := ⟨_, rfl⟩
        rw [← hm, show 600 - x.toNat = m + 1 by omega, Nat.pow_succ]
        omega)
      rw [← this]
      show roots _ ws.length (ws.length - 1) (forestV ws) = 2 ^ 600
      unfold roots
      rw [hlf, hinn, Nat.sub_self, show ws.length + (ws.length - 1) - (2 * ws.length - 2) = 1 by omega]
      simp only [rsum, hroot, Nat.zero_add, Nat.add_zero, Int.toNat_zero, Nat.sub_zero]
  · have h0 : ∀ i, i < ws.length → (depthsV ws).getD i 0 = 0 := fun i hi => by
      rw [hat i hi]
      unfold depAll
      rw [show 2 * ws.length - 2 = 0 by omega, dep, List.getD_eq_getElem?_getD, List.getElem?_replicate]
      split <;> rfl
    refine ⟨hl, fun h => absurd h hn, fun i hi => ?_, fun i j hij hj => ?_, fun h => h0 0 (by omega), fun h => absurd h hn⟩
    · have := h0 i hi
      omega
    · obtain rfl : i = j := by omega
      exact Int.le_refl _
end Go.Proofs.Ytnkgcibdibgmjaa

namespace Go.Proofs.Ytnkgcibdibgmjaa
open Go.RowKit

def clampV (d : Int) : Int := min (max d 1) 11
def flatIdx (l : List Int) : Nat := l.findIdx fun x => decide (x < 11)
def flatStep (l : List Int) : List Int := (l.set (flatIdx l) (l.getD (flatIdx l) 0 + 1)).set (flatIdx l - 1) (l.getD (flatIdx l) 0 + 1)
def flatIter : Nat → List Int → List Int
  | 0, l => l
  | k + 1, l => flatIter k (flatStep l)
def overV (l : List Int) : Int := (ksum l : Int) - 2048
def flatV (ds : List Int) : List Int := flatIter (overV (ds.map clampV)).toNat (ds.map clampV)

theorem ksum_append (a b : List Int) : ksum (a ++ b) = ksum a + ksum b := by unfold ksum; rw [List.map_append, List.sum_append]
theorem ksum_cons (x : Int) (b : List Int) : ksum (x :: b) = kterm x + ksum b := by unfold ksum; rw [List.map_cons, List.sum_cons]
theorem ksum_bottom : ∀ i, ksum (List.replicate i 11) = i
  | 0 => rfl
  | i + 1 => by rw [List.replicate_succ, ksum_cons, ksum_bottom i]; show 1 + i = i + 1; omega
theorem kterm_two {x : Int} (h1 : 1 ≤ x) (h2 : x ≤ 10) : kterm x = 2 * kterm (x + 1) := by
  obtain ⟨n, rfl⟩ : ∃ n : Nat, x = n := ⟨x.toNat, by omega⟩
  have : n = 1 ∨ n = 2 ∨ n = 3 ∨ n = 4 ∨ n = 5 ∨ n = 6 ∨ n = 7 ∨ n = 8 ∨ n = 9 ∨ n = 10 := by omega
  rcases this with rfl | rfl | rfl | rfl | rfl | rfl | rfl | rfl | rfl | rfl <;> rfl

/-- Lengths that are o too many: those at the bottom come first, more of them than o. -/
structure Fst (n o : Nat) (i : Nat) (R l : List Int) : Prop where
  is : l = List.replicate i 11 ++ R
  rng : ∀ x ∈ R, 1 ≤ x ∧ x ≤ 10
  pw : R.Pairwise (fun x y => y ≤ x)
  len : i + R.length = n
  sum : ksum l = 2048 + o
  more : 0 < o → o < i

theorem find_bottom (x : Int) (R : List Int) (hx : x ≤ 10) : ∀ i, flatIdx (List.replicate i 11 ++ x :: R) = i
  | 0 => by
    unfold flatIdx
    rw [List.replicate_zero, List.nil_append, List.findIdx_cons, decide_eq_true (by omega)]
    rfl
  | i + 1 => by
    have := find_bottom x R hx i
    unfold flatIdx at *
    rw [List.replicate_succ, List.cons_append, List.findIdx_cons, this]
    rfl
theorem Fst.step {n o i : Nat} {R l : List Int} (h : Fst n (o + 1) i R l) (hn : n ≤ 256) : ∃ x R', R = x :: R' ∧ flatIdx l = i ∧ 1 ≤ i ∧ i < n ∧ l.getD i 0 = x ∧ 1 ≤ x ∧ x ≤ 10 ∧ ∃ i' R'', Fst n o i' R'' (flatStep l) := by
  have hm := h.more (by omega)
  have hs := h.sum
  have hl := h.len
  rw [h.is, ksum_append, ksum_bottom] at hs
  cases R with
  | nil => simp [ksum] at hs; simp at hl; omega
  | cons x R' =>
    rw [List.length_cons] at hl
    have hx := h.rng x (List.mem_cons_self ..)
    have hf : flatIdx l = i := by rw [h.is]; exact find_bottom x R' hx.2 i
    have hg : l.getD i 0 = x := by
      rw [h.is, List.getD_eq_getElem?_getD, List.getElem?_append_right (by simp), List.length_replicate, Nat.sub_self]; rfl
    refine ⟨x, R', rfl, hf, by omega, by omega, hg, hx.1, hx.2, ?_⟩
    obtain ⟨j, rfl⟩ : ∃ j, i = j + 1 := ⟨i - 1, by omega⟩
    have hst : flatStep l = List.replicate j 11 ++ (x + 1) :: (x + 1) :: R' := by
      unfold flatStep
      rw [hf, hg, h.is, List.set_append_right _ _ (by simp), List.length_replicate, Nat.sub_self, List.set_cons_zero, Nat.add_sub_cancel, List.replicate_succ', List.append_assoc, List.set_append_right _ _ (by simp), List.length_replicate, Nat.sub_self]
      rfl
    rw [ksum_cons, kterm_two hx.1 hx.2] at hs
    have hsum : ksum (flatStep l) = 2048 + o := by
      rw [hst, ksum_append, ksum_bottom, ksum_cons, ksum_cons]; omega
    have hpw := List.pairwise_cons.1 h.pw
    by_cases h11 : x = 10
    · subst h11
      refine ⟨j + 2, R', ⟨?_, fun y hy => h.rng y (List.mem_cons_of_mem _ hy), hpw.2, by omega, hsum, by omega⟩⟩
      rw [hst, List.replicate_succ', List.replicate_succ', List.append_assoc, List.append_assoc]
      rfl
    · refine ⟨j, (x + 1) :: (x + 1) :: R', ⟨hst, ?_, ?_, by simp; omega, hsum, by omega⟩⟩
      · intro y hy
        rcases List.mem_cons.1 hy with rfl | hy
        · omega
        · rcases List.mem_cons.1 hy with rfl | hy
          · omega
          · exact h.rng y (List.mem_cons_of_mem _ hy)
      · refine List.pairwise_cons.2 ⟨?_, List.pairwise_cons.2 ⟨fun y hy => by have := hpw.1 y hy; omega, hpw.2⟩⟩
        intro y hy
        rcases List.mem_cons.1 hy with rfl | hy
        · exact Int.le_refl _
        · have := hpw.1 y hy; omega
theorem bottom_first : ∀ l : List Int, (∀ x ∈ l, 1 ≤ x ∧ x ≤ 11) → l.Pairwise (fun x y => y ≤ x) → ∃ i R, l = List.replicate i 11 ++ R ∧ (∀ x ∈ R, 1 ≤ x ∧ x ≤ 10) ∧ R.Pairwise (fun x y => y ≤ x)
  | [], _, _ => ⟨0, [], rfl, fun _ h => (List.not_mem_nil h).elim, List.Pairwise.nil⟩
  | x :: l, h, hp => by
    have hp' := List.pairwise_cons.1 hp
    have hx := h x (List.mem_cons_self ..)
    by_cases e : x = 11
    · obtain ⟨i, R, e1, e2, e3⟩ := bottom_first l (fun y hy => h y (List.mem_cons_of_mem _ hy)) hp'.2
      exact ⟨i + 1, R, by rw [e1, e, List.replicate_succ]; rfl, e2, e3⟩
    · refine ⟨0, x :: l, rfl, fun y hy => ?_, hp⟩
      rcases List.mem_cons.1 hy with rfl | hy
      · omega
      · have := hp'.1 y hy; have := h y (List.mem_cons_of_mem _ hy); omega
theorem ksum_rsum (l : List Int) : ∀ k, k ≤ l.length → ksum (l.take k) = rsum (fun i => kterm (l.getD i 0)) 0 k
  | 0, _ => rfl
  | k + 1, h => by rw [ksum_next (by omega), rsum_snoc, ksum_rsum l k (by omega), Nat.zero_add]
theorem rsum_ge (K V : Nat → Nat) (U : Nat) : ∀ n, (∀ j, j < n → V j ≤ K j * U) → rsum V 0 n ≤ rsum K 0 n * U
  | 0, _ => Nat.zero_le _
  | n + 1, h => by
    rw [rsum_snoc, rsum_snoc, Nat.zero_add, Nat.add_mul]
    have := rsum_ge K V U n (fun j hj => h j (by omega))
    have := h n (by omega)
    omega
theorem rsum_le (K V : Nat → Nat) (U i : Nat) : ∀ n, (∀ j, j < n → K j * U ≤ V j + (if j < i then U else 0)) → (∀ j, j < n → j < i → K j * U < V j + U) → rsum K 0 n * U + min n i ≤ rsum V 0 n + min n i * U
  | 0, _, _ => by simp [rsum]
  | n + 1, h, h2 => by
    rw [rsum_snoc, rsum_snoc, Nat.zero_add, Nat.add_mul]
    have ih := rsum_le K V U i n (fun j hj => h j (by omega)) (fun j hj => h2 j (by omega))
    have h1 := h n (by omega)
    by_cases e : n < i
    · have h3 := h2 n (by omega) e
      rw [show min (n + 1) i = min n i + 1 by omega, Nat.add_mul]
      omega
    · rw [if_neg e] at h1
      rw [show min (n + 1) i = min n i by omega]
      omega

/-- The lengths that come out. -/
structure Flat (n : Nat) (l : List Int) : Prop where
  len : l.length = n
  rng : ∀ i, i < n → 1 ≤ l.getD i 0 ∧ l.getD i 0 ≤ 11
  mono : ∀ i j, i ≤ j → j < n → l.getD j 0 ≤ l.getD i 0
  full : 2 ≤ n → ksum l = 2048
  one : n = 1 → ksum l = 1024
theorem getD_mem {l : List Int} {i : Nat} (h : i < l.length) : l.getD i 0 ∈ l := by
  rw [List.getD_eq_getElem?_getD, List.getElem?_eq_getElem h]; exact List.getElem_mem h
theorem pw_getD {l : List Int} (h : l.Pairwise (fun x y => y ≤ x)) {i j : Nat} (hij : i ≤ j) (hj : j < l.length) : l.getD j 0 ≤ l.getD i 0 := by
  rw [List.getD_eq_getElem?_getD, List.getD_eq_getElem?_getD, List.getElem?_eq_getElem hj, List.getElem?_eq_getElem (by omega)]
  rcases Nat.lt_or_ge i j with h1 | h1
  · exact List.pairwise_iff_getElem.1 h i j (by omega) hj h1
  · obtain rfl : i = j := by omega
    exact Int.le_refl _
theorem Fst.flat {n i : Nat} {R l : List Int} (h : Fst n 0 i R l) (hn : 2 ≤ n) : Flat n l := by
  have hlen : l.length = n := by rw [h.is, List.length_append, List.length_replicate]; exact h.len
  have hr : ∀ x ∈ l, 1 ≤ x ∧ x ≤ 11 := by
    intro x hx
    rw [h.is] at hx
    rcases List.mem_append.1 hx with hx | hx
    · have := List.eq_of_mem_replicate hx; omega
    · have := h.rng x hx; omega
  have hp : l.Pairwise (fun x y => y ≤ x) := by
    rw [h.is, List.pairwise_append]
    refine ⟨?_, h.pw, fun x hx y hy => ?_⟩
    · rw [List.pairwise_replicate]; exact .inr (Int.le_refl _)
    · have := List.eq_of_mem_replicate hx; have := h.rng y hy; omega
  exact ⟨hlen, fun i hi => hr _ (getD_mem (by omega)), fun i j hij hj => pw_getD hp hij (by omega), fun _ => h.sum, fun e => by omega⟩
theorem iter_flat {n : Nat} (hn : 2 ≤ n) (hn2 : n ≤ 256) : ∀ (o i : Nat) (R l : List Int), Fst n o i R l → Flat n (flatIter o l)
  | 0, _, _, _, h => h.flat hn
  | o + 1, _, _, l, h => by
    obtain ⟨x, R', _, _, _, _, _, _, _, i', R'', h'⟩ := h.step hn2
    exact iter_flat hn hn2 o i' R'' (flatStep l) h'
theorem clamp_at (ds : List Int) {i : Nat} (h : i < ds.length) : (ds.map clampV).getD i 0 = clampV (ds.getD i 0) := by
  rw [List.getD_eq_getElem?_getD, List.getD_eq_getElem?_getD, List.getElem?_map, List.getElem?_eq_getElem h]; rfl
/-- The powers, small ones and great ones. -/
theorem pow_parts : ∃ U T : Nat, T = 2 ^ 600 ∧ T = 2048 * U ∧ 0 < U ∧ (∀ d : Nat, 1 ≤ d → d ≤ 11 → 2 ^ (600 - d) = 2 ^ (11 - d) * U) ∧ ∀ d : Nat, 11 < d → 1 ≤ 2 ^ (600 - d) ∧ 2 ^ (600 - d) ≤ U := by
  obtain ⟨e, he⟩ : ∃ e : Nat, e = 589 := ⟨_, rfl⟩
  obtain ⟨U, hU⟩ : ∃ U : Nat, U = 2 ^ e := ⟨_, rfl⟩
  refine ⟨U, 2048 * U, ?_, rfl, ?_, fun d h1 h2 => ?_, fun d h => ⟨Nat.pow_pos (by decide), ?_⟩⟩
  · rw [hU, show (2048 : Nat) = 2 ^ 11 from rfl, ← Nat.pow_add, show 11 + e = 600 by omega]
  · rw [hU]; exact Nat.pow_pos (by decide)
  · rw [hU, ← Nat.pow_add, show 11 - d + e = 600 - d by omega]
  · rw [hU]; exact Nat.pow_le_pow_right (by decide) (by omega)
theorem clamp_first {n : Nat} {ds : List Int} (D : Deep n ds) (hn : 2 ≤ n) : ∃ o i R, ((o : Nat) : Int) = overV (ds.map clampV) ∧ Fst n o i R (ds.map clampV) := by
  have hlen : (ds.map clampV).length = n := by rw [List.length_map]; exact D.len
  have hr : ∀ x ∈ ds.map clampV, 1 ≤ x ∧ x ≤ 11 := by
    intro x hx
    obtain ⟨d, _, rfl⟩ := List.mem_map.1 hx
    unfold clampV; omega
  have hp : (ds.map clampV).Pairwise (fun x y => y ≤ x) := by
    rw [List.pairwise_iff_getElem]
    intro i j hi hj hij
    have h1 := D.mono i j (by omega) (by omega)
    have h2 := clamp_at ds (i := i) (by rw [D.len]; omega)
    have h3 := clamp_at ds (i := j) (by rw [D.len]; omega)
    rw [List.getD_eq_getElem?_getD, List.getElem?_eq_getElem hi] at h2
    rw [List.getD_eq_getElem?_getD, List.getElem?_eq_getElem hj] at h3
    simp only [Option.getD_some] at h2 h3
    rw [h2, h3]
    unfold clampV; omega
  obtain ⟨i, R, e1, e2, e3⟩ := bottom_first _ hr hp
  have hil : i + R.length = n := by rw [← hlen, e1, List.length_append, List.length_replicate]
  obtain ⟨U, T, hT, u1, u2, u3, u4⟩ := pow_parts
  have hsum := D.sum hn
  rw [← hT] at hsum
  have hks : ksum (ds.map clampV) = rsum (fun i => kterm ((ds.map clampV).getD i 0)) 0 n := by
    have := ksum_rsum (ds.map clampV) n (by omega)
    rwa [List.take_of_length_le (by omega)] at this
  clear hT
  have hd : ∀ j, j < n → ∃ d : Nat, ds.getD j 0 = d ∧ 1 ≤ d ∧ (ds.map clampV).getD j 0 = ((min d 11 : Nat) : Int) := fun j hj => by
    have h1 := D.pos hn j hj
    refine ⟨(ds.getD j 0).toNat, by omega, by omega, ?_⟩
    rw [clamp_at ds (by rw [D.len]; exact hj)]
    unfold clampV; omega
  have hkt : ∀ d : Nat, 1 ≤ d → kterm ((min d 11 : Nat) : Int) = 2 ^ (11 - min d 11) := fun d h => by
    unfold kterm; rw [if_pos (by omega), Int.toNat_natCast]
  have hge := rsum_ge (fun i => kterm ((ds.map clampV).getD i 0)) (fun i => 2 ^ (600 - (ds.getD i 0).toNat)) U n (fun j hj => by
    obtain ⟨d, d1, d2, d3⟩ := hd j hj
    show 2 ^ (600 - (ds.getD j 0).toNat) ≤ kterm ((ds.map clampV).getD j 0) * U
    rw [d1, d3, hkt d d2, Int.toNat_natCast]
    rcases Nat.lt_or_ge 11 d with h | h
    · rw [show min d 11 = 11 by omega, Nat.sub_self, Nat.pow_zero, Nat.one_mul]; exact (u4 d h).2
    · rw [show min d 11 = d by omega, u3 d d2 h]; exact Nat.le_refl _)
  have hlow : ∀ j, j < n → ∀ d : Nat, ds.getD j 0 = d → 11 < d → j < i := fun j hj d h1 h2 => by
    rcases Nat.lt_or_ge j i with h | h
    · exact h
    · exfalso
      have h3 := clamp_at ds (i := j) (by rw [D.len]; exact hj)
      rw [e1, List.getD_eq_getElem?_getD, List.getElem?_append_right (by rw [List.length_replicate]; exact h), List.length_replicate, List.getElem?_eq_getElem (by omega)] at h3
      have h4 := e2 _ (List.getElem_mem (l := R) (n := j - i) (by omega))
      simp only [Option.getD_some] at h3
      rw [h3, h1] at h4
      unfold clampV at h4; omega
  have hle := rsum_le (fun i => kterm ((ds.map clampV).getD i 0)) (fun i => 2 ^ (600 - (ds.getD i 0).toNat)) U i n (fun j hj => by
    obtain ⟨d, d1, d2, d3⟩ := hd j hj
    show kterm ((ds.map clampV).getD j 0) * U ≤ 2 ^ (600 - (ds.getD j 0).toNat) + _
    rw [d1, d3, hkt d d2, Int.toNat_natCast]
    rcases Nat.lt_or_ge 11 d with h | h
    · rw [show min d 11 = 11 by omega, Nat.sub_self, Nat.pow_zero, Nat.one_mul, if_pos (hlow j hj d d1 h)]; exact Nat.le_add_left _ _
    · rw [show min d 11 = d by omega, u3 d d2 h]; omega) (fun j hj hji => by
    obtain ⟨d, d1, d2, d3⟩ := hd j hj
    show kterm ((ds.map clampV).getD j 0) * U < 2 ^ (600 - (ds.getD j 0).toNat) + _
    rw [d1, d3, hkt d d2, Int.toNat_natCast]
    rcases Nat.lt_or_ge 11 d with h | h
    · have := (u4 d h).1
      rw [show min d 11 = 11 by omega, Nat.sub_self, Nat.pow_zero, Nat.one_mul]; omega
    · rw [show min d 11 = d by omega, u3 d d2 h]; omega)
  rw [hsum, ← hks] at hge hle
  clear hsum hks
  rw [show min n i = i by omega] at hle
  rw [u1] at hge hle
  have hk : 2048 ≤ ksum (ds.map clampV) := Nat.le_of_mul_le_mul_right hge u2
  refine ⟨ksum (ds.map clampV) - 2048, i, R, by unfold overV; omega, e1, e2, e3, hil, by omega, fun ho => ?_⟩
  generalize ksum (ds.map clampV) = k at *
  obtain ⟨o, rfl⟩ : ∃ o, k = 2048 + o := ⟨k - 2048, by omega⟩
  rw [Nat.add_mul] at hle
  rw [Nat.add_sub_cancel_left] at ho ⊢
  have h5 : o * U + i ≤ i * U := by omega
  have hi : 0 < i := by
    rcases Nat.eq_zero_or_pos i with rfl | h
    · exfalso
      have : 0 < o * U := Nat.mul_pos ho u2
      omega
    · exact h
  exact Nat.lt_of_mul_lt_mul_right (a := U) (by omega)
theorem flat_ok {n : Nat} {ds : List Int} (D : Deep n ds) (hn2 : n ≤ 256) : Flat n (flatV ds) := by
  by_cases hn : 2 ≤ n
  · obtain ⟨o, i, R, ho, hf⟩ := clamp_first D hn
    unfold flatV
    rw [← ho, Int.toNat_natCast]
    exact iter_flat hn hn2 o i R _ hf
  · have hlen : (ds.map clampV).length = n := by rw [List.length_map]; exact D.len
    have h1 : n = 1 → ds.map clampV = [1] := fun e => by
      have h0 := D.one e
      have hl := D.len
      obtain ⟨d, rfl⟩ : ∃ d, ds = [d] := List.length_eq_one_iff.1 (hl.trans e)
      have : d = 0 := h0
      rw [this]; rfl
    have hz : (overV (ds.map clampV)).toNat = 0 := by
      rcases Nat.eq_zero_or_pos n with e | e
      · have : ds.map clampV = [] := List.eq_nil_of_length_eq_zero (by omega)
        rw [this]; rfl
      · rw [h1 (by omega)]; rfl
    unfold flatV
    rw [hz, flatIter]
    refine ⟨hlen, fun i hi => ?_, fun i j hij hj => ?_, fun h => absurd h hn, fun e => by rw [h1 e]; rfl⟩
    · rw [clamp_at ds (by rw [D.len]; exact hi)]; unfold clampV; omega
    · obtain rfl : i = j := by omega
      exact Int.le_refl _
end Go.Proofs.Ytnkgcibdibgmjaa
