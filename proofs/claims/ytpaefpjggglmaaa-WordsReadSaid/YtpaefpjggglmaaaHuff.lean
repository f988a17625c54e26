/- Plain Lean: the forest of depth's tree.go, how deep its leaves lie, and what flatter makes of that. -/
import Derived.Test.YtpaefpjggglmaaaDepc
namespace Go.Proofs.Ytpaefpjggglmaaa
open Go.RowKit

/-- The forest: weights, parents, the first leaf and the first inner node without a parent. -/
structure Fo where
  ws : List Int
  ps : List Int
  lf : Nat
  inn : Nat

/-- Whether the lightest root is a leaf. -/
def Fo.leafy (n : Nat) (f : Fo) : Bool := decide (f.lf < n) && (decide (f.inn = f.ws.length) || decide (f.ws.getD f.lf 0 ≤ f.ws.getD f.inn 0))
def Fo.least (n : Nat) (f : Fo) : Nat := if f.leafy n then f.lf else f.inn
def Fo.taken (n : Nat) (f : Fo) : Fo := if f.leafy n then { f with lf := f.lf + 1 } else { f with inn := f.inn + 1 }
def Fo.joined (n : Nat) (f : Fo) : Fo :=
  let a := f.least n
  let b := (f.taken n).least n
  let g := (f.taken n).taken n
  { g with ws := f.ws ++ [wrap64 (f.ws.getD a 0 + f.ws.getD b 0)], ps := (f.ps.set a (f.ws.length : Nat)).set b (f.ws.length : Nat) }
def Fo.joins (n : Nat) : Nat → Fo → Fo
  | 0, f => f
  | t + 1, f => (f.joins n t).joined n

/-- What holds after t joins. -/
structure FoOk (n t : Nat) (f : Fo) : Prop where
  wl : f.ws.length = n + t
  pl : f.ps.length = 2 * n - 1
  l1 : f.lf ≤ n
  i1 : n ≤ f.inn
  i2 : f.inn ≤ n + t
  tot : f.lf + f.inn = n + 2 * t
  par : ∀ i, (i < f.lf ∨ n ≤ i ∧ i < f.inn) → ∃ p : Nat, f.ps.getD i 0 = (p : Int) ∧ n ≤ p ∧ p < n + t ∧ i < p
  monoL : ∀ i j, i ≤ j → j < f.lf → f.ps.getD i 0 ≤ f.ps.getD j 0
  monoI : ∀ i j, n ≤ i → i ≤ j → j < f.inn → f.ps.getD i 0 ≤ f.ps.getD j 0

def rsum (v : Nat → Nat) (lo : Nat) : Nat → Nat
  | 0 => 0
  | k + 1 => v lo + rsum v (lo + 1) k
theorem rsum_snoc (v : Nat → Nat) : ∀ (k lo : Nat), rsum v lo (k + 1) = rsum v lo k + v (lo + k)
  | 0, lo => by simp [rsum]
  | k + 1, lo => by
    have := rsum_snoc v k (lo + 1)
    rw [show rsum v lo (k + 1 + 1) = v lo + rsum v (lo + 1) (k + 1) from rfl, this, show rsum v lo (k + 1) = v lo + rsum v (lo + 1) k from rfl, show lo + 1 + k = lo + (k + 1) by omega]
    omega
/-- The roots' values. -/
def roots (v : Nat → Nat) (n t : Nat) (f : Fo) : Nat := rsum v f.lf (n - f.lf) + rsum v f.inn (n + t - f.inn)

theorem getD_set (l : List Int) (a : Nat) (q : Int) (i : Nat) : (l.set a q).getD i 0 = if a = i ∧ i < l.length then q else l.getD i 0 := by
  rw [List.getD_eq_getElem?_getD, List.getD_eq_getElem?_getD, List.getElem?_set]
  by_cases h : a = i
  · subst h
    by_cases h2 : a < l.length
    · simp [h2]
    · rw [if_pos rfl, if_neg h2, if_neg (fun e => h2 e.2), List.getElem?_eq_none (by omega)]
  · rw [if_neg h, if_neg (fun e => h e.1)]

/-- The four ways to take two roots: which they are, and what is left. -/
def Two (n t : Nat) (f : Fo) (a b lf inn : Nat) : Prop :=
  (a = f.lf ∧ b = f.lf + 1 ∧ lf = f.lf + 2 ∧ inn = f.inn ∧ f.lf + 2 ≤ n) ∨ (a = f.lf ∧ b = f.inn ∧ lf = f.lf + 1 ∧ inn = f.inn + 1 ∧ f.lf + 1 ≤ n ∧ f.inn + 1 ≤ n + t) ∨
  (a = f.inn ∧ b = f.lf ∧ lf = f.lf + 1 ∧ inn = f.inn + 1 ∧ f.lf + 1 ≤ n ∧ f.inn + 1 ≤ n + t) ∨ (a = f.inn ∧ b = f.inn + 1 ∧ lf = f.lf ∧ inn = f.inn + 2 ∧ f.inn + 2 ≤ n + t)

section
variable {n t : Nat} {f : Fo}
/-- There is a root to take: it is a leaf, or an inner node. -/
theorem Fo.some {f : Fo} {M : Nat} (h4 : f.ws.length = M) (h1 : f.lf ≤ n) (h2 : f.inn ≤ M) (h3 : f.lf + f.inn < n + M) : (f.leafy n = true ∧ f.lf < n) ∨ (f.leafy n = false ∧ f.inn < M) := by
  unfold Fo.leafy
  by_cases a : f.lf < n
  · by_cases b : f.inn = f.ws.length
    · exact .inl ⟨by simp [a, b], a⟩
    · by_cases c : f.ws.getD f.lf 0 ≤ f.ws.getD f.inn 0
      · refine .inl ⟨?_, a⟩
        rw [decide_eq_true a, decide_eq_true c]; simp
      · refine .inr ⟨?_, by omega⟩
        rw [decide_eq_false b, decide_eq_false c]; simp
  · exact .inr ⟨by simp [a], by omega⟩
theorem FoOk.two (h : FoOk n t f) (ht : t + 1 < n) : Two n t f (f.least n) ((f.taken n).least n) ((f.taken n).taken n).lf ((f.taken n).taken n).inn ∧ f.least n < f.ws.length ∧ (f.taken n).least n < f.ws.length := by
  have h1 := h.l1
  have h2 := h.i2
  have h3 := h.tot
  have h4 := h.wl
  have h5 := h.i1
  unfold Two
  rcases Fo.some (f := f) (n := n) (M := n + t) h4 h1 h2 (by omega) with ⟨e, a⟩ | ⟨e, a⟩
  · have et : f.taken n = { f with lf := f.lf + 1 } := by unfold Fo.taken; rw [if_pos e]
    have el : f.least n = f.lf := by unfold Fo.least; rw [if_pos e]
    rcases Fo.some (f := f.taken n) (n := n) (M := n + t) (by rw [et]; exact h4) (by rw [et]; exact a) (by rw [et]; exact h2) (by rw [et]; show f.lf + 1 + f.inn < _; omega) with ⟨e2, a2⟩ | ⟨e2, a2⟩
    · have et2 : (f.taken n).taken n = { f with lf := f.lf + 2 } := by rw [Fo.taken, if_pos e2, et]
      have el2 : (f.taken n).least n = f.lf + 1 := by rw [Fo.least, if_pos e2, et]
      rw [et] at a2
      have a2' : f.lf + 1 < n := a2
      rw [et2, el2, el]
      exact ⟨.inl ⟨rfl, rfl, rfl, rfl, by omega⟩, by omega, by omega⟩
    · have et2 : (f.taken n).taken n = { f with lf := f.lf + 1, inn := f.inn + 1 } := by rw [Fo.taken, if_neg (by rw [e2]; decide), et]
      have el2 : (f.taken n).least n = f.inn := by rw [Fo.least, if_neg (by rw [e2]; decide), et]
      rw [et] at a2
      have a2' : f.inn < n + t := a2
      rw [et2, el2, el]
      exact ⟨.inr (.inl ⟨rfl, rfl, rfl, rfl, by omega, by omega⟩), by omega, by omega⟩
  · have et : f.taken n = { f with inn := f.inn + 1 } := by unfold Fo.taken; rw [if_neg (by rw [e]; decide)]
    have el : f.least n = f.inn := by unfold Fo.least; rw [if_neg (by rw [e]; decide)]
    rcases Fo.some (f := f.taken n) (n := n) (M := n + t) (by rw [et]; exact h4) (by rw [et]; exact h1) (by rw [et]; exact a) (by rw [et]; show f.lf + (f.inn + 1) < _; omega) with ⟨e2, a2⟩ | ⟨e2, a2⟩
    · have et2 : (f.taken n).taken n = { f with lf := f.lf + 1, inn := f.inn + 1 } := by rw [Fo.taken, if_pos e2, et]
      have el2 : (f.taken n).least n = f.lf := by rw [Fo.least, if_pos e2, et]
      rw [et] at a2
      have a2' : f.lf < n := a2
      rw [et2, el2, el]
      exact ⟨.inr (.inr (.inl ⟨rfl, rfl, rfl, rfl, by omega, by omega⟩)), by omega, by omega⟩
    · have et2 : (f.taken n).taken n = { f with inn := f.inn + 2 } := by rw [Fo.taken, if_neg (by rw [e2]; decide), et]
      have el2 : (f.taken n).least n = f.inn + 1 := by rw [Fo.least, if_neg (by rw [e2]; decide), et]
      rw [et] at a2
      have a2' : f.inn + 1 < n + t := a2
      rw [et2, el2, el]
      exact ⟨.inr (.inr (.inr ⟨rfl, rfl, rfl, rfl, by omega⟩)), by omega, by omega⟩
theorem FoOk.step (h : FoOk n t f) (ht : t + 1 < n) (z : Int) {a b lf inn : Nat} (hc : Two n t f a b lf inn) : FoOk n (t + 1) ⟨f.ws ++ [z], (f.ps.set a ((n + t : Nat) : Int)).set b ((n + t : Nat) : Int), lf, inn⟩ := by
  have h1 := h.l1
  have h2 := h.i2
  have h3 := h.tot
  have h4 := h.wl
  have h5 := h.i1
  have h6 := h.pl
  have at_ : ∀ i, i < 2 * n - 1 → ((f.ps.set a ((n + t : Nat) : Int)).set b ((n + t : Nat) : Int)).getD i 0 = if i = a ∨ i = b then ((n + t : Nat) : Int) else f.ps.getD i 0 := by
    intro i hi
    rw [getD_set, getD_set, List.length_set, h6]
    by_cases e1 : b = i
    · rw [if_pos ⟨e1, hi⟩, if_pos (.inr e1.symm)]
    · rw [if_neg (fun e => e1 e.1)]
      by_cases e2 : a = i
      · rw [if_pos ⟨e2, hi⟩, if_pos (.inl e2.symm)]
      · rw [if_neg (fun e => e2 e.1), if_neg (by rintro (e | e) <;> omega)]
  have old : ∀ i, (i < lf ∨ n ≤ i ∧ i < inn) → ¬ (i = a ∨ i = b) → (i < f.lf ∨ n ≤ i ∧ i < f.inn) := by
    intro i hi hn
    rcases hc with hc | hc | hc | hc <;> obtain ⟨rfl, rfl, rfl, rfl, hc⟩ := hc <;> omega
  have bd : ∀ i, (i < lf ∨ n ≤ i ∧ i < inn) → i < n + t := by
    intro i hi
    rcases hc with hc | hc | hc | hc <;> obtain ⟨rfl, rfl, rfl, rfl, hc⟩ := hc <;> omega
  refine ⟨by rw [List.length_append, h4]; rfl, by rw [List.length_set, List.length_set, h6], ?_, ?_, ?_, ?_, ?_, ?_, ?_⟩
  · show lf ≤ n
    rcases hc with hc | hc | hc | hc <;> obtain ⟨rfl, rfl, rfl, rfl, hc⟩ := hc <;> omega
  · show n ≤ inn
    rcases hc with hc | hc | hc | hc <;> obtain ⟨rfl, rfl, rfl, rfl, hc⟩ := hc <;> omega
  · show inn ≤ n + (t + 1)
    rcases hc with hc | hc | hc | hc <;> obtain ⟨rfl, rfl, rfl, rfl, hc⟩ := hc <;> omega
  · show lf + inn = n + 2 * (t + 1)
    rcases hc with hc | hc | hc | hc <;> obtain ⟨rfl, rfl, rfl, rfl, hc⟩ := hc <;> omega
  · intro i hi
    have hb := bd i hi
    show ∃ p : Nat, ((f.ps.set a ((n + t : Nat) : Int)).set b ((n + t : Nat) : Int)).getD i 0 = _ ∧ _
    rw [at_ i (by omega)]
    by_cases e : i = a ∨ i = b
    · rw [if_pos e]; exact ⟨n + t, rfl, by omega, by omega, by omega⟩
    · rw [if_neg e]
      obtain ⟨p, e1, e2, e3, e4⟩ := h.par i (old i hi e)
      exact ⟨p, e1, e2, by omega, e4⟩
  · intro i j hij hj
    show ((f.ps.set a ((n + t : Nat) : Int)).set b ((n + t : Nat) : Int)).getD i 0 ≤ ((f.ps.set a ((n + t : Nat) : Int)).set b ((n + t : Nat) : Int)).getD j 0
    have hj' : j < lf := hj
    have hjb := bd j (.inl hj')
    rw [at_ i (by omega), at_ j (by omega)]
    by_cases e1 : j = a ∨ j = b
    · rw [if_pos e1]
      by_cases e2 : i = a ∨ i = b
      · rw [if_pos e2]; exact Int.le_refl _
      · rw [if_neg e2]
        obtain ⟨p, e1, _, e3, _⟩ := h.par i (old i (.inl (by omega)) e2)
        rw [e1]; omega
    · rw [if_neg e1]
      have e3 : j < f.lf := by
        rcases hc with hc | hc | hc | hc <;> obtain ⟨rfl, rfl, rfl, rfl, hc⟩ := hc <;> omega
      rw [if_neg (by rcases hc with hc | hc | hc | hc <;> obtain ⟨rfl, rfl, rfl, rfl, hc⟩ := hc <;> omega)]
      exact h.monoL i j hij e3
  · intro i j hn hij hj
    show ((f.ps.set a ((n + t : Nat) : Int)).set b ((n + t : Nat) : Int)).getD i 0 ≤ ((f.ps.set a ((n + t : Nat) : Int)).set b ((n + t : Nat) : Int)).getD j 0
    have hj' : j < inn := hj
    have hjb := bd j (.inr ⟨by omega, hj'⟩)
    rw [at_ i (by omega), at_ j (by omega)]
    by_cases e1 : j = a ∨ j = b
    · rw [if_pos e1]
      by_cases e2 : i = a ∨ i = b
      · rw [if_pos e2]; exact Int.le_refl _
      · rw [if_neg e2]
        obtain ⟨p, e1, _, e3, _⟩ := h.par i (old i (.inr ⟨hn, by omega⟩) e2)
        rw [e1]; omega
    · rw [if_neg e1]
      have e3 : j < f.inn := by
        rcases hc with hc | hc | hc | hc <;> obtain ⟨rfl, rfl, rfl, rfl, hc⟩ := hc <;> omega
      rw [if_neg (by rcases hc with hc | hc | hc | hc <;> obtain ⟨rfl, rfl, rfl, rfl, hc⟩ := hc <;> omega)]
      exact h.monoI i j hn hij e3
theorem roots_step (h : FoOk n t f) (v : Nat → Nat) (z : Int) {a b lf inn : Nat} {ps : List Int} (hc : Two n t f a b lf inn) (ha : 2 * v a = v (n + t)) (hb : 2 * v b = v (n + t)) : roots v n (t + 1) ⟨f.ws ++ [z], ps, lf, inn⟩ = roots v n t f := by
  have h1 := h.l1
  have h2 := h.i2
  unfold roots
  show rsum v lf (n - lf) + rsum v inn (n + (t + 1) - inn) = _
  have cut : ∀ lo k, 0 < k → rsum v lo k = v lo + rsum v (lo + 1) (k - 1) := fun lo k hk => by
    obtain ⟨k, rfl⟩ : ∃ j, k = j + 1 := ⟨k - 1, by omega⟩
    rfl
  rcases hc with hc | hc | hc | hc <;> obtain ⟨rfl, rfl, rfl, rfl, hc⟩ := hc
  · rw [show n + (t + 1) - f.inn = (n + t - f.inn) + 1 by omega, rsum_snoc, show f.inn + (n + t - f.inn) = n + t by omega, cut f.lf (n - f.lf) (by omega), cut (f.lf + 1) (n - f.lf - 1) (by omega), show n - f.lf - 1 - 1 = n - (f.lf + 2) by omega, show f.lf + 1 + 1 = f.lf + 2 from rfl]
    omega
  · rw [show n + (t + 1) - (f.inn + 1) = (n + t - f.inn - 1) + 1 by omega, rsum_snoc, show f.inn + 1 + (n + t - f.inn - 1) = n + t by omega, cut f.lf (n - f.lf) (by omega), cut f.inn (n + t - f.inn) (by omega), show n - f.lf - 1 = n - (f.lf + 1) by omega]
    omega
  · rw [show n + (t + 1) - (f.inn + 1) = (n + t - f.inn - 1) + 1 by omega, rsum_snoc, show f.inn + 1 + (n + t - f.inn - 1) = n + t by omega, cut f.lf (n - f.lf) (by omega), cut f.inn (n + t - f.inn) (by omega), show n - f.lf - 1 = n - (f.lf + 1) by omega]
    omega
  · rw [show n + (t + 1) - (f.inn + 2) = (n + t - f.inn - 2) + 1 by omega, rsum_snoc, show f.inn + 2 + (n + t - f.inn - 2) = n + t by omega, cut f.inn (n + t - f.inn) (by omega), cut (f.inn + 1) (n + t - f.inn - 1) (by omega), show n + t - f.inn - 1 - 1 = n + t - f.inn - 2 by omega, show f.inn + 1 + 1 = f.inn + 2 from rfl]
    omega
theorem joined_is (h : FoOk n t f) : f.joined n = ⟨f.ws ++ [wrap64 (f.ws.getD (f.least n) 0 + f.ws.getD ((f.taken n).least n) 0)], (f.ps.set (f.least n) ((n + t : Nat) : Int)).set ((f.taken n).least n) ((n + t : Nat) : Int), ((f.taken n).taken n).lf, ((f.taken n).taken n).inn⟩ := by
  unfold Fo.joined
  rw [h.wl]
theorem FoOk.join (h : FoOk n t f) (ht : t + 1 < n) : FoOk n (t + 1) (f.joined n) := by
  rw [joined_is h]; exact h.step ht _ (h.two ht).1
end
def Fo.first (ws : List Int) : Fo := ⟨ws, List.replicate (2 * ws.length - 1) 0, 0, ws.length⟩
theorem first_ok (ws : List Int) : FoOk ws.length 0 (Fo.first ws) :=
  ⟨rfl, by simp [Fo.first], Nat.zero_le _, Nat.le_refl _, Nat.le_refl _, by simp [Fo.first], fun i hi => by rcases hi with h | h <;> simp [Fo.first] at h; omega, fun i j _ hj => by simp [Fo.first] at hj, fun i j h1 h2 hj => by simp [Fo.first] at hj; omega⟩
theorem joins_ok (ws : List Int) : ∀ t, t < ws.length → FoOk ws.length t ((Fo.first ws).joins ws.length t)
  | 0, _ => first_ok ws
  | t + 1, h => (joins_ok ws t (by omega)).join h
/-- The values of the leaves together are those of the roots, where each node has half of its parent's. -/
theorem joins_roots (ws : List Int) (v : Nat → Nat) : ∀ t, t < ws.length → (∀ i, (i < ((Fo.first ws).joins ws.length t).lf ∨ ws.length ≤ i ∧ i < ((Fo.first ws).joins ws.length t).inn) → 2 * v i = v (((Fo.first ws).joins ws.length t).ps.getD i 0).toNat) →
    roots v ws.length t ((Fo.first ws).joins ws.length t) = rsum v 0 ws.length
  | 0, _, _ => by simp [roots, Fo.joins, Fo.first, rsum]
  | t + 1, h, hv => by
    have ok := joins_ok ws t (by omega)
    have ih := joins_roots ws v t (by omega)
    have tw := ok.two h
    have nx := ok.join h
    rw [show (Fo.first ws).joins ws.length (t + 1) = ((Fo.first ws).joins ws.length t).joined ws.length from rfl] at hv ⊢
    generalize (Fo.first ws).joins ws.length t = f at *
    rw [joined_is ok] at hv nx ⊢
    obtain ⟨tw, -, -⟩ := tw
    have h1 := ok.l1
    have h2 := ok.i2
    have h6 := ok.pl
    have h5 := ok.i1
    generalize f.least ws.length = a at *
    generalize (f.taken ws.length).least ws.length = b at *
    generalize ((f.taken ws.length).taken ws.length).lf = lf at *
    generalize ((f.taken ws.length).taken ws.length).inn = inn at *
    have at_ : ∀ i, i < 2 * ws.length - 1 → ((f.ps.set a ((ws.length + t : Nat) : Int)).set b ((ws.length + t : Nat) : Int)).getD i 0 = if i = a ∨ i = b then ((ws.length + t : Nat) : Int) else f.ps.getD i 0 := by
      intro i hi
      rw [getD_set, getD_set, List.length_set, h6]
      by_cases e1 : b = i
      · rw [if_pos ⟨e1, hi⟩, if_pos (.inr e1.symm)]
      · rw [if_neg (fun e => e1 e.1)]
        by_cases e2 : a = i
        · rw [if_pos ⟨e2, hi⟩, if_pos (.inl e2.symm)]
        · rw [if_neg (fun e => e2 e.1), if_neg (by rintro (e | e) <;> omega)]
    have ta : (a < lf ∨ ws.length ≤ a ∧ a < inn) ∧ (b < lf ∨ ws.length ≤ b ∧ b < inn) := by
      rcases tw with hc | hc | hc | hc <;> obtain ⟨rfl, rfl, rfl, rfl, hc⟩ := hc <;> omega
    have abd : a < 2 * ws.length - 1 ∧ b < 2 * ws.length - 1 := by
      rcases tw with hc | hc | hc | hc <;> obtain ⟨rfl, rfl, rfl, rfl, hc⟩ := hc <;> omega
    have ha := hv a ta.1
    have hb := hv b ta.2
    simp only [at_ a abd.1, at_ b abd.2, true_or, or_true, if_true, Int.toNat_natCast] at ha hb
    rw [roots_step ok v _ tw ha hb]
    refine ih fun i hi => ?_
    have hi2 : (i < lf ∨ ws.length ≤ i ∧ i < inn) ∧ ¬ (i = a ∨ i = b) ∧ i < 2 * ws.length - 1 := by
      rcases tw with hc | hc | hc | hc <;> obtain ⟨rfl, rfl, rfl, rfl, hc⟩ := hc <;> omega
    have := hv i hi2.1
    simp only [at_ i hi2.2.2, if_neg hi2.2.1] at this
    exact this

/-! ### How deep -/
/-- Depths, from the place below k down. -/
def dep (ps : List Int) : Nat → List Int → List Int
  | 0, l => l
  | k + 1, l => dep ps k (l.set k (l.getD (ps.getD k 0).toNat 0 + 1))
theorem dep_len (ps : List Int) : ∀ k l, (dep ps k l).length = l.length
  | 0, _ => rfl
  | k + 1, l => by rw [dep, dep_len ps k, List.length_set]
/-- What stands from k on stays. -/
theorem dep_keep (ps : List Int) : ∀ k l i, k ≤ i → (dep ps k l).getD i 0 = l.getD i 0
  | 0, _, _, _ => rfl
  | k + 1, l, i, h => by rw [dep, dep_keep ps k _ i (by omega), getD_set, if_neg (by omega)]
theorem dep_is (ps : List Int) : ∀ k l, k ≤ l.length → (∀ i, i < k → i < (ps.getD i 0).toNat) → ∀ i, i < k → (dep ps k l).getD i 0 = (dep ps k l).getD (ps.getD i 0).toNat 0 + 1
  | 0, _, _, _, _, h => absurd h (Nat.not_lt_zero _)
  | k + 1, l, hl, hp, i, hi => by
    rw [dep]
    rcases Nat.lt_or_ge i k with h | h
    · exact dep_is ps k _ (by rw [List.length_set]; omega) (fun i hi => hp i (by omega)) i h
    · obtain rfl : i = k := by omega
      have := hp i (by omega)
      rw [dep_keep ps i _ i (Nat.le_refl _), dep_keep ps i _ _ (by omega), getD_set, if_pos ⟨rfl, by omega⟩, getD_set, if_neg (by omega)]

def forestV (ws : List Int) : Fo := (Fo.first ws).joins ws.length (ws.length - 1)
def depAll (ws : List Int) : List Int := dep (forestV ws).ps (2 * ws.length - 2) (List.replicate (2 * ws.length - 1) 0)
def depthsV (ws : List Int) : List Int := (depAll ws).take ws.length

/-- All that is asked of depths by what follows. -/
structure Deep (n : Nat) (ds : List Int) : Prop where
  len : ds.length = n
  pos : 2 ≤ n → ∀ i, i < n → 1 ≤ ds.getD i 0
  top : ∀ i, i < n → 0 ≤ ds.getD i 0 ∧ ds.getD i 0 ≤ 2 * n
  mono : ∀ i j, i ≤ j → j < n → ds.getD j 0 ≤ ds.getD i 0
  one : n = 1 → ds.getD 0 0 = 0
  sum : 2 ≤ n → rsum (fun i => 2 ^ (600 - (ds.getD i 0).toNat)) 0 n = 2 ^ 600
theorem rsum_congr {v u : Nat → Nat} : ∀ k lo, (∀ i, lo ≤ i → i < lo + k → v i = u i) → rsum v lo k = rsum u lo k
  | 0, _, _ => rfl
  | k + 1, lo, h => by
    rw [rsum, rsum, h lo (Nat.le_refl _) (by omega), rsum_congr k (lo + 1) fun i h1 h2 => h i (by omega) (by omega)]
theorem forest_end {ws : List Int} (hn : 2 ≤ ws.length) : FoOk ws.length (ws.length - 1) (forestV ws) ∧ (forestV ws).lf = ws.length ∧ (forestV ws).inn = 2 * ws.length - 2 := by
  have h : FoOk ws.length (ws.length - 1) (forestV ws) := joins_ok ws _ (by omega)
  have h1 := h.l1
  have h2 := h.i2
  have h3 := h.tot
  have h5 := h.i1
  have h7 : (forestV ws).inn ≠ 2 * ws.length - 1 := fun e => by
    obtain ⟨p, _, _, e3, e4⟩ := h.par (2 * ws.length - 2) (.inr ⟨by omega, by omega⟩)
    omega
  exact ⟨h, by omega, by omega⟩
theorem depths_deep (ws : List Int) (h256 : ws.length ≤ 256) : Deep ws.length (depthsV ws) := by
  have hlen : (depAll ws).length = 2 * ws.length - 1 := by rw [depAll, dep_len, List.length_replicate]
  have hat : ∀ i, i < ws.length → (depthsV ws).getD i 0 = (depAll ws).getD i 0 := fun i hi => by
    unfold depthsV
    rw [List.getD_eq_getElem?_getD, List.getD_eq_getElem?_getD, List.getElem?_take, if_pos hi]
  have hl : (depthsV ws).length = ws.length := by unfold depthsV; rw [List.length_take, hlen]; omega
  by_cases hn : 2 ≤ ws.length
  · obtain ⟨ok, hlf, hinn⟩ := forest_end hn
    have hpar : ∀ i, i < 2 * ws.length - 2 → ∃ p : Nat, (forestV ws).ps.getD i 0 = (p : Int) ∧ ws.length ≤ p ∧ p ≤ 2 * ws.length - 2 ∧ i < p := fun i hi => by
      obtain ⟨p, e1, e2, e3, e4⟩ := ok.par i (by omega)
      exact ⟨p, e1, e2, by omega, e4⟩
    have hd : ∀ i, i < 2 * ws.length - 2 → (depAll ws).getD i 0 = (depAll ws).getD ((forestV ws).ps.getD i 0).toNat 0 + 1 := fun i hi => by
      unfold depAll
      exact dep_is _ _ _ (by rw [List.length_replicate]; omega) (fun i hi => by obtain ⟨p, e1, _, _, e4⟩ := hpar i hi; rw [e1, Int.toNat_natCast]; exact e4) i hi
    have hroot : (depAll ws).getD (2 * ws.length - 2) 0 = 0 := by
      unfold depAll
      rw [dep_keep _ _ _ _ (Nat.le_refl _), List.getD_eq_getElem?_getD, List.getElem?_replicate]
      split <;> rfl
    have hb : ∀ k i, 2 * ws.length - 2 - i = k → i ≤ 2 * ws.length - 2 → 0 ≤ (depAll ws).getD i 0 ∧ (depAll ws).getD i 0 ≤ (k : Int) := by
      intro k
      induction k using Nat.strongRecOn with
      | _ k ih =>
        intro i hk hi
        by_cases e : i = 2 * ws.length - 2
        · rw [e, hroot]; omega
        · obtain ⟨p, e1, e2, e3, e4⟩ := hpar i (by omega)
          rw [hd i (by omega), e1, Int.toNat_natCast]
          have := ih (2 * ws.length - 2 - p) (by omega) p rfl e3
          omega
    have hmI : ∀ k i j, 2 * ws.length - 2 - i = k → ws.length ≤ i → i ≤ j → j ≤ 2 * ws.length - 2 → (depAll ws).getD j 0 ≤ (depAll ws).getD i 0 := by
      intro k
      induction k using Nat.strongRecOn with
      | _ k ih =>
        intro i j hk hi hij hj
        by_cases e : j = 2 * ws.length - 2
        · rw [e, hroot]; exact (hb _ i rfl (by omega)).1
        · obtain ⟨p, e1, e2, e3, e4⟩ := hpar i (by omega)
          obtain ⟨q, f1, f2, f3, f4⟩ := hpar j (by omega)
          have hm := ok.monoI i j hi hij (by omega)
          rw [e1, f1] at hm
          rw [hd i (by omega), hd j (by omega), e1, f1, Int.toNat_natCast, Int.toNat_natCast]
          have := ih (2 * ws.length - 2 - p) (by omega) p q rfl e2 (by omega) f3
          omega
    refine ⟨hl, fun _ i hi => ?_, fun i hi => ?_, fun i j hij hj => ?_, fun h => by omega, fun _ => ?_⟩
    · rw [hat i hi, hd i (by omega)]
      obtain ⟨p, e1, e2, e3, e4⟩ := hpar i (by omega)
      have := hb _ p rfl e3
      rw [e1, Int.toNat_natCast]; omega
    · rw [hat i hi]
      have := hb _ i rfl (by omega)
      omega
    · rw [hat i (by omega), hat j hj, hd i (by omega), hd j (by omega)]
      obtain ⟨p, e1, e2, e3, e4⟩ := hpar i (by omega)
      obtain ⟨q, f1, f2, f3, f4⟩ := hpar j (by omega)
      have hm := ok.monoL i j hij (by omega)
      rw [e1, f1] at hm
      rw [e1, f1, Int.toNat_natCast, Int.toNat_natCast]
      have := hmI _ p q rfl e2 (by omega) f3
      omega
    · rw [rsum_congr (u := fun i => 2 ^ (600 - ((depAll ws).getD i 0).toNat)) _ _ (fun i _ h2 => by rw [hat i (by omega)])]
      have := joins_roots ws (fun i => 2 ^ (600 - ((depAll ws).getD i 0).toNat)) (ws.length - 1) (by omega) (fun i hi => by
        have hi2 : i < 2 * ws.length - 2 := by
          rcases hi with h | h
          · have h' : i < (forestV ws).lf := h; omega
          · have h' : i < (forestV ws).inn := h.2; omega
        show 2 * 2 ^ (600 - ((depAll ws).getD i 0).toNat) = 2 ^ (600 - ((depAll ws).getD ((forestV ws).ps.getD i 0).toNat 0).toNat)
        obtain ⟨p, e1, e2, e3, e4⟩ := hpar i hi2
        have h3 := hb _ p rfl e3
        rw [hd i hi2, e1, Int.toNat_natCast]
        generalize (depAll ws).getD p 0 = x at *
        obtain ⟨m, hm⟩ : ∃ m, m = 600 - (x + 1).toNat := ⟨_, rfl⟩
        rw [← hm, show 600 - x.toNat = m + 1 by omega, Nat.pow_succ]
        omega)
      rw [← this]
      show roots _ ws.length (ws.length - 1) (forestV ws) = 2 ^ 600
      unfold roots
      rw [hlf, hinn, Nat.sub_self, show ws.length + (ws.length - 1) - (2 * ws.length - 2) = 1 by omega]
      simp only [rsum, hroot, Nat.zero_add, Nat.add_zero, Int.toNat_zero, Nat.sub_zero]
  · have h0 : ∀ i, i < ws.length → (depthsV ws).getD i 0 = 0 := fun i hi => by
      rw [hat i hi]
      unfold depAll
      rw [show 2 * ws.length - 2 = 0 by omega, dep, List.getD_eq_getElem?_getD, List.getElem?_replicate]
      split <;> rfl
    refine ⟨hl, fun h => absurd h hn, fun i hi => ?_, fun i j hij hj => ?_, fun h => h0 0 (by omega), fun h => absurd h hn⟩
    · have := h0 i hi
      omega
    · obtain rfl : i = j := by omega
      exact Int.le_refl _
end Go.Proofs.Ytpaefpjggglmaaa
