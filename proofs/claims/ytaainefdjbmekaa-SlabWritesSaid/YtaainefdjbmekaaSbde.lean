/- A reader's state: what is left, or the first error; entries read one number after another. -/
import Derived.Test.YtaainefdjbmekaaSbch
namespace Go.Proofs.Ytaainefdjbmekaa.Nd
open Vint
abbrev St := Except Nat (List Nat)
/-- One number; behind an error it is 0. -/
def nx (st : St) : Nat × St := match st with
  | .error e => (0, .error e)
  | .ok s => if (num s).2.2 = 0 then ((num s).1, .ok (s.drop (num s).2.1)) else (0, .error (num s).2.2)
def nxs : Nat → St → List Nat × St
  | 0, st => ([], st)
  | m + 1, st => ((nx st).1 :: (nxs m (nx st).2).1, (nxs m (nx st).2).2)
theorem nx_ok {s : List Nat} (h : (num s).2.2 = 0) : nx (.ok s) = ((num s).1, .ok (s.drop (num s).2.1)) := by
  show (if (num s).2.2 = 0 then _ else _) = _
  rw [if_pos h]
theorem nx_bad {s : List Nat} (h : (num s).2.2 ≠ 0) : nx (.ok s) = (0, .error (num s).2.2) := by
  show (if (num s).2.2 = 0 then _ else _) = _
  rw [if_neg h]
theorem nxs_err : ∀ (m e : Nat), (nxs m (.error e)).2 = .error e
  | 0, _ => rfl
  | m + 1, e => nxs_err m e
theorem nxs_of_ok : ∀ {m : Nat} {s xs t : List Nat}, rds m s = .ok (xs, t) → nxs m (.ok s) = (xs, .ok t)
  | 0, s, xs, t, h => by
    rw [rds] at h
    injection h with h
    injection h with h1 h2
    subst h1; subst h2
    rfl
  | m + 1, s, xs, t, h => by
    rw [rds] at h
    by_cases h0 : (num s).2.2 = 0
    · rw [if_pos h0] at h
      cases h1 : rds m (s.drop (num s).2.1) with
      | error e => rw [h1] at h; cases h
      | ok p =>
        obtain ⟨ys, u⟩ := p
        rw [h1] at h
        injection h with h
        injection h with h2 h3
        subst h2; subst h3
        rw [nxs, nx_ok h0, nxs_of_ok h1]
    · rw [if_neg h0] at h; cases h
theorem nxs_of_err : ∀ {m : Nat} {s : List Nat} {e : Nat}, rds m s = .error e → (nxs m (.ok s)).2 = .error e
  | 0, s, e, h => by rw [rds] at h; cases h
  | m + 1, s, e, h => by
    rw [rds] at h
    by_cases h0 : (num s).2.2 = 0
    · rw [if_pos h0] at h
      cases h1 : rds m (s.drop (num s).2.1) with
      | error e' =>
        rw [h1] at h
        injection h with h
        subst h
        rw [nxs, nx_ok h0]
        exact nxs_of_err h1
      | ok p => rw [h1] at h; cases h
    · rw [if_neg h0] at h
      injection h with h
      subst h
      rw [nxs, nx_bad h0]
      exact nxs_err m _
theorem ents_mono {h k : Nat} {s : List Nat} {e : Nat} (h0 : ents h k s = .error e) : ∀ {m : Nat}, k ≤ m → ents h m s = .error e
  | 0, hm => by rw [show k = 0 by omega] at h0; exact h0
  | m + 1, hm => by
    rcases Nat.lt_or_ge m k with c | c
    · rw [show m + 1 = k by omega]; exact h0
    · have := ents_mono h0 c
      rw [ents, this]
/-- Where the reading of entries stands: i have been read, or there was an error. -/
def J (h many : Nat) (s : List Nat) (i : Nat) (n : N) (st : St) : Prop := match st with
  | .ok t => ents h i s = .ok (n, t)
  | .error e => ents h many s = .error e ∧ e ≠ 0
theorem J.start (h many : Nat) (s : List Nat) : J h many s 0 ⟨(h : Int), [], [], [], []⟩ (.ok s) := rfl
theorem J.step {h many : Nat} {s : List Nat} {i : Nat} {n : N} {t : List Nat} (hj : J h many s i n (.ok t)) (hi : i < many) : J h many s (i + 1) (more n (nxs (width h) (.ok t)).1) (nxs (width h) (.ok t)).2 := by
  have hj' : ents h i s = .ok (n, t) := hj
  have e1 : ents h (i + 1) s = (match rds (width h) t with | .error e => .error e | .ok (xs, u) => .ok (more n xs, u)) := by
    rw [ents, hj']
    rfl
  cases h1 : rds (width h) t with
  | error e =>
    rw [h1] at e1
    rw [nxs_of_err h1]
    exact ⟨ents_mono e1 hi, by rcases rds_err h1 with c | c <;> omega⟩
  | ok p =>
    obtain ⟨xs, u⟩ := p
    rw [h1] at e1
    rw [nxs_of_ok h1]
    exact e1
/-- What the head of the bytes says. -/
theorem rds_nx (s : List Nat) : rds 1 s = (match (nx (.ok s)).2 with | .ok t => .ok ([(nx (.ok s)).1], t) | .error e => .error e) := by
  rw [rds]
  by_cases h0 : (num s).2.2 = 0
  · rw [if_pos h0, nx_ok h0]; rfl
  · rw [if_neg h0, nx_bad h0]
theorem dec_head {b : List Nat} {e : Nat} (h : (nx (nx (.ok b)).2).2 = .error e) : dec b = (zero, e) := by
  unfold dec
  rw [rds_nx]
  cases h1 : (nx (.ok b)).2 with
  | error e' =>
    rw [h1] at h
    have : e' = e := by injection h
    subst this
    rfl
  | ok s =>
    rw [h1] at h
    dsimp only
    rw [rds_nx, h]
theorem dec_many {b s : List Nat} (h : (nx (nx (.ok b)).2).2 = .ok s) (hm : 8 < (nx (nx (.ok b)).2).1) : dec b = (zero, 4) := by
  unfold dec
  rw [rds_nx]
  cases h1 : (nx (.ok b)).2 with
  | error e' => rw [h1] at h; cases h
  | ok t =>
    rw [h1] at h hm
    dsimp only
    rw [rds_nx, h]
    exact if_pos hm
open Classical in
theorem dec_rest {b s : List Nat} (h : (nx (nx (.ok b)).2).2 = .ok s) (hm : ¬ 8 < (nx (nx (.ok b)).2).1) : dec b = match ents (nx (.ok b)).1 (nx (nx (.ok b)).2).1 s with
      | .error e => (zero, e)
      | .ok (n, u) => if u ≠ [] then (zero, 3) else if Ok n then (n, 0) else (zero, 4) := by
  unfold dec
  rw [rds_nx]
  cases h1 : (nx (.ok b)).2 with
  | error e' => rw [h1] at h; cases h
  | ok t =>
    rw [h1] at h hm
    dsimp only
    rw [rds_nx, h]
    exact if_neg hm
/-- The same, told by what the bytes say in the end. -/
def KJ (b : List Nat) (h many : Nat) (i : Nat) (n : N) (st : St) : Prop := match st with
  | .ok t => ∃ s, (nx (nx (.ok b)).2).2 = .ok s ∧ h = (nx (.ok b)).1 ∧ many = (nx (nx (.ok b)).2).1 ∧ many ≤ 8 ∧ ents h i s = .ok (n, t)
  | .error e => dec b = (zero, e) ∧ e ≠ 0
theorem nx_err {st : St} {e : Nat} (h : (nx st).2 = .error e) (h0 : ∀ k, st = .error k → k ≠ 0) : e ≠ 0 ∧ (nx st).1 = 0 := by
  match st with
  | .error k =>
    have : k = e := by injection h
    subst this
    exact ⟨h0 k rfl, rfl⟩
  | .ok s =>
    by_cases hz : (num s).2.2 = 0
    · rw [nx_ok hz] at h; cases h
    · rw [nx_bad hz] at h ⊢
      have : (num s).2.2 = e := by injection h
      exact ⟨by rw [← this]; exact hz, rfl⟩
theorem KJ.start {b s : List Nat} (he : (nx (nx (.ok b)).2).2 = .ok s) (hm : ¬ 8 < (nx (nx (.ok b)).2).1) : KJ b (nx (.ok b)).1 (nx (nx (.ok b)).2).1 0 ⟨((nx (.ok b)).1 : Int), [], [], [], []⟩ (.ok s) := ⟨s, he, rfl, rfl, by omega, rfl⟩
theorem KJ.step {b : List Nat} {h many i : Nat} {n : N} {t : List Nat} (hj : KJ b h many i n (.ok t)) (hi : i < many) : KJ b h many (i + 1) (more n (nxs (width h) (.ok t)).1) (nxs (width h) (.ok t)).2 := by
  obtain ⟨s, h1, rfl, rfl, h4, h5⟩ := hj
  have hs := J.step (h := (nx (.ok b)).1) (many := (nx (nx (.ok b)).2).1) (s := s) (i := i) (n := n) (t := t) h5 hi
  cases h6 : (nxs (width (nx (.ok b)).1) (.ok t)).2 with
  | ok u =>
    rw [h6] at hs
    exact ⟨s, h1, rfl, rfl, h4, hs⟩
  | error e =>
    rw [h6] at hs
    refine ⟨?_, hs.2⟩
    rw [dec_rest h1 (by omega), hs.1]
open Classical in
theorem KJ.fin {b : List Nat} {h many : Nat} {n : N} {u : List Nat} (hj : KJ b h many many n (.ok u)) : dec b = if u ≠ [] then (zero, 3) else if Ok n then (n, 0) else (zero, 4) := by
  obtain ⟨s, h1, rfl, rfl, h4, h5⟩ := hj
  rw [dec_rest h1 (by omega), h5]
end Go.Proofs.Ytaainefdjbmekaa.Nd
