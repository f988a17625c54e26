/- A sequence of a block, taken at once (plain Lean, no program). -/
import Derived.Test.YtpfhkbagapodoaaLz
namespace Go.Proofs.Ytpfhkbagapodoaa.Lz

/-- The next sequence: its literals and, unless it is the last, how far back, how many more than four, and what is left; none: a byte is missing. -/
def next : List Nat → Option (List Nat × Option (Nat × Nat × List Nat))
  | [] => none
  | t :: r =>
    match added r (t / 16) with
    | none => none
    | some (lits, r1) =>
      if r1.length < lits then none else
      match r1.drop lits with
      | [] => some (r1.take lits, none)
      | [_] => none
      | b0 :: b1 :: r3 =>
        match added r3 (t % 16) with
        | none => none
        | some (many, r4) => some (r1.take lits, some (b0 + b1 * 256, many, r4))
section
variable {t lits : Nat} {r q : List Nat}
theorem next_none (h : added r (t / 16) = none) : next (t :: r) = none := by unfold next; simp only [h]
theorem next_short (h : added r (t / 16) = some (lits, q)) (h2 : q.length < lits) : next (t :: r) = none := by unfold next; simp only [h]; rw [if_pos h2]
theorem next_last (h : added r (t / 16) = some (lits, q)) (h2 : q.length = lits) : next (t :: r) = some (q, none) := by
  subst h2
  unfold next; simp only [h]
  rw [if_neg (by omega), List.drop_length, List.take_length]
theorem next_one (h : added r (t / 16) = some (lits, q)) (h2 : q.length = lits + 1) : next (t :: r) = none := by
  unfold next; simp only [h]
  rw [if_neg (by omega)]
  have : (q.drop lits).length = 1 := by rw [List.length_drop]; omega
  match hq : q.drop lits, this with
  | [_], _ => rfl
theorem next_more_none {b0 b1 : Nat} {r3 : List Nat} (h : added r (t / 16) = some (lits, q)) (h2 : lits ≤ q.length) (h3 : q.drop lits = b0 :: b1 :: r3) (h4 : added r3 (t % 16) = none) : next (t :: r) = none := by
  unfold next; simp only [h]
  rw [if_neg (by omega), h3]; simp only; rw [h4]
theorem next_more {b0 b1 many : Nat} {r3 r4 : List Nat} (h : added r (t / 16) = some (lits, q)) (h2 : lits ≤ q.length) (h3 : q.drop lits = b0 :: b1 :: r3) (h4 : added r3 (t % 16) = some (many, r4)) : next (t :: r) = some (q.take lits, some (b0 + b1 * 256, many, r4)) := by
  unfold next; simp only [h]
  rw [if_neg (by omega), h3]; simp only; rw [h4]
end
/-- What the steps of a block are, by its next sequence. -/
theorem unp_next (n f : Nat) (l o : List Nat) : unp n (f + 1) l o = match next l with
    | none => ([], 2)
    | some (ls, none) => if n - o.length < ls.length then ([], 3) else if o.length + ls.length < n then ([], 2) else (o ++ ls, 0)
    | some (ls, some (back, many, r4)) => if n - o.length < ls.length then ([], 3)
        else if back = 0 ∨ o.length + ls.length < back then ([], 4)
        else if n - (o.length + ls.length) < many + 4 then ([], 3)
        else unp n f r4 (copyB (o ++ ls) back (many + 4)) := by
  cases l with
  | nil => rw [unp_nil]; rfl
  | cons t r =>
    cases ha : added r (t / 16) with
    | none => rw [unp_none ha, next_none ha]
    | some pr =>
      obtain ⟨lits, q⟩ := pr
      by_cases h1 : q.length < lits
      · rw [unp_short ha h1, next_short ha h1]
      by_cases h2 : q.length = lits
      · rw [unp_last ha h2, next_last ha h2]; simp only [h2]
      by_cases h3 : q.length = lits + 1
      · rw [unp_one ha h3, next_one ha h3]
      have h4 : lits + 2 ≤ q.length := by omega
      have hd := drop_two h4
      have hl : (q.take lits).length = lits := by rw [List.length_take]; omega
      cases hb : added (q.drop (lits + 2)) (t % 16) with
      | none => rw [unp_more_none ha h4 hb, next_more_none ha (by omega) hd hb]
      | some pr2 =>
        obtain ⟨many, q2⟩ := pr2
        rw [unp_more ha h4 hb, next_more ha (by omega) hd hb]
        simp only [hl]
theorem next_lt {l ls : List Nat} {m : Option (Nat × Nat × List Nat)} (h : next l = some (ls, m)) (hl : ∀ x ∈ l, x < 256) : ∀ x ∈ ls, x < 256 := by
  cases l with
  | nil => cases h
  | cons t r =>
    have hr : ∀ x ∈ r, x < 256 := fun x hx => hl x (List.mem_cons_of_mem _ hx)
    cases ha : added r (t / 16) with
    | none => rw [next_none ha] at h; cases h
    | some pr =>
      obtain ⟨lits, q⟩ := pr
      have hq : ∀ x ∈ q, x < 256 := fun x hx => hr x (by rw [(added_len ha).2.2] at hx; exact List.mem_of_mem_drop hx)
      by_cases h1 : q.length < lits
      · rw [next_short ha h1] at h; cases h
      by_cases h2 : q.length = lits
      · rw [next_last ha h2] at h
        injection h with h; injection h with h _; subst h; exact hq
      by_cases h3 : q.length = lits + 1
      · rw [next_one ha h3] at h; cases h
      have hd := drop_two (q := q) (k := lits) (by omega)
      cases hb : added (q.drop (lits + 2)) (t % 16) with
      | none => rw [next_more_none ha (by omega) hd hb] at h; cases h
      | some pr2 =>
        obtain ⟨many, q2⟩ := pr2
        rw [next_more ha (by omega) hd hb] at h
        injection h with h; injection h with h _; subst h
        exact fun x hx => hq x (List.mem_of_mem_take hx)
theorem next_less {l ls r : List Nat} {back many : Nat} (h : next l = some (ls, some (back, many, r))) : r.length < l.length := by
  cases l with
  | nil => cases h
  | cons t r0 =>
    cases ha : added r0 (t / 16) with
    | none => rw [next_none ha] at h; cases h
    | some pr =>
      obtain ⟨lits, q⟩ := pr
      have hq := (added_len ha).1
      by_cases h1 : q.length < lits
      · rw [next_short ha h1] at h; cases h
      by_cases h2 : q.length = lits
      · rw [next_last ha h2] at h; cases h
      by_cases h3 : q.length = lits + 1
      · rw [next_one ha h3] at h; cases h
      have hd := drop_two (q := q) (k := lits) (by omega)
      cases hb : added (q.drop (lits + 2)) (t % 16) with
      | none => rw [next_more_none ha (by omega) hd hb] at h; cases h
      | some pr2 =>
        obtain ⟨many2, q2⟩ := pr2
        have h4 := (added_len hb).1
        rw [List.length_drop] at h4
        rw [next_more ha (by omega) hd hb] at h
        injection h with h; injection h with _ h; injection h with h; injection h with _ h; injection h with _ h; subst h
        rw [List.length_cons]
        omega
end Go.Proofs.Ytpfhkbagapodoaa.Lz
