/- The format of a block: what its bytes say (plain Lean, no program). -/
import Derived.ProofKit
namespace Go.Proofs.Ytpfhkbagapodoaa.Lz

/-- A length that goes on by bytes: the length and what is left; none: the bytes end. -/
def go : List Nat → Nat → Option (Nat × List Nat)
  | [], _ => none
  | x :: r, n => if x < 255 then some (n + x, r) else go r (n + x)
def added (r : List Nat) (n : Nat) : Option (Nat × List Nat) := if n < 15 then some (n, r) else go r n
/-- k bytes, each from so many back. -/
def copyB (o : List Nat) (back : Nat) : Nat → List Nat
  | 0 => o
  | k + 1 => copyB (o ++ [o.getD (o.length - back) 0]) back k
/-- What is left of a block, behind what it gave: the bytes and the error (0: none). -/
def unp (n : Nat) : Nat → List Nat → List Nat → List Nat × Nat
  | 0, _, _ => ([], 2)
  | _ + 1, [], _ => ([], 2)
  | f + 1, t :: r, out =>
    match added r (t / 16) with
    | none => ([], 2)
    | some (lits, r1) =>
      if r1.length < lits then ([], 2) else
      match r1.drop lits with
      | [] => if n - out.length < lits then ([], 3) else if (out ++ r1.take lits).length < n then ([], 2) else (out ++ r1.take lits, 0)
      | [_] => ([], 2)
      | b0 :: b1 :: r3 =>
        match added r3 (t % 16) with
        | none => ([], 2)
        | some (many, r4) =>
          if n - out.length < lits then ([], 3)
          else if b0 + b1 * 256 = 0 ∨ (out ++ r1.take lits).length < b0 + b1 * 256 then ([], 4)
          else if n - (out ++ r1.take lits).length < many + 4 then ([], 3)
          else unp n f r4 (copyB (out ++ r1.take lits) (b0 + b1 * 256) (many + 4))
/-- Unpack. -/
def unpack (l : List Nat) (n : Int) : List Nat × Nat := if n < 0 ∨ 4096 < n then ([], 1) else unp n.toNat l.length l []

theorem go_len : ∀ {r : List Nat} {n m : Nat} {q : List Nat}, go r n = some (m, q) → q.length < r.length ∧ n ≤ m ∧ q = r.drop (r.length - q.length)
  | [], _, _, _, h => by simp [go] at h
  | x :: r, n, m, q, h => by
    unfold go at h
    by_cases hx : x < 255
    · rw [if_pos hx] at h
      simp only [Option.some.injEq, Prod.mk.injEq] at h
      obtain ⟨rfl, rfl⟩ := h
      refine ⟨by simp, by omega, ?_⟩
      rw [List.length_cons, Nat.add_sub_cancel_left]
      rfl
    · rw [if_neg hx] at h
      obtain ⟨h1, h2, h3⟩ := go_len h
      refine ⟨by simp; omega, by omega, ?_⟩
      have e : (x :: r).length - q.length = (r.length - q.length) + 1 := by rw [List.length_cons]; omega
      rw [e, List.drop_succ_cons]
      exact h3
theorem added_len {r : List Nat} {n m : Nat} {q : List Nat} (h : added r n = some (m, q)) : q.length ≤ r.length ∧ n ≤ m ∧ q = r.drop (r.length - q.length) := by
  unfold added at h
  by_cases hn : n < 15
  · rw [if_pos hn] at h
    simp only [Option.some.injEq, Prod.mk.injEq] at h
    obtain ⟨rfl, rfl⟩ := h
    simp
  · rw [if_neg hn] at h
    obtain ⟨h1, h2, h3⟩ := go_len h
    exact ⟨by omega, h2, h3⟩
theorem go_bound : ∀ {r : List Nat} {n m : Nat} {q : List Nat}, (∀ x ∈ r, x < 256) → go r n = some (m, q) → m ≤ n + 255 * r.length
  | [], _, _, _, _, h => by simp [go] at h
  | x :: r, n, m, q, hr, h => by
    unfold go at h
    have hx := hr x (List.mem_cons_self ..)
    by_cases h255 : x < 255
    · rw [if_pos h255] at h
      simp only [Option.some.injEq, Prod.mk.injEq] at h
      rw [List.length_cons]
      omega
    · rw [if_neg h255] at h
      have := go_bound (fun y hy => hr y (List.mem_cons_of_mem _ hy)) h
      rw [List.length_cons]
      omega
theorem added_bound {r : List Nat} {n m : Nat} {q : List Nat} (hr : ∀ x ∈ r, x < 256) (h : added r n = some (m, q)) : m ≤ n + 255 * r.length := by
  unfold added at h
  by_cases hn : n < 15
  · rw [if_pos hn] at h
    simp only [Option.some.injEq, Prod.mk.injEq] at h
    omega
  · rw [if_neg hn] at h; exact go_bound hr h
theorem copyB_len (back : Nat) : ∀ (k : Nat) (o : List Nat), (copyB o back k).length = o.length + k
  | 0, o => rfl
  | k + 1, o => by rw [copyB, copyB_len back k, List.length_append, List.length_singleton]; omega
theorem copyB_lt {back : Nat} : ∀ {k : Nat} {o : List Nat}, (∀ x ∈ o, x < 256) → ∀ x ∈ copyB o back k, x < 256
  | 0, _, h => h
  | k + 1, o, h => by
    rw [copyB]
    refine copyB_lt fun x hx => ?_
    rcases List.mem_append.1 hx with hx | hx
    · exact h x hx
    · have e : x = o.getD (o.length - back) 0 := by simpa using hx
      rw [e, List.getD_eq_getElem?_getD]
      rcases Nat.lt_or_ge (o.length - back) o.length with hl | hl
      · rw [List.getElem?_eq_getElem hl]; exact h _ (List.getElem_mem hl)
      · rw [List.getElem?_eq_none hl]; decide
theorem copyB_next (back : Nat) : ∀ (k : Nat) (o : List Nat), copyB o back (k + 1) = copyB o back k ++ [(copyB o back k).getD ((copyB o back k).length - back) 0]
  | 0, o => rfl
  | k + 1, o => by rw [copyB, copyB_next back k]; rfl

/-- The steps of a sequence, one by one. -/
theorem unp_nil (n f : Nat) (o : List Nat) : unp n f [] o = ([], 2) := by cases f <;> rfl
section
variable {n f t lits : Nat} {r q o : List Nat}
theorem unp_none (h : added r (t / 16) = none) : unp n (f + 1) (t :: r) o = ([], 2) := by
  unfold unp; rw [h]
theorem unp_short (h : added r (t / 16) = some (lits, q)) (h2 : q.length < lits) : unp n (f + 1) (t :: r) o = ([], 2) := by
  unfold unp; rw [h]; simp only; rw [if_pos h2]
theorem unp_last (h : added r (t / 16) = some (lits, q)) (h2 : q.length = lits) : unp n (f + 1) (t :: r) o = if n - o.length < lits then ([], 3) else if o.length + lits < n then ([], 2) else (o ++ q, 0) := by
  subst h2
  unfold unp; rw [h]; simp only
  rw [if_neg (by omega), List.drop_length, List.take_length, List.length_append]
theorem unp_one (h : added r (t / 16) = some (lits, q)) (h2 : q.length = lits + 1) : unp n (f + 1) (t :: r) o = ([], 2) := by
  unfold unp; rw [h]; simp only
  rw [if_neg (by omega)]
  have : (q.drop lits).length = 1 := by rw [List.length_drop]; omega
  match hq : q.drop lits, this with
  | [_], _ => rfl
theorem drop_two {k : Nat} (h : k + 2 ≤ q.length) : q.drop k = q.getD k 0 :: q.getD (k + 1) 0 :: q.drop (k + 2) := by
  rw [List.drop_eq_getElem_cons (by omega), List.drop_eq_getElem_cons (by omega)]
  simp [List.getD_eq_getElem?_getD, List.getElem?_eq_getElem (show k < q.length by omega), List.getElem?_eq_getElem (show k + 1 < q.length by omega)]
theorem unp_more_none (h : added r (t / 16) = some (lits, q)) (h2 : lits + 2 ≤ q.length) (h3 : added (q.drop (lits + 2)) (t % 16) = none) : unp n (f + 1) (t :: r) o = ([], 2) := by
  unfold unp; rw [h]; simp only
  rw [if_neg (by omega), drop_two h2]; simp only; rw [h3]
theorem unp_more {many : Nat} {q2 : List Nat} (h : added r (t / 16) = some (lits, q)) (h2 : lits + 2 ≤ q.length) (h3 : added (q.drop (lits + 2)) (t % 16) = some (many, q2)) :
    unp n (f + 1) (t :: r) o = if n - o.length < lits then ([], 3)
      else if q.getD lits 0 + q.getD (lits + 1) 0 * 256 = 0 ∨ o.length + lits < q.getD lits 0 + q.getD (lits + 1) 0 * 256 then ([], 4)
      else if n - (o.length + lits) < many + 4 then ([], 3)
      else unp n f q2 (copyB (o ++ q.take lits) (q.getD lits 0 + q.getD (lits + 1) 0 * 256) (many + 4)) := by
  have e : (o ++ q.take lits).length = o.length + lits := by rw [List.length_append, List.length_take, Nat.min_eq_left (by omega)]
  conv => lhs; unfold unp
  rw [h]; simp only
  rw [if_neg (by omega), drop_two h2]; simp only; rw [h3]
  simp only [e]
end

/-- The bytes that say a length: the part in the token, and what follows. -/
def nib (n : Nat) : Nat := min n 15
def ext (n : Nat) : List Nat := if n < 15 then [] else List.replicate ((n - 15) / 255) 255 ++ [(n - 15) % 255]
theorem go_ext : ∀ (k m n : Nat) (q : List Nat), m < 255 → go (List.replicate k 255 ++ (m :: q)) n = some (n + 255 * k + m, q)
  | 0, m, n, q, hm => by simp [go, hm]
  | k + 1, m, n, q, hm => by
    rw [List.replicate_succ, List.cons_append, go, if_neg (by decide), go_ext k m _ q hm]
    simp; omega
theorem added_ext (n : Nat) (q : List Nat) : added (ext n ++ q) (nib n) = some (n, q) := by
  unfold added ext nib
  by_cases h : n < 15
  · rw [if_pos (by omega), if_pos h, Nat.min_eq_left (by omega)]; rfl
  · rw [if_neg (by omega), if_neg h, Nat.min_eq_right (by omega), List.append_assoc, List.singleton_append, go_ext _ _ _ _ (Nat.mod_lt _ (by decide))]
    simp; omega
theorem ext_len (n : Nat) : (ext n).length = if n < 15 then 0 else (n - 15) / 255 + 1 := by
  unfold ext
  split <;> simp
theorem ext_lt {n : Nat} : ∀ x ∈ ext n, x < 256 := by
  intro x hx
  unfold ext at hx
  split at hx
  · cases hx
  · rcases List.mem_append.1 hx with h | h
    · rw [List.eq_of_mem_replicate h]; decide
    · have : x = (n - 15) % 255 := by simpa using h
      omega
/-- A sequence: literals, how far back, how many more than four. -/
structure Seq where
  lits : List Nat
  back : Nat
  many : Nat
def Seq.enc (s : Seq) : List Nat := (nib s.lits.length * 16 + nib s.many) :: (ext s.lits.length ++ (s.lits ++ (s.back % 256 :: s.back / 256 :: ext s.many)))
def Seq.run (s : Seq) (o : List Nat) : List Nat := copyB (o ++ s.lits) s.back (s.many + 4)
def encLast (l : List Nat) : List Nat := (nib l.length * 16) :: (ext l.length ++ l)
def enc : List Seq → List Nat → List Nat
  | [], l => encLast l
  | s :: ss, l => s.enc ++ enc ss l
def run : List Seq → List Nat → List Nat
  | [], o => o
  | s :: ss, o => run ss (s.run o)
/-- Each copy comes from behind what is there. -/
def good : List Seq → List Nat → Prop
  | [], _ => True
  | s :: ss, o => 0 < s.back ∧ s.back < 65536 ∧ s.back ≤ (o ++ s.lits).length ∧ good ss (s.run o)
theorem run_len : ∀ (ss : List Seq) (o : List Nat), o.length ≤ (run ss o).length
  | [], o => Nat.le_refl _
  | s :: ss, o => by
    have := run_len ss (s.run o)
    rw [run]
    unfold Seq.run at *
    rw [copyB_len, List.length_append] at this
    omega
theorem enc_pos (ss : List Seq) (l : List Nat) : 0 < (enc ss l).length := by
  cases ss <;> simp [enc, encLast, Seq.enc]
/-- What was written so is read so. -/
theorem unp_enc (n : Nat) : ∀ (ss : List Seq) (l o : List Nat) (f : Nat), good ss o → (run ss o ++ l).length = n → (enc ss l).length ≤ f → unp n f (enc ss l) o = (run ss o ++ l, 0)
  | [], l, o, f, _, hn, hf => by
    obtain ⟨f, rfl⟩ : ∃ g, f = g + 1 := ⟨f - 1, by have := enc_pos [] l; omega⟩
    have hn' : o.length + l.length = n := by rw [run, List.length_append] at hn; exact hn
    have e : nib l.length * 16 / 16 = nib l.length := by omega
    unfold enc encLast unp
    simp only [e, added_ext]
    rw [if_neg (by omega), List.drop_length, List.take_length]
    simp only
    rw [if_neg (by omega), if_neg (by rw [List.length_append]; omega)]
    rfl
  | s :: ss, l, o, f, hg, hn, hf => by
    obtain ⟨f, rfl⟩ : ∃ g, f = g + 1 := ⟨f - 1, by have := enc_pos (s :: ss) l; omega⟩
    obtain ⟨g1, g2, g3, g4⟩ := hg
    have hrl := run_len ss (s.run o)
    have hlen : (run ss (s.run o)).length ≤ n := by rw [run, List.length_append] at hn; omega
    have hsr : (s.run o).length = o.length + s.lits.length + (s.many + 4) := by unfold Seq.run; rw [copyB_len, List.length_append]
    have n15 : nib s.many < 16 := by unfold nib; omega
    have e1 : (nib s.lits.length * 16 + nib s.many) / 16 = nib s.lits.length := by omega
    have e2 : (nib s.lits.length * 16 + nib s.many) % 16 = nib s.many := by omega
    have e3 : s.back % 256 + s.back / 256 * 256 = s.back := by omega
    unfold enc Seq.enc
    rw [List.cons_append, unp]
    simp only [e1, e2]
    rw [List.append_assoc, added_ext]
    simp only [List.append_assoc, List.cons_append, List.drop_left, List.take_left]
    rw [if_neg (by simp), added_ext]
    simp only [e3]
    have hol : (o ++ s.lits).length = o.length + s.lits.length := List.length_append
    rw [if_neg (by omega), if_neg (by omega), if_neg (by omega)]
    refine unp_enc n ss l (s.run o) f g4 (by rw [run] at hn; exact hn) ?_
    unfold enc Seq.enc at hf
    simp only [List.cons_append, List.length_cons, List.length_append] at hf
    omega
/-- How long it is. -/
theorem ext_cost (n : Nat) : (ext n).length ≤ n / 255 + 1 ∧ (ext n).length ≤ n := by
  rw [ext_len]
  split <;> constructor <;> omega
theorem enc_len : ∀ (ss : List Seq) (l o : List Nat), (enc ss l).length + o.length ≤ (run ss o ++ l).length + ((run ss o ++ l).length - o.length) / 255 + 2
  | [], l, o => by
    have := (ext_cost l.length).1
    simp only [enc, encLast, run, List.length_cons, List.length_append]
    have e : o.length + l.length - o.length = l.length := by omega
    rw [e]
    omega
  | s :: ss, l, o => by
    have ih := enc_len ss l (s.run o)
    have hrl := run_len ss (s.run o)
    have hsr : (s.run o).length = o.length + s.lits.length + (s.many + 4) := by unfold Seq.run; rw [copyB_len, List.length_append]
    have c1 := ext_cost s.lits.length
    have c2 := ext_cost s.many
    rw [enc, run, List.length_append]
    have hse : s.enc.length = 3 + (ext s.lits.length).length + s.lits.length + (ext s.many).length := by
      unfold Seq.enc
      simp only [List.length_cons, List.length_append]
      omega
    generalize hR : (run ss (s.run o) ++ l).length = R at *
    have hRo : (s.run o).length ≤ R := by rw [← hR, List.length_append]; omega
    rw [hse]
    have hd : (R - (s.run o).length) / 255 + s.lits.length / 255 ≤ (R - o.length) / 255 := by omega
    omega
theorem enc_most {ss : List Seq} {l : List Nat} : (enc ss l).length ≤ (run ss [] ++ l).length + (run ss [] ++ l).length / 255 + 16 := by
  have := enc_len ss l []
  simp only [List.length_nil, Nat.add_zero, Nat.sub_zero] at this
  omega
/-- What Unpack reads as l: literals alone. -/
theorem unpack_plain (l : List Nat) (h : l.length ≤ 4096) : unpack (encLast l) l.length = (l, 0) := by
  unfold unpack
  rw [if_neg (by omega), Int.toNat_natCast]
  have := unp_enc l.length [] l [] (encLast l).length trivial rfl (Nat.le_refl _)
  exact this
theorem unpack_enc (ss : List Seq) (l : List Nat) (hg : good ss []) (h : (run ss [] ++ l).length ≤ 4096) : unpack (enc ss l) (run ss [] ++ l).length = (run ss [] ++ l, 0) := by
  unfold unpack
  rw [if_neg (by omega), Int.toNat_natCast]
  exact unp_enc _ ss l [] _ hg rfl (Nat.le_refl _)
end Go.Proofs.Ytpfhkbagapodoaa.Lz
