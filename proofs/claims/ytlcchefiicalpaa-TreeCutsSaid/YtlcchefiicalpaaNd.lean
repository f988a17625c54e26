/- Nodes of the tree and their bytes (plain Lean, no program). -/
import Derived.Test.YtlcchefiicalpaaVint
namespace Go.Proofs.Ytlcchefiicalpaa.Nd
open Vint

abbrev T3 := Int × Int × Int
/-- A node: height, keys, places (first block, blocks, slot), generations, children (first block, blocks, generation). -/
structure N where
  h : Int
  ks : List Int
  ps : List T3
  gs : List Int
  cs : List T3
def zero : N := ⟨0, [], [], [], []⟩
def RunOk (a n : Int) : Prop := 0 ≤ a ∧ a < 8192 ∧ 1 ≤ n ∧ n ≤ 128 ∧ n ≤ 8192 - a
def GenOk (g : Int) : Prop := 0 ≤ g ∧ g < 268435456
def PlaceOk (p : T3) (g : Int) : Prop := RunOk p.1 p.2.1 ∧ 0 ≤ p.2.2 ∧ p.2.2 < 8 ∧ GenOk g
def KidOk (c : T3) : Prop := RunOk c.1 c.2.1 ∧ GenOk c.2.2
def t3 (l : List T3) (i : Nat) : T3 := l.getD i (0, 0, 0)
def at_ (l : List Int) (i : Nat) : Int := l.getD i 0
/-- What a node must be. -/
structure Ok (n : N) : Prop where
  h0 : 0 ≤ n.h
  h6 : n.h < 6
  few : n.ks.length ≤ 8
  key : ∀ i, i < n.ks.length → 0 ≤ at_ n.ks i ∧ at_ n.ks i < 512
  asc : ∀ i, i + 1 < n.ks.length → at_ n.ks i < at_ n.ks (i + 1)
  leaf : n.h = 0 → n.ps.length = n.ks.length ∧ n.gs.length = n.ks.length ∧ n.cs = [] ∧ ∀ i, i < n.ks.length → PlaceOk (t3 n.ps i) (at_ n.gs i)
  inner : n.h ≠ 0 → n.cs.length = n.ks.length ∧ 1 ≤ n.ks.length ∧ n.ps = [] ∧ n.gs = [] ∧ ∀ i, i < n.ks.length → KidOk (t3 n.cs i)
/-- Numbers as bytes. -/
def putL (l : List Nat) : List Nat := l.flatMap vint
theorem putL_cons (x : Nat) (l : List Nat) : putL (x :: l) = vint x ++ putL l := rfl
theorem putL_app (l m : List Nat) : putL (l ++ m) = putL l ++ putL m := List.flatMap_append
theorem putL_byte (l : List Nat) : ∀ x ∈ putL l, x < 256 := fun x hx => by
  obtain ⟨y, _, hy⟩ := List.mem_flatMap.1 hx
  exact vint_byte y x hy
/-- The numbers of the entry at i. -/
def entry (n : N) (i : Nat) : List Nat := if n.h = 0 then [(at_ n.ks i).toNat, (t3 n.ps i).1.toNat, (t3 n.ps i).2.1.toNat, (t3 n.ps i).2.2.toNat, (at_ n.gs i).toNat] else [(at_ n.ks i).toNat, (t3 n.cs i).1.toNat, (t3 n.cs i).2.1.toNat, (t3 n.cs i).2.2.toNat]
def entries (n : N) (k : Nat) : List Nat := (List.range k).flatMap (entry n)
theorem entries_next (n : N) (k : Nat) : entries n (k + 1) = entries n k ++ entry n k := by
  unfold entries
  rw [List.range_succ, List.flatMap_append, List.flatMap_cons, List.flatMap_nil, List.append_nil]
def nums (n : N) : List Nat := n.h.toNat :: n.ks.length :: entries n n.ks.length
def enc (n : N) : List Nat := putL (nums n)

/-- m numbers read one behind another: them and the rest, or the error. -/
def rds : Nat → List Nat → Except Nat (List Nat × List Nat)
  | 0, s => .ok ([], s)
  | m + 1, s => if (num s).2.2 = 0 then (match rds m (s.drop (num s).2.1) with | .ok (xs, t) => .ok ((num s).1 :: xs, t) | .error e => .error e) else .error (num s).2.2
theorem rds_app : ∀ (m k : Nat) (s : List Nat), rds (m + k) s = (match rds m s with | .ok (xs, t) => (match rds k t with | .ok (ys, u) => .ok (xs ++ ys, u) | .error e => .error e) | .error e => .error e)
  | 0, k, s => by
    rw [Nat.zero_add, rds]
    show rds k s = (match rds k s with | .ok (ys, u) => .ok ([] ++ ys, u) | .error e => .error e)
    cases h : rds k s with
    | error e => rfl
    | ok r => rfl
  | m + 1, k, s => by
    rw [show m + 1 + k = (m + k) + 1 by omega, rds, rds]
    by_cases h : (num s).2.2 = 0
    · rw [if_pos h, if_pos h, rds_app m k]
      cases h1 : rds m (s.drop (num s).2.1) with
      | error e => rfl
      | ok r =>
        obtain ⟨xs, t⟩ := r
        dsimp only
        cases h2 : rds k t with
        | error e => rfl
        | ok r2 => rfl
    · rw [if_neg h, if_neg h]
theorem rds_len : ∀ {m : Nat} {s xs t : List Nat}, rds m s = .ok (xs, t) → xs.length = m ∧ (∀ x ∈ xs, x < 268435456) ∧ t.length ≤ s.length
  | 0, s, xs, t, h => by
    rw [rds] at h
    injection h with h
    injection h with h1 h2
    subst h1; subst h2
    exact ⟨rfl, by simp, Nat.le_refl _⟩
  | m + 1, s, xs, t, h => by
    rw [rds] at h
    by_cases h0 : (num s).2.2 = 0
    · rw [if_pos h0] at h
      cases h1 : rds m (s.drop (num s).2.1) with
      | error e => rw [h1] at h; cases h
      | ok r =>
        obtain ⟨ys, u⟩ := r
        rw [h1] at h
        injection h with h
        injection h with h2 h3
        subst h2; subst h3
        obtain ⟨i1, i2, i3⟩ := rds_len h1
        refine ⟨by rw [List.length_cons, i1], fun x hx => ?_, ?_⟩
        · rcases List.mem_cons.1 hx with rfl | hx
          · exact num_lt s
          · exact i2 x hx
        · rw [List.length_drop] at i3; omega
    · rw [if_neg h0] at h; cases h
theorem rds_err : ∀ {m : Nat} {s : List Nat} {e : Nat}, rds m s = .error e → e = 2 ∨ e = 4
  | 0, s, e, h => by rw [rds] at h; cases h
  | m + 1, s, e, h => by
    rw [rds] at h
    by_cases h0 : (num s).2.2 = 0
    · rw [if_pos h0] at h
      cases h1 : rds m (s.drop (num s).2.1) with
      | error e' => rw [h1] at h; injection h with h; subst h; exact rds_err h1
      | ok r => rw [h1] at h; cases h
    · rw [if_neg h0] at h
      injection h with h
      subst h
      have := numF_code (r := 4) (k := 0) (x := 0) (l := s)
      unfold num at h0 ⊢
      omega
/-- What was put is read. -/
theorem rds_put : ∀ (xs t : List Nat), (∀ x ∈ xs, x < 268435456) → rds xs.length (putL xs ++ t) = .ok (xs, t)
  | [], t, _ => rfl
  | x :: xs, t, h => by
    rw [List.length_cons, rds, putL_cons, List.append_assoc, num_vint _ (h x (List.mem_cons_self ..))]
    dsimp only
    rw [if_pos rfl, List.drop_left, rds_put xs t fun y hy => h y (List.mem_cons_of_mem _ hy)]
/-- A number cut short. -/
theorem numF_cut : ∀ {r k x y : Nat} (j : Nat), y < 2 ^ (7 * r) → 0 < r → (0 < k → 0 < y) → j < (vint y).length → numF r k x ((vint y).take j) = (0, 0, 2)
  | r + 1, k, x, y, 0, _, _, _, _ => by rw [List.take_zero, numF]
  | r + 1, k, x, y, j + 1, hy, _, hk, hj => by
    by_cases h : y < 128
    · rw [vint_low h] at hj; simp at hj
    · rw [vint_high (by omega)] at hj ⊢
      rw [List.take_succ_cons, numF, if_pos (by omega)]
      rw [List.length_cons] at hj
      have hr : 0 < r := by
        rcases Nat.eq_zero_or_pos r with h0 | h0
        · subst h0; simp at hy; omega
        · exact h0
      exact numF_cut j (by
        rw [show 7 * (r + 1) = 7 * r + 7 by omega, Nat.pow_add] at hy
        omega) hr (fun _ => by omega) (by omega)
theorem num_cut {y j : Nat} (h : y < 268435456) (hj : j < (vint y).length) : num ((vint y).take j) = (0, 0, 2) := numF_cut j h (by decide) (fun h => absurd h (by decide)) hj
theorem rds_cut : ∀ (xs : List Nat) (j : Nat), (∀ x ∈ xs, x < 268435456) → j < (putL xs).length → rds xs.length ((putL xs).take j) = .error 2
  | [], j, _, hj => by simp [putL] at hj
  | x :: xs, j, h, hj => by
    have hx := h x (List.mem_cons_self ..)
    rw [List.length_cons, rds, putL_cons]
    rcases Nat.lt_or_ge j (vint x).length with c | c
    · rw [List.take_append_of_le_length (by omega), num_cut hx c]
      rfl
    · rw [List.take_append, List.take_of_length_le c, num_vint _ hx]
      dsimp only
      rw [if_pos rfl, List.drop_left, rds_cut xs _ (fun y hy => h y (List.mem_cons_of_mem _ hy)) (by rw [putL_cons, List.length_append] at hj; omega)]
/-- What is read is what would have been put. -/
theorem numF_inv : ∀ {r k x : Nat} {s : List Nat}, (∀ b ∈ s, b < 256) → (numF r k x s).2.2 = 0 → ∃ y : Nat, y < 2 ^ (7 * r) ∧ (0 < k → 0 < y) ∧ (numF r k x s).1 = x + y * 2 ^ (7 * k) ∧ (numF r k x s).2.1 = k + (vint y).length ∧ s.take (vint y).length = vint y
  | 0, k, x, s, _, h => by rw [numF] at h; cases h
  | r + 1, k, x, [], _, h => by rw [numF] at h; cases h
  | r + 1, k, x, d :: s, hb, h => by
    rw [numF] at h ⊢
    by_cases c : 128 ≤ d
    · rw [if_pos c] at h ⊢
      obtain ⟨y, y1, y2, y3, y4, y5⟩ := numF_inv (fun b hm => hb b (List.mem_cons_of_mem _ hm)) h
      have hy0 := y2 (by omega)
      have hd := hb d (List.mem_cons_self ..)
      have hv : vint (d % 128 + 128 * y) = d :: vint y := by
        rw [vint_high (by omega), show (d % 128 + 128 * y) % 128 + 128 = d by omega, show (d % 128 + 128 * y) / 128 = y by omega]
      refine ⟨d % 128 + 128 * y, ?_, fun _ => by omega, ?_, ?_, ?_⟩
      · rw [show 7 * (r + 1) = 7 * r + 7 by omega, Nat.pow_add]
        omega
      · rw [y3, show 7 * (k + 1) = 7 * k + 7 by omega, Nat.pow_add, Nat.add_mul]
        have : y * (2 ^ (7 * k) * 2 ^ 7) = 128 * y * 2 ^ (7 * k) := by
          rw [show (2 : Nat) ^ 7 = 128 from rfl, Nat.mul_comm (2 ^ (7 * k)) 128, ← Nat.mul_assoc, Nat.mul_comm y 128]
        omega
      · rw [y4, hv, List.length_cons]; omega
      · rw [hv, List.length_cons, List.take_succ_cons, y5]
    · rw [if_neg c] at h ⊢
      by_cases c2 : d = 0 ∧ 0 < k
      · rw [if_pos c2] at h; cases h
      · rw [if_neg c2]
        refine ⟨d, ?_, fun hk => by omega, ?_, ?_, ?_⟩
        · have : 128 ≤ 2 ^ (7 * (r + 1)) := by rw [show 7 * (r + 1) = 7 * r + 7 by omega, Nat.pow_add]; exact Nat.le_mul_of_pos_left _ (Nat.pow_pos (by decide))
          omega
        · show x + d % 128 * 2 ^ (7 * k) = _
          rw [Nat.mod_eq_of_lt (by omega)]
        · rw [vint_low (by omega)]; rfl
        · rw [vint_low (by omega)]; rfl
theorem num_inv {s : List Nat} (hb : ∀ b ∈ s, b < 256) (h : (num s).2.2 = 0) : s = vint (num s).1 ++ s.drop (num s).2.1 := by
  obtain ⟨y, _, _, y3, y4, y5⟩ := numF_inv (r := 4) (k := 0) (x := 0) hb h
  have e1 : (num s).1 = y := by unfold num; rw [y3]; simp
  have e2 : (num s).2.1 = (vint y).length := by unfold num; rw [y4]; simp
  rw [e1, e2]
  conv => lhs; rw [← List.take_append_drop (vint y).length s]
  rw [y5]
theorem rds_inv : ∀ {m : Nat} {s xs t : List Nat}, (∀ b ∈ s, b < 256) → rds m s = .ok (xs, t) → s = putL xs ++ t
  | 0, s, xs, t, _, h => by
    rw [rds] at h
    injection h with h
    injection h with h1 h2
    subst h1; subst h2
    rfl
  | m + 1, s, xs, t, hb, h => by
    rw [rds] at h
    by_cases h0 : (num s).2.2 = 0
    · rw [if_pos h0] at h
      cases h1 : rds m (s.drop (num s).2.1) with
      | error e => rw [h1] at h; cases h
      | ok r =>
        obtain ⟨ys, u⟩ := r
        rw [h1] at h
        injection h with h
        injection h with h2 h3
        subst h2; subst h3
        have := rds_inv (fun b hm => hb b (List.mem_of_mem_drop hm)) h1
        rw [putL_cons, List.append_assoc, ← this]
        exact num_inv hb h0
    · rw [if_neg h0] at h; cases h

/-- Entries out of numbers: one, then all. -/
def width (h : Nat) : Nat := if h = 0 then 5 else 4
/-- One entry more. -/
def more (n : N) (xs : List Nat) : N :=
  if n.h = 0 then { n with ks := n.ks ++ [(xs.getD 0 0 : Int)], ps := n.ps ++ [((xs.getD 1 0 : Int), (xs.getD 2 0 : Int), (xs.getD 3 0 : Int))], gs := n.gs ++ [(xs.getD 4 0 : Int)] }
  else { n with ks := n.ks ++ [(xs.getD 0 0 : Int)], cs := n.cs ++ [((xs.getD 1 0 : Int), (xs.getD 2 0 : Int), (xs.getD 3 0 : Int))] }
/-- k entries read: the node, and the rest, or the error. -/
def ents (h : Nat) : Nat → List Nat → Except Nat (N × List Nat)
  | 0, s => .ok (⟨(h : Int), [], [], [], []⟩, s)
  | k + 1, s => match ents h k s with
    | .error e => .error e
    | .ok (n, t) => match rds (width h) t with
      | .error e => .error e
      | .ok (xs, u) => .ok (more n xs, u)
open Classical in
/-- What bytes say. -/
noncomputable def dec (b : List Nat) : N × Nat :=
  match rds 1 b with
  | .error e => (zero, e)
  | .ok (hs, s) => match rds 1 s with
    | .error e => (zero, e)
    | .ok (ms, t) =>
      if 8 < ms.getD 0 0 then (zero, 4) else
      match ents (hs.getD 0 0) (ms.getD 0 0) t with
      | .error e => (zero, e)
      | .ok (n, u) => if u ≠ [] then (zero, 3) else if Ok n then (n, 0) else (zero, 4)
end Go.Proofs.Ytlcchefiicalpaa.Nd
