/- The format of a block: what its bytes say (plain Lean, no program). The document's Unpack: its lengths. The document's Unpack. The document's Unpack, walked. The document's Unpack at any length asked, and its Plain. What the program's Unpack, Pack and Most are held to (as hypotheses, to be met by its walks); the statements' own check that the program is awake; LzReads. -/
import Derived.ProofKit
import Derived.Test.YtnkgcibdibgmjaaBy
import Derived.Laws.Small
namespace Go.Proofs.Ytnkgcibdibgmjaa.Lz

/-- A length that goes on by bytes: the length and what is left; none: the bytes end. -/
def go : List Nat → Nat → Option (Nat × List Nat)
  | [], _ => none
  | x :: r, n => if x < 255 then some (n + x, r) else go r (n + x)
def added (r : List Nat) (n : Nat) : Option (Nat × List Nat) := if n < 15 then some (n, r) else go r n
/-- k bytes, each from so many back. -/
def copyB (o : List Nat) (back : Nat) : Nat → List Nat
  | 0 => o
  | k + 1 => copyB (o ++ [o.getD (o.length - back) 0]) back k
/-- What is left of a block, behind what it gave: the bytes and the error (0: none). -/
def unp (n : Nat) : Nat → List Nat → List Nat → List Nat × Nat
  | 0, _, _ => ([], 2)
  | _ + 1, [], _ => ([], 2)
  | f + 1, t :: r, out =>
    match added r (t / 16) with
    | none => ([], 2)
    | some (lits, r1) =>
      if r1.length < lits then ([], 2) else
      match r1.drop lits with
      | [] => if n - out.length < lits then ([], 3) else if (out ++ r1.take lits).length < n then ([], 2) else (out ++ r1.take lits, 0)
      | [_] => ([], 2)
      | b0 :: b1 :: r3 =>
        match added r3 (t % 16) with
        | none => ([], 2)
        | some (many, r4) =>
          if n - out.length < lits then ([], 3)
          else if b0 + b1 * 256 = 0 ∨ (out ++ r1.take lits).length < b0 + b1 * 256 then ([], 4)
          else if n - (out ++ r1.take lits).length < many + 4 then ([], 3)
          else unp n f r4 (copyB (out ++ r1.take lits) (b0 + b1 * 256) (many + 4))
/-- Unpack. -/
def unpack (l : List Nat) (n : Int) : List Nat × Nat := if n < 0 ∨ 4096 < n then ([], 1) else unp n.toNat l.length l []

theorem go_len : ∀ {r : List Nat} {n m : Nat} {q : List Nat}, go r n = some (m, q) → q.length < r.length ∧ n ≤ m ∧ q = r.drop (r.length - q.length)
  | [], _, _, _, h => by simp [go] at h
  | x :: r, n, m, q, h => by
    unfold go at h
    by_cases hx : x < 255
    · rw [if_pos hx] at h
      simp only [Option.some.injEq, Prod.mk.injEq] at h
      obtain ⟨rfl, rfl⟩ := h
      refine ⟨by simp, by omega, ?_⟩
      rw [List.length_cons, Nat.add_sub_cancel_left]
      rfl
    · rw [if_neg hx] at h
      obtain ⟨h1, h2, h3⟩ := go_len h
      refine ⟨by simp; omega, by omega, ?_⟩
      have e : (x :: r).length - q.length = (r.length - q.length) + 1 := by rw [List.length_cons]; omega
      rw [e, List.drop_succ_cons]
      exact h3
theorem added_len {r : List Nat} {n m : Nat} {q : List Nat} (h : added r n = some (m, q)) : q.length ≤ r.length ∧ n ≤ m ∧ q = r.drop (r.length - q.length) := by
  unfold added at h
  by_cases hn : n < 15
  · rw [if_pos hn] at h
    simp only [Option.some.injEq, Prod.mk.injEq] at h
    obtain ⟨rfl, rfl⟩ := h
    simp
  · rw [if_neg hn] at h
    obtain ⟨h1, h2, h3⟩ := go_len h
    exact ⟨by omega, h2, h3⟩
theorem go_bound : ∀ {r : List Nat} {n m : Nat} {q : List Nat}, (∀ x ∈ r, x < 256) → go r n = some (m, q) → m ≤ n + 255 * r.length
  | [], _, _, _, _, h => by simp [go] at h
  | x :: r, n, m, q, hr, h => by
    unfold go at h
    have hx := hr x (List.mem_cons_self ..)
    by_cases h255 : x < 255
    · rw [if_pos h255] at h
      simp only [Option.some.injEq, Prod.mk.injEq] at h
      rw [List.length_cons]
      omega
    · rw [if_neg h255] at h
      have := go_bound (fun y hy => hr y (List.mem_cons_of_mem _ hy)) h
      rw [List.length_cons]
      omega
theorem added_bound {r : List Nat} {n m : Nat} {q : List Nat} (hr : ∀ x ∈ r, x < 256) (h : added r n = some (m, q)) : m ≤ n + 255 * r.length := by
  unfold added at h
  by_cases hn : n < 15
  · rw [if_pos hn] at h
    simp only [Option.some.injEq, Prod.mk.injEq] at h
    omega
  · rw [if_neg hn] at h; exact go_bound hr h
theorem copyB_len (back : Nat) : ∀ (k : Nat) (o : List Nat), (copyB o back k).length = o.length + k
  | 0, o => rfl
  | k + 1, o => by rw [copyB, copyB_len back k, List.length_append, List.length_singleton]; omega
theorem copyB_lt {back : Nat} : ∀ {k : Nat} {o : List Nat}, (∀ x ∈ o, x < 256) → ∀ x ∈ copyB o back k, x < 256
  | 0, _, h => h
  | k + 1, o, h => by
    rw [copyB]
    refine copyB_lt fun x hx => ?_
    rcases List.mem_append.1 hx with hx | hx
    · exact h x hx
    · have e : x = o.getD (o.length - back) 0 := by simpa using hx
      rw [e, List.getD_eq_getElem?_getD]
      rcases Nat.lt_or_ge (o.length - back) o.length with hl | hl
      · rw [List.getElem?_eq_getElem hl]; exact h _ (List.getElem_mem hl)
      · rw [List.getElem?_eq_none hl]; decide
theorem copyB_next (back : Nat) : ∀ (k : Nat) (o : List Nat), copyB o back (k + 1) = copyB o back k ++ [(copyB o back k).getD ((copyB o back k).length - back) 0]
  | 0, o => rfl
  | k + 1, o => by rw [copyB, copyB_next back k]; rfl

/-- The steps of a sequence, one by one. -/
theorem unp_nil (n f : Nat) (o : List Nat) : unp n f [] o = ([], 2) := by cases f <;> rfl
section
variable {n f t lits : Nat} {r q o : List Nat}
theorem unp_none (h : added r (t / 16) = none) : unp n (f + 1) (t :: r) o = ([], 2) := by
  unfold unp; rw [h]
theorem unp_short (h : added r (t / 16) = some (lits, q)) (h2 : q.length < lits) : unp n (f + 1) (t :: r) o = ([], 2) := by
  unfold unp; rw [h]; simp only; rw [if_pos h2]
theorem unp_last (h : added r (t / 16) = some (lits, q)) (h2 : q.length = lits) : unp n (f + 1) (t :: r) o = if n - o.length < lits then ([], 3) else if o.length + lits < n then ([], 2) else (o ++ q, 0) := by
  subst h2
  unfold unp; rw [h]; simp only
  rw [if_neg (by omega), List.drop_length, List.take_length, List.length_append]
theorem unp_one (h : added r (t / 16) = some (lits, q)) (h2 : q.length = lits + 1) : unp n (f + 1) (t :: r) o = ([], 2) := by
  unfold unp; rw [h]; simp only
  rw [if_neg (by omega)]
  have : (q.drop lits).length = 1 := by rw [List.length_drop]; omega
  match hq : q.drop lits, this with
  | [_], _ => rfl
theorem drop_two {k : Nat} (h : k + 2 ≤ q.length) : q.drop k = q.getD k 0 :: q.getD (k + 1) 0 :: q.drop (k + 2) := by
  rw [List.drop_eq_getElem_cons (by omega), List.drop_eq_getElem_cons (by omega)]
  simp [List.getD_eq_getElem?_getD, List.getElem?_eq_getElem (show k < q.length by omega), List.getElem?_eq_getElem (show k + 1 < q.length by omega)]
theorem unp_more_none (h : added r (t / 16) = some (lits, q)) (h2 : lits + 2 ≤ q.length) (h3 : added (q.drop (lits + 2)) (t % 16) = none) : unp n (f + 1) (t :: r) o = ([], 2) := by
  unfold unp; rw [h]; simp only
  rw [if_neg (by omega), drop_two h2]; simp only; rw [h3]
theorem unp_more {many : Nat} {q2 : List Nat} (h : added r (t / 16) = some (lits, q)) (h2 : lits + 2 ≤ q.length) (h3 : added (q.drop (lits + 2)) (t % 16) = some (many, q2)) :
    unp n (f + 1) (t :: r) o = if n - o.length < lits then ([], 3)
      else if q.getD lits 0 + q.getD (lits + 1) 0 * 256 = 0 ∨ o.length + lits < q.getD lits 0 + q.getD (lits + 1) 0 * 256 then ([], 4)
      else if n - (o.length + lits) < many + 4 then ([], 3)
      else unp n f q2 (copyB (o ++ q.take lits) (q.getD lits 0 + q.getD (lits + 1) 0 * 256) (many + 4)) := by
  have e : (o ++ q.take lits).length = o.length + lits := by rw [List.length_append, List.length_take, Nat.min_eq_left (by omega)]
  conv => lhs; unfold unp
  rw [h]; simp only
  rw [if_neg (by omega), drop_two h2]; simp only; rw [h3]
  simp only [e]
end

/-- The bytes that say a length: the part in the token, and what follows. -/
def nib (n : Nat) : Nat := min n 15
def ext (n : Nat) : List Nat := if n < 15 then [] else List.replicate ((n - 15) / 255) 255 ++ [(n - 15) % 255]
theorem go_ext : ∀ (k m n : Nat) (q : List Nat), m < 255 → go (List.replicate k 255 ++ (m :: q)) n = some (n + 255 * k + m, q)
  | 0, m, n, q, hm => by simp [go, hm]
  | k + 1, m, n, q, hm => by
    rw [List.replicate_succ, List.cons_append, go, if_neg (by decide), go_ext k m _ q hm]
    simp; omega
theorem added_ext (n : Nat) (q : List Nat) : added (ext n ++ q) (nib n) = some (n, q) := by
  unfold added ext nib
  by_cases h : n < 15
  · rw [if_pos (by omega), if_pos h, Nat.min_eq_left (by omega)]; rfl
  · rw [if_neg (by omega), if_neg h, Nat.min_eq_right (by omega), List.append_assoc, List.singleton_append, go_ext _ _ _ _ (Nat.mod_lt _ (by decide))]
    simp; omega
theorem ext_len (n : Nat) : (ext n).length = if n < 15 then 0 else (n - 15) / 255 + 1 := by
  unfold ext
  split <;> simp
theorem ext_lt {n : Nat} : ∀ x ∈ ext n, x < 256 := by
  intro x hx
  unfold ext at hx
  split at hx
  · cases hx
  · rcases List.mem_append.1 hx with h | h
    · rw [List.eq_of_mem_replicate h]; decide
    · have : x = (n - 15) % 255 := by simpa using h
      omega
/-- A sequence: literals, how far back, how many more than four. -/
structure Seq where
  lits : List Nat
  back : Nat
  many : Nat
def Seq.enc (s : Seq) : List Nat := (nib s.lits.length * 16 + nib s.many) :: (ext s.lits.length ++ (s.lits ++ (s.back % 256 :: s.back / 256 :: ext s.many)))
def Seq.run (s : Seq) (o : List Nat) : List Nat := copyB (o ++ s.lits) s.back (s.many + 4)
def encLast (l : List Nat) : List Nat := (nib l.length * 16) :: (ext l.length ++ l)
def enc : List Seq → List Nat → List Nat
  | [], l => encLast l
  | s :: ss, l => s.enc ++ enc ss l
def run : List Seq → List Nat → List Nat
  | [], o => o
  | s :: ss, o => run ss (s.run o)
/-- Each copy comes from behind what is there. -/
def good : List Seq → List Nat → Prop
  | [], _ => True
  | s :: ss, o => 0 < s.back ∧ s.back < 65536 ∧ s.back ≤ (o ++ s.lits).length ∧ good ss (s.run o)
theorem run_len : ∀ (ss : List Seq) (o : List Nat), o.length ≤ (run ss o).length
  | [], o => Nat.le_refl _
  | s :: ss, o => by
    have := run_len ss (s.run o)
    rw [run]
    unfold Seq.run at *
    rw [copyB_len, List.length_append] at this
    omega
theorem enc_pos (ss : List Seq) (l : List Nat) : 0 < (enc ss l).length := by
  cases ss <;> simp [enc, encLast, Seq.enc]
/-- What was written so is read so. -/
theorem unp_enc (n : Nat) : ∀ (ss : List Seq) (l o : List Nat) (f : Nat), good ss o → (run ss o ++ l).length = n → (enc ss l).length ≤ f → unp n f (enc ss l) o = (run ss o ++ l, 0)
  | [], l, o, f, _, hn, hf => by
    obtain ⟨f, rfl⟩ : ∃ g, f = g + 1 := ⟨f - 1, by have := enc_pos [] l; omega⟩
    have hn' : o.length + l.length = n := by rw [run, List.length_append] at hn; exact hn
    have e : nib l.length * 16 / 16 = nib l.length := by omega
    unfold enc encLast unp
    simp only [e, added_ext]
    rw [if_neg (by omega), List.drop_length, List.take_length]
    simp only
    rw [if_neg (by omega), if_neg (by rw [List.length_append]; omega)]
    rfl
  | s :: ss, l, o, f, hg, hn, hf => by
    obtain ⟨f, rfl⟩ : ∃ g, f = g + 1 := ⟨f - 1, by have := enc_pos (s :: ss) l; omega⟩
    obtain ⟨g1, g2, g3, g4⟩ := hg
    have hrl := run_len ss (s.run o)
    have hlen : (run ss (s.run o)).length ≤ n := by rw [run, List.length_append] at hn; omega
    have hsr : (s.run o).length = o.length + s.lits.length + (s.many + 4) := by unfold Seq.run; rw [copyB_len, List.length_append]
    have n15 : nib s.many < 16 := by unfold nib; omega
    have e1 : (nib s.lits.length * 16 + nib s.many) / 16 = nib s.lits.length := by omega
    have e2 : (nib s.lits.length * 16 + nib s.many) % 16 = nib s.many := by omega
    have e3 : s.back % 256 + s.back / 256 * 256 = s.back := by omega
    unfold enc Seq.enc
    rw [List.cons_append, unp]
    simp only [e1, e2]
    rw [List.append_assoc, added_ext]
    simp only [List.append_assoc, List.cons_append, List.drop_left, List.take_left]
    rw [if_neg (by simp), added_ext]
    simp only [e3]
    have hol : (o ++ s.lits).length = o.length + s.lits.length := List.length_append
    rw [if_neg (by omega), if_neg (by omega), if_neg (by omega)]
    refine unp_enc n ss l (s.run o) f g4 (by rw [run] at hn; exact hn) ?_
    unfold enc Seq.enc at hf
    simp only [List.cons_append, List.length_cons, List.length_append] at hf
    omega
/-- How long it is. -/
theorem ext_cost (n : Nat) : (ext n).length ≤ n / 255 + 1 ∧ (ext n).length ≤ n := by
  rw [ext_len]
  split <;> constructor <;> omega
theorem enc_len : ∀ (ss : List Seq) (l o : List Nat), (enc ss l).length + o.length ≤ (run ss o ++ l).length + ((run ss o ++ l).length - o.length) / 255 + 2
  | [], l, o => by
    have := (ext_cost l.length).1
    simp only [enc, encLast, run, List.length_cons, List.length_append]
    have e : o.length + l.length - o.length = l.length := by omega
    rw [e]
    omega
  | s :: ss, l, o => by
    have ih := enc_len ss l (s.run o)
    have hrl := run_len ss (s.run o)
    have hsr : (s.run o).length = o.length + s.lits.length + (s.many + 4) := by unfold Seq.run; rw [copyB_len, List.length_append]
    have c1 := ext_cost s.lits.length
    have c2 := ext_cost s.many
    rw [enc, run, List.length_append]
    have hse : s.enc.length = 3 + (ext s.lits.length).length + s.lits.length + (ext s.many).length := by
      unfold Seq.enc
      simp only [List.length_cons, List.length_append]
      omega
    generalize hR : (run ss (s.run o) ++ l).length = R at *
    have hRo : (s.run o).length ≤ R := by rw [← hR, List.length_append]; omega
    rw [hse]
    have hd : (R - (s.run o).length) / 255 + s.lits.length / 255 ≤ (R - o.length) / 255 := by omega
    omega
theorem enc_most {ss : List Seq} {l : List Nat} : (enc ss l).length ≤ (run ss [] ++ l).length + (run ss [] ++ l).length / 255 + 16 := by
  have := enc_len ss l []
  simp only [List.length_nil, Nat.add_zero, Nat.sub_zero] at this
  omega
/-- What Unpack reads as l: literals alone. -/
theorem unpack_plain (l : List Nat) (h : l.length ≤ 4096) : unpack (encLast l) l.length = (l, 0) := by
  unfold unpack
  rw [if_neg (by omega), Int.toNat_natCast]
  have := unp_enc l.length [] l [] (encLast l).length trivial rfl (Nat.le_refl _)
  exact this
theorem unpack_enc (ss : List Seq) (l : List Nat) (hg : good ss []) (h : (run ss [] ++ l).length ≤ 4096) : unpack (enc ss l) (run ss [] ++ l).length = (run ss [] ++ l, 0) := by
  unfold unpack
  rw [if_neg (by omega), Int.toNat_natCast]
  exact unp_enc _ ss l [] _ hg rfl (Nat.le_refl _)
end Go.Proofs.Ytnkgcibdibgmjaa.Lz

namespace Go.Proofs.Ytnkgcibdibgmjaa
open Go.RowKit

/-- How added ends. -/
def AddedV (l : List Nat) (at_ n : Nat) : Value → Prop := fun v =>
  (Lz.added (l.drop at_) n = none ∧ ∃ z : Int, v = .tuple #[.int .i64 (-1), .int .i64 z]) ∨
  (∃ m q, Lz.added (l.drop at_) n = some (m, q) ∧ v = .tuple #[.int .i64 (m : Int), .int .i64 ((l.length - q.length : Nat) : Int)])
set_option maxHeartbeats 2000000 in
theorem radded_any (A : Option Addr) (cap : Nat) (l : List Nat) (hl : ∀ x ∈ l, x < 256) (hlen : l.length ≤ 1000000) (k n : Nat) (hk : k ≤ l.length) (hn : n < 16) (N : Nat) (hN : N = l.length) {w : World} {B : Nat} (hsl : Sl w B A (byts l)) :
    Calls Try.prog 35 #[.slice A N cap, .int .i64 (k : Int), .int .i64 (n : Int)] w fun e w' => ∃ v, e = .returned v ∧ AddedV l k n v ∧ w' = w := by
  by_cases h15 : n < 15
  · have q1 : decide ((n : Int) < 15) = true := by rw [decide_eq_true_eq]; omega
    have q2 : decide (n < 15) = true := by simpa using h15
    have e : Lz.added (l.drop k) n = some (n, l.drop k) := by unfold Lz.added; rw [if_pos h15]
    have hq : l.length - (l.drop k).length = k := by rw [List.length_drop]; omega
    have fin : AddedV l k n (.tuple #[.int .i64 (n : Int), .int .i64 (k : Int)]) := .inr ⟨n, l.drop k, e, by rw [hq]⟩
    have F := Lib.hid fin
    clear fin e hq hsl hl hlen hk hN h15 hn
    go_enter Try.func35, Try.ntmps35
    go_wp2_with fail
    go_returns
    exact ⟨_, rfl, F.out, rfl⟩
  · have q1 : decide ((n : Int) < 15) = false := by rw [decide_eq_false_iff_not]; omega
    have q2 : decide (n < 15) = false := by simpa using h15
    have he : Lz.added (l.drop k) n = Lz.go (l.drop k) n := by unfold Lz.added; rw [if_neg h15]
    have HE := Lib.hid he
    have HN := Lib.hid hN
    have Hc := Lib.hid (fun i (hi : i < l.length) => sl_cell hsl hi)
    have hn15 : n ≤ 15 := by omega
    have hNb : N ≤ 1000000 := by omega
    have hkN : k ≤ N := by omega
    clear he hsl hN h15 hn hlen hk
    go_enter Try.func35, Try.ntmps35
    go_wp2_with fail
    go_loop [1, 2] (fun a s => ∃ i t : Nat, k ≤ i ∧ i ≤ N ∧ a = .int .i64 i ∧ s = .int .i64 t ∧ t ≤ 15 + 255 * i ∧ Lz.go (l.drop i) t = Lz.go (l.drop k) n) (fun a _ => N - (intOf a).toNat)
    case atStart => exact ⟨k, n, Nat.le_refl _, hkN, rfl, rfl, by omega, rfl⟩
    case round =>
      obtain ⟨i, t, hi1, hi2, rfl, rfl, ht, hg⟩ := hrel
      have HG := Lib.hid hg
      clear hg
      by_cases hlt : i < N
      · have q3 : decide (N ≤ i) = false := by simp; omega
        have q3' : decide ((N : Int) ≤ (i : Int)) = false := by rw [decide_eq_false_iff_not]; omega
        have hil : i < l.length := by rw [← HN.out]; exact hlt
        obtain ⟨b, o, rfl, cx⟩ := Hc.out i hil
        have hx := getB_lt hl i
        have hd : l.drop i = l.getD i 0 :: l.drop (i + 1) := by
          rw [List.drop_eq_getElem_cons hil, List.getD_eq_getElem?_getD, List.getElem?_eq_getElem hil]; rfl
        have hgo := HG.out
        rw [hd, Lz.go] at hgo
        have Hgo := Lib.hid hgo
        have Hil := Lib.hid hil
        clear hd hgo HG hl Hc hil
        generalize l.getD i 0 = x at *
        by_cases h255 : x < 255
        · have p1 : decide ((x : Int) < 255) = true := by rw [decide_eq_true_eq]; omega
          have p2 : decide (x < 255) = true := by simpa using h255
          have fin : AddedV l k n (.tuple #[.int .i64 ((t + x : Nat) : Int), .int .i64 ((i + 1 : Nat) : Int)]) := by
            refine .inr ⟨t + x, l.drop (i + 1), ?_, ?_⟩
            · have := Hgo.out
              rw [if_pos h255] at this
              rw [HE.out, ← this]
            · have := Hil.out
              rw [show l.length - (l.drop (i + 1)).length = i + 1 by rw [List.length_drop]; omega]
          have F := Lib.hid fin
          clear fin Hgo h255 HE
          go_wp2_with fail
          go_returns
          exact ⟨_, rfl, F.out, rfl⟩
        · have p1 : decide ((x : Int) < 255) = false := by rw [decide_eq_false_iff_not]; omega
          have p2 : decide (x < 255) = false := by simpa using h255
          have hx5 : x = 255 := by omega
          subst hx5
          have hg2 : Lz.go (l.drop (i + 1)) (t + 255) = Lz.go (l.drop k) n := by
            have := Hgo.out
            rwa [if_neg h255] at this
          have Hg2 := Lib.hid hg2
          clear hg2 Hgo h255 HE
          go_wp2_with fail
          go_round
          case rel => exact ⟨i + 1, t + 255, by omega, by omega, by go_num, by go_num, by omega, Hg2.out⟩
          case measure => simp [intOf]; omega
      · have hiN : i = N := by omega
        subst hiN
        have q3 : decide (i ≤ i) = true := by simp
        have q3' : decide ((i : Int) ≤ (i : Int)) = true := by simp
        have fin : AddedV l k n (.tuple #[.int .i64 (-1), .int .i64 (i : Int)]) := by
          refine .inl ⟨?_, _, rfl⟩
          have := HG.out
          rw [HN.out, List.drop_length, Lz.go] at this
          rw [HE.out, ← this]
        have F := Lib.hid fin
        clear fin HG HE Hc hl
        go_wp2_with fail
        go_returns
        exact ⟨_, rfl, F.out, rfl⟩
end Go.Proofs.Ytnkgcibdibgmjaa

namespace Go.Proofs.Ytnkgcibdibgmjaa
open Go.RowKit

section
variable {A : Option Addr} {cap : Nat} {l : List Nat} {w : World} {B : Nat}
theorem radded_none (hl : ∀ x ∈ l, x < 256) (hlen : l.length ≤ 1000000) (k n : Nat) (z y : Int) (hz : z = (k : Int)) (hy : y = (n : Int)) (hk : k ≤ l.length) (hn : n < 16) (N : Nat) (hN : N = l.length) (hsl : Sl w B A (byts l)) (h : Lz.added (l.drop k) n = none) :
    Calls Try.prog 35 #[.slice A N cap, .int .i64 z, .int .i64 y] w fun e w' => (∃ u : Int, e = .returned (.tuple #[.int .i64 (-1), .int .i64 u])) ∧ w' = w := by
  subst hz; subst hy
  refine (radded_any A cap l hl hlen k n hk hn N hN hsl).mono ?_
  rintro e w' ⟨v, rfl, ⟨_, u, rfl⟩ | ⟨m, q, h', _⟩, rfl⟩
  · exact ⟨⟨u, rfl⟩, rfl⟩
  · rw [h] at h'; cases h'
theorem radded_some (hl : ∀ x ∈ l, x < 256) (hlen : l.length ≤ 1000000) (k n : Nat) (z y : Int) (hz : z = (k : Int)) (hy : y = (n : Int)) (hk : k ≤ l.length) (hn : n < 16) (N : Nat) (hN : N = l.length) (hsl : Sl w B A (byts l)) {m p : Nat} {q : List Nat} (h : Lz.added (l.drop k) n = some (m, q)) (hp : p = l.length - q.length) :
    Calls Try.prog 35 #[.slice A N cap, .int .i64 z, .int .i64 y] w fun e w' => e = .returned (.tuple #[.int .i64 (m : Int), .int .i64 (p : Int)]) ∧ w' = w := by
  subst hz; subst hy; subst hp
  refine (radded_any A cap l hl hlen k n hk hn N hN hsl).mono ?_
  rintro e w' ⟨v, rfl, ⟨h', _⟩ | ⟨m', q', h', rfl⟩, rfl⟩
  · rw [h] at h'; cases h'
  · rw [h] at h'
    injection h' with h'
    injection h' with h1 h2
    subst h1; subst h2
    exact ⟨rfl, rfl⟩
end
theorem and15 {t : Nat} (ht : t < 256) : bits BinOp.and IntKind.i64 (t : Int) 15 = ((t % 16 : Nat) : Int) := by
  have h : bits .and .i64 (t : Int) ((15 : Nat) : Int) = ((t &&& 15 : Nat) : Int) := by
    show IntKind.i64.wrap ((BitVec.ofInt 64 (t : Int) &&& BitVec.ofInt 64 ((15 : Nat) : Int)).toNat : Int) = _
    have hx : t &&& 15 ≤ 15 := Nat.and_le_right
    rw [BitVec.toNat_and, ofInt_i64 t (by omega), ofInt_i64 15 (by decide), IntKind.wrap_i64]
    omega
  rw [show (15 : Int) = ((15 : Nat) : Int) from rfl, h, show (15 : Nat) = 2 ^ 4 - 1 from rfl, Nat.and_two_pow_sub_one_eq_mod]
/-- Where added goes on. -/
theorem added_pos {l : List Nat} {k n m : Nat} {q : List Nat} (hk : k ≤ l.length) (h : Lz.added (l.drop k) n = some (m, q)) : q.length ≤ l.length - k ∧ q = l.drop (l.length - q.length) := by
  obtain ⟨h1, _, h3⟩ := Lz.added_len h
  rw [List.length_drop] at h1
  refine ⟨h1, ?_⟩
  rw [List.drop_drop, List.length_drop] at h3
  rw [show l.length - q.length = k + (l.length - k - q.length) by omega]
  exact h3
end Go.Proofs.Ytnkgcibdibgmjaa

namespace Go.Proofs.Ytnkgcibdibgmjaa
open Go.RowKit

/-- Between two sequences. -/
def Unp (w wr : World) (n N : Nat) (l : List Nat) (R : List Nat × Nat) (j : Nat) (A : Option Addr) (m c : Nat) : Prop :=
  ∃ (f : Nat) (o : List Nat), j ≤ N ∧ Mine w wr A m c o ∧ (∀ x ∈ o, x < 256) ∧ m ≤ n ∧ N - j ≤ f ∧ Lz.unp n f (l.drop j) o = R
set_option maxRecDepth 8000 in
set_option maxHeartbeats 8000000 in
theorem runpack_good (A : Option Addr) (cap : Nat) (l : List Nat) (hl : ∀ x ∈ l, x < 256) (hlen : l.length ≤ 100000) (hcap : l.length ≤ cap) (hA : A = none → cap = 0) (n : Nat) (hn : n ≤ 4096) {w : World} (hsl : Sl w w.heap.size A (byts l)) :
    Calls Try.prog 18 #[.slice A l.length cap, .int .i64 (n : Int)] w (UnpR (Lz.unpack l n) w) := by
  obtain ⟨i0, hi0, hz0, hs0, hb0⟩ := byte_parts (P := Try.prog) (e := 5) (by kernel_rfl)
  obtain ⟨N, hN⟩ : ∃ N, N = l.length := ⟨_, rfl⟩
  obtain ⟨R, hR⟩ : ∃ R, R = Lz.unpack l n := ⟨_, rfl⟩
  have q1 : decide ((n : Int) < 0) = false := by rw [decide_eq_false_iff_not]; omega
  have q2 : decide (4096 < (n : Int)) = false := by rw [decide_eq_false_iff_not]; omega
  have q2' : decide (4096 < n) = false := by rw [decide_eq_false_iff_not]; omega
  have h0 : Lz.unp n N (l.drop 0) [] = R := by
    rw [hR, hN]; unfold Lz.unpack; rw [if_neg (by omega), Int.toNat_natCast]; rfl
  have H0 := Lib.hid (show Unp w w n N l R 0 none 0 0 from ⟨N, [], Nat.zero_le _, ⟨World.ownsRow_nil _ _ _ _, Below.refl _ _⟩, by simp, Nat.zero_le _, Nat.le_refl _, h0⟩)
  have hNb : N ≤ 100000 := by omega
  have hcN : N ≤ cap := by omega
  have HN := Lib.hid hN
  have HA := Lib.hid hA
  have Hl := Lib.hid hl
  have Hlen := Lib.hid (show l.length ≤ 1000000 by omega)
  have Sw := Lib.hid (fun wr (hb : Below w.heap.size w wr) => hsl.below hb)
  rw [← hR, ← hN]
  clear hR h0 hN hsl hA hl hlen hcap
  go_enter Try.func18, Try.ntmps18
  go_wp2_with fail
  go_loopw [6, 7] (fun v a wr => ∃ (j : Nat) (A' : Option Addr) (m c' : Nat), a = .int .i64 j ∧ v = .slice A' m c' ∧ Unp w wr n N l R j A' m c') (fun _ a _ => N - (intOf a).toNat)
  case atStart => exact ⟨0, none, 0, 0, rfl, rfl, H0.out⟩
  case round =>
    obtain ⟨j, Ao, m, co, rfl, rfl, f, o, hj, hm, hob, hmn, hf, hu⟩ := hrel
    have HM := Lib.hid hm
    have Hob := Lib.hid hob
    have hlo := hm.len
    have Hlo := Lib.hid hlo
    clear hm hob hlo H0
    by_cases hjN : N ≤ j
    · have e : j = N := by omega
      subst e
      have hr : R = ([], 2) := by rw [← hu, HN.out, List.drop_length, Lz.unp_nil]
      have HR := Lib.hid hr
      have p1 : decide ((j : Int) ≤ (j : Int)) = true := by simp
      have p1' : decide (j ≤ j) = true := by simp
      clear hu hr
      go_wp2_with fail
      go_returns
      exact unpR_no HR.out HM.out.bel
    have p1 : decide ((N : Int) ≤ (j : Int)) = false := by rw [decide_eq_false_iff_not]; omega
    have p1' : decide (N ≤ j) = false := by rw [decide_eq_false_iff_not]; omega
    have hjl : j < l.length := by rw [← HN.out]; exact Nat.lt_of_not_le hjN
    obtain ⟨f, rfl⟩ : ∃ g, f = g + 1 := ⟨f - 1, by omega⟩
    have hd : l.drop j = l.getD j 0 :: l.drop (j + 1) := by
      rw [List.drop_eq_getElem_cons hjl, List.getD_eq_getElem?_getD, List.getElem?_eq_getElem hjl]; rfl
    rw [hd] at hu
    obtain ⟨b, ob, eA, ct⟩ := sl_cell (Sw.out wr HM.out.bel) hjl
    subst eA
    have ht := getB_lt Hl.out j
    generalize l.getD j 0 = t at *
    have HU := Lib.hid hu
    clear hu hd
    cases had : Lz.added (l.drop (j + 1)) (t / 16) with
    | none =>
      have C := Lib.hid (radded_none (A := some ⟨b, ob, none⟩) (cap := cap) Hl.out Hlen.out (j + 1) (t / 16) ((j : Int) + 1) ((t : Int) / 16) (by omega) (by omega) (by omega) (by omega) N HN.out (Sw.out wr HM.out.bel) had)
      have hr : R = ([], 2) := by rw [← HU.out, Lz.unp_none had]
      have HR := Lib.hid hr
      clear HU hr had
      go_wp2_with fail
      refine C.out.mono ?_
      rintro e w1 ⟨⟨u, rfl⟩, rfl⟩
      go_wp2_with fail
      go_returns
      exact unpR_no HR.out HM.out.bel
    | some pr =>
    obtain ⟨lits, q⟩ := pr
    obtain ⟨hq1, hq2⟩ := added_pos (by omega) had
    obtain ⟨p, hp⟩ : ∃ p, p = l.length - q.length := ⟨_, rfl⟩
    have C := Lib.hid (radded_some (A := some ⟨b, ob, none⟩) (cap := cap) Hl.out Hlen.out (j + 1) (t / 16) ((j : Int) + 1) ((t : Int) / 16) (by omega) (by omega) (by omega) (by omega) N HN.out (Sw.out wr HM.out.bel) had hp)
    have hpN : p ≤ N := by rw [HN.out]; omega
    have hjp : j + 1 ≤ p := by omega
    have hql : q.length = N - p := by rw [HN.out]; omega
    rw [← hp] at hq2
    have hlb : lits ≤ 15 + 255 * l.length := by
      have := Lz.added_bound (fun x hx => Hl.out x (List.mem_of_mem_drop hx)) had
      rw [List.length_drop] at this
      omega
    rw [← HN.out] at hlb
    by_cases hs1 : N - p < lits
    · have hr : R = ([], 2) := by rw [← HU.out, Lz.unp_short had (by omega)]
      have HR := Lib.hid hr
      have p2 : decide ((N : Int) - (p : Int) < (lits : Int)) = true := by rw [decide_eq_true_eq]; omega
      clear HU hr had hp hq1 hq2 hql
      go_wp2_with fail
      refine C.out.mono ?_
      rintro e w1 ⟨rfl, rfl⟩
      go_wp2_with fail
      go_returns
      exact unpR_no HR.out HM.out.bel
    have p2 : decide ((N : Int) - (p : Int) < (lits : Int)) = false := by rw [decide_eq_false_iff_not]; omega
    obtain ⟨P, hP⟩ : ∃ P : Nat, P = p + lits := ⟨_, rfl⟩
    have hPi : (p : Int) + (lits : Int) = (P : Int) := by omega
    have hPN : P ≤ N := by omega
    have hcut : ∀ w, (Instr.slice 22 (.slice (some ⟨b, ob, none⟩) N cap) (some (.int .i64 (p : Int))) (some (.int .i64 (P : Int))) none).run Try.prog w = .ok (.slice (cutA (some ⟨b, ob, none⟩) cap p) lits (cap - p)) w := fun w => by
      have := run_slice_mid (P := Try.prog) Try.underlying22 hi0 hs0 (some ⟨b, ob, none⟩) N cap p P (by omega) (by omega) w
      rwa [show P - p = lits by omega] at this
    have hcutn : cutA (some ⟨b, ob, none⟩) cap p = none → cap - p = 0 := by
      unfold cutA
      by_cases hck : cap = p
      · omega
      · rw [if_neg hck]; intro hh; simp at hh
    have Sl1 := Lib.hid (fun wr' (hb : Below w.heap.size w wr') => show Sl wr' w.heap.size (cutA (some ⟨b, ob, none⟩) cap p) (byts (q.take lits)) by
      rw [hq2, ← byts_take, ← byts_drop]
      exact ((Sw.out wr' hb).from (by rw [byts_length, ← HN.out]; exact hcN)).to _)
    have Lq := Lib.hid (show (byts (q.take lits)).length = lits by rw [byts_length, List.length_take, hql]; omega)
    have Lq' := Lib.hid (show (q.take lits).length = lits by rw [List.length_take, hql]; omega)
    have Bq := Lib.hid (show ∀ x ∈ o ++ q.take lits, x < 256 from fun x hx => by
      rcases List.mem_append.1 hx with h | h
      · exact Hob.out x h
      · rw [hq2] at h; exact Hl.out x (List.mem_of_mem_drop (List.mem_of_mem_take h)))
    have HP := Lib.hid hP
    have Hcutn := Lib.hid hcutn
    have Hq2 := Lib.hid hq2
    have Had := Lib.hid had
    have Hql := Lib.hid hql
    clear had hp hq1 hq2 hql hcutn hP
    by_cases hlast : P = N
    · -- the last sequence
      have hr0 : R = if n - m < lits then ([], 3) else if m + lits < n then ([], 2) else (o ++ q, 0) := by
        rw [← HU.out, Lz.unp_last Had.out (by rw [Hql.out]; have := HP.out; omega), Hlo.out]
      have Hr0 := Lib.hid hr0
      have p3 : ((P : Int) == (N : Int)) = true := by rw [beq_iff_eq]; omega
      have Hqe := Lib.hid (show q.take lits = q from List.take_of_length_le (by rw [Hql.out]; have := HP.out; omega))
      clear hr0 HU hlast
      by_cases hlong : n - m < lits
      · have hr : R = ([], 3) := by rw [Hr0.out, if_pos hlong]
        have HR := Lib.hid hr
        have p4 : decide ((n : Int) - (m : Int) < (lits : Int)) = true := by rw [decide_eq_true_eq]; omega
        clear hr Hr0
        go_wp2_with fail
        refine C.out.mono ?_
        rintro e w1 ⟨rfl, rfl⟩
        go_wp2_with fail
        go_returns
        exact unpR_no HR.out HM.out.bel
      have p4 : decide ((n : Int) - (m : Int) < (lits : Int)) = false := by rw [decide_eq_false_iff_not]; omega
      go_wp2_with fail
      refine C.out.mono ?_
      rintro e w1 ⟨rfl, rfl⟩
      by_cases hsh : m + lits < n
      · have hr : R = ([], 2) := by rw [Hr0.out, if_neg hlong, if_pos hsh]
        have HR := Lib.hid hr
        have p5 : decide (((m + lits : Nat) : Int) < (n : Int)) = true := by rw [decide_eq_true_eq]; omega
        have p5' : decide (m + lits < n) = true := by simpa using hsh
        have p5'' : decide ((m : Int) + (lits : Int) < (n : Int)) = true := by rw [decide_eq_true_eq]; omega
        clear hr Hr0
        go_wp2_with (at_builtin; refine wpList_append_sl (base := w.heap.size) _ rfl (.tmp 93) (.tmp 99) _ rfl Try.underlying22 hi0 hz0 hs0 hb0 rfl rfl HM.out.own rfl Lq.out.symm Hcutn.out (Sl1.out _ HM.out.bel) (byts_one _) (by rw [Lq.out]; omega) (by rw [Lq.out]; unfold maxLen; omega) (by rw [Lq.out]; omega) HM.out.bel.size ?_; intro v2 w2 h1 h2 _; obtain ⟨A2, c2, rfl, m2⟩ := HM.out.app Lq'.out rfl h1 h2; have M2 := Lib.hid m2; clear h1 h2 m2)
        go_returns
        exact unpR_no HR.out M2.out.bel
      · have hr : R = (o ++ q, 0) := by rw [Hr0.out, if_neg hlong, if_neg hsh]
        have HR := Lib.hid hr
        have p5 : decide (((m + lits : Nat) : Int) < (n : Int)) = false := by rw [decide_eq_false_iff_not]; omega
        have p5' : decide (m + lits < n) = false := by simpa using hsh
        have p5'' : decide ((m : Int) + (lits : Int) < (n : Int)) = false := by rw [decide_eq_false_iff_not]; omega
        clear hr Hr0
        go_wp2_with (at_builtin; refine wpList_append_sl (base := w.heap.size) _ rfl (.tmp 93) (.tmp 99) _ rfl Try.underlying22 hi0 hz0 hs0 hb0 rfl rfl HM.out.own rfl Lq.out.symm Hcutn.out (Sl1.out _ HM.out.bel) (byts_one _) (by rw [Lq.out]; omega) (by rw [Lq.out]; unfold maxLen; omega) (by rw [Lq.out]; omega) HM.out.bel.size ?_; intro v2 w2 h1 h2 _; obtain ⟨A2, c2, rfl, m2⟩ := HM.out.app Lq'.out rfl h1 h2; have M2 := Lib.hid m2; clear h1 h2 m2)
        go_returns
        exact unpR_ok HR.out (by rw [← Hqe.out]; exact M2.out) (by rw [← Hqe.out]; exact Bq.out) (by omega)
    have p3 : ((P : Int) == (N : Int)) = false := by rw [beq_eq_false_iff_ne]; omega
    have hql2 : lits + 1 ≤ q.length := by rw [Hql.out]; have := HP.out; omega
    by_cases hone : q.length = lits + 1
    · have hr : R = ([], 2) := by rw [← HU.out, Lz.unp_one Had.out hone]
      have HR := Lib.hid hr
      have p4 : decide ((N : Int) - (P : Int) < 2) = true := by rw [decide_eq_true_eq]; have := HP.out; have := Hql.out; omega
      clear hr HU hlast hone hql2
      go_wp2_with fail
      refine C.out.mono ?_
      rintro e w1 ⟨rfl, rfl⟩
      go_wp2_with fail
      go_returns
      exact unpR_no HR.out HM.out.bel
    have hP2 : P + 2 ≤ N := by have := HP.out; have := Hql.out; omega
    have p4 : decide ((N : Int) - (P : Int) < 2) = false := by rw [decide_eq_false_iff_not]; omega
    have hPl : P + 1 < l.length := by rw [← HN.out]; omega
    have hqg : ∀ i, q.getD (lits + i) 0 = l.getD (P + i) 0 := fun i => by
      rw [Hq2.out, List.getD_eq_getElem?_getD, List.getElem?_drop, ← List.getD_eq_getElem?_getD, HP.out]; congr 1; omega
    have hqd : q.drop (lits + 2) = l.drop (P + 2) := by rw [Hq2.out, List.drop_drop, HP.out, Nat.add_assoc]
    obtain ⟨b', ob', e', cb0⟩ := sl_cell (Sw.out wr HM.out.bel) (k := P) (by omega)
    obtain ⟨rfl, rfl⟩ : b' = b ∧ ob' = ob := by simpa using e'.symm
    obtain ⟨b2, ob2, e', cb1⟩ := sl_cell (Sw.out wr HM.out.bel) (k := P + 1) hPl
    obtain ⟨rfl, rfl⟩ : b2 = b' ∧ ob2 = ob' := by simpa using e'.symm
    have hx0 := getB_lt Hl.out P
    have hx1 := getB_lt Hl.out (P + 1)
    have hg0 := hqg 0
    have hg1 := hqg 1
    rw [Nat.add_zero, Nat.add_zero] at hg0
    generalize l.getD P 0 = x0 at *
    generalize l.getD (P + 1) 0 = x1 at *
    have o8 := or8 hx0 hx1
    have and_ := and15 ht
    have Hg0 := Lib.hid hg0
    have Hg1 := Lib.hid hg1
    have Hqd := Lib.hid hqd
    obtain ⟨back, hback⟩ : ∃ back : Nat, back = x0 + x1 * 256 := ⟨_, rfl⟩
    have hbi : (x0 : Int) + (x1 : Int) * 256 = (back : Int) := by omega
    have hbb : back ≤ 65535 := by omega
    have Hback := Lib.hid hback
    have hql3 : lits + 2 ≤ q.length := by omega
    have Hql3 := Lib.hid hql3
    rw [hbi] at o8
    clear hqg hqd hg0 hg1 hback hone hql2 hql3 hlast e' hPl hbi
    go_wp2_with fail
    refine C.out.mono ?_
    rintro e w1 ⟨rfl, rfl⟩
    clear C ct
    go_wp2_with fail
    go_quiet (fail)
    have hbq : Below w1.heap.size w1 (w1.drewN nq) := drewN_below nq
    have HM2 := Lib.hid (HM.out.below hbq)
    clear hbq cb0 cb1 HM
    generalize w1.drewN nq = w2 at *
    clear o8
    cases had2 : Lz.added (l.drop (P + 2)) (t % 16) with
    | none =>
      have C2 := Lib.hid (radded_none (A := some ⟨b2, ob2, none⟩) (cap := cap) Hl.out Hlen.out (P + 2) (t % 16) ((P : Int) + 2) ((t % 16 : Nat) : Int) (by omega) rfl (by rw [← HN.out]; omega) (by omega) N HN.out (Sw.out w2 HM2.out.bel) had2)
      have hr : R = ([], 2) := by rw [← HU.out, Lz.unp_more_none Had.out Hql3.out (by rw [Hqd.out]; exact had2)]
      have HR := Lib.hid hr
      clear HU hr had2
      go_wp2_with fail
      refine C2.out.mono ?_
      rintro e w3 ⟨⟨u, rfl⟩, rfl⟩
      go_wp2_with fail
      go_returns
      exact unpR_no HR.out HM2.out.bel
    | some pr2 =>
    obtain ⟨many, q2⟩ := pr2
    obtain ⟨hq3, hq4⟩ := added_pos (by rw [← HN.out]; omega) had2
    obtain ⟨P2, hP2e⟩ : ∃ P2, P2 = l.length - q2.length := ⟨_, rfl⟩
    have C2 := Lib.hid (radded_some (A := some ⟨b2, ob2, none⟩) (cap := cap) Hl.out Hlen.out (P + 2) (t % 16) ((P : Int) + 2) ((t % 16 : Nat) : Int) (by omega) rfl (by rw [← HN.out]; omega) (by omega) N HN.out (Sw.out w2 HM2.out.bel) had2 hP2e)
    have hP2N : P2 ≤ N := by rw [HN.out]; omega
    have hP2P : P + 2 ≤ P2 := by rw [hP2e]; have := HN.out; omega
    have hmb : many ≤ 15 + 255 * N := by
      have := Lz.added_bound (fun x hx => Hl.out x (List.mem_of_mem_drop hx)) had2
      rw [List.length_drop, ← HN.out] at this
      omega
    rw [← hP2e] at hq4
    have hu2 : R = if n - m < lits then ([], 3) else if back = 0 ∨ m + lits < back then ([], 4) else if n - (m + lits) < many + 4 then ([], 3) else Lz.unp n f (l.drop P2) (Lz.copyB (o ++ q.take lits) back (many + 4)) := by
      rw [← HU.out, Lz.unp_more Had.out Hql3.out (by rw [Hqd.out]; exact had2), Hg0.out, Hg1.out, ← Hback.out, Hlo.out, ← hq4]
    have Hu2 := Lib.hid hu2
    clear hu2 hq3 hq4 hP2e had2 HU
    by_cases hlong : n - m < lits
    · have hr : R = ([], 3) := by rw [Hu2.out, if_pos hlong]
      have HR := Lib.hid hr
      have p5 : decide ((n : Int) - (m : Int) < (lits : Int)) = true := by rw [decide_eq_true_eq]; omega
      clear hr Hu2
      go_wp2_with fail
      refine C2.out.mono ?_
      rintro e w3 ⟨rfl, rfl⟩
      go_wp2_with fail
      go_returns
      exact unpR_no HR.out HM2.out.bel
    have p5 : decide ((n : Int) - (m : Int) < (lits : Int)) = false := by rw [decide_eq_false_iff_not]; omega
    obtain ⟨K, hK⟩ : ∃ K : Nat, K = m + lits := ⟨_, rfl⟩
    have HK := Lib.hid hK
    have hKn : K ≤ n := by omega
    by_cases hform : back = 0 ∨ m + lits < back
    · have hr : R = ([], 4) := by rw [Hu2.out, if_neg hlong, if_pos hform]
      have HR := Lib.hid hr
      rw [← hK] at hform
      clear hr Hu2 hK
      rcases hform with h0 | h1
      · have p6 : ((back : Int) == 0) = true := by rw [beq_iff_eq]; omega
        have p6' : (back == 0) = true := by rw [beq_iff_eq]; omega
        clear h0 hlong
        go_wp2_with fail
        refine C2.out.mono ?_
        rintro e w3 ⟨rfl, rfl⟩
        go_wp2_with (at_builtin; refine wpList_append_sl (base := w.heap.size) _ rfl (.tmp 93) (.tmp 99) _ rfl Try.underlying22 hi0 hz0 hs0 hb0 rfl rfl HM2.out.own rfl Lq.out.symm Hcutn.out (Sl1.out _ HM2.out.bel) (byts_one _) (by rw [Lq.out]; omega) (by rw [Lq.out]; unfold maxLen; omega) (by rw [Lq.out]; omega) HM2.out.bel.size ?_; intro v4 w4 h1 h2 _; obtain ⟨A4, c4, rfl, m4⟩ := HM2.out.app Lq'.out HK.out.symm h1 h2; have M4 := Lib.hid m4; clear h1 h2 m4)
        go_returns
        exact unpR_no HR.out M4.out.bel
      · have p6 : ((back : Int) == 0) = false := by rw [beq_eq_false_iff_ne]; omega
        have p6' : (back == 0) = false := by rw [beq_eq_false_iff_ne]; omega
        have p7 : decide ((K : Int) < (back : Int)) = true := by rw [decide_eq_true_eq]; omega
        have p7' : decide (K < back) = true := by rw [decide_eq_true_eq]; omega
        clear h1 hlong
        go_wp2_with fail
        refine C2.out.mono ?_
        rintro e w3 ⟨rfl, rfl⟩
        go_wp2_with (at_builtin; refine wpList_append_sl (base := w.heap.size) _ rfl (.tmp 93) (.tmp 99) _ rfl Try.underlying22 hi0 hz0 hs0 hb0 rfl rfl HM2.out.own rfl Lq.out.symm Hcutn.out (Sl1.out _ HM2.out.bel) (byts_one _) (by rw [Lq.out]; omega) (by rw [Lq.out]; unfold maxLen; omega) (by rw [Lq.out]; omega) HM2.out.bel.size ?_; intro v4 w4 h1 h2 _; obtain ⟨A4, c4, rfl, m4⟩ := HM2.out.app Lq'.out HK.out.symm h1 h2; have M4 := Lib.hid m4; clear h1 h2 m4)
        go_returns
        exact unpR_no HR.out M4.out.bel
    have hback0 : 0 < back := by omega
    have hbackK : back ≤ K := by omega
    have p6 : ((back : Int) == 0) = false := by rw [beq_eq_false_iff_ne]; omega
    have p6' : (back == 0) = false := by rw [beq_eq_false_iff_ne]; omega
    have p7 : decide ((K : Int) < (back : Int)) = false := by rw [decide_eq_false_iff_not]; omega
    have p7' : decide (K < back) = false := by rw [decide_eq_false_iff_not]; omega
    by_cases hlong2 : n - (m + lits) < many + 4
    · have hr : R = ([], 3) := by rw [Hu2.out, if_neg hlong, if_neg hform, if_pos hlong2]
      have HR := Lib.hid hr
      have p8 : decide ((n : Int) - (K : Int) < (many : Int) + 4) = true := by rw [decide_eq_true_eq]; omega
      clear hr Hu2 hK hform hlong hlong2
      go_wp2_with fail
      refine C2.out.mono ?_
      rintro e w3 ⟨rfl, rfl⟩
      go_wp2_with (at_builtin; refine wpList_append_sl (base := w.heap.size) _ rfl (.tmp 93) (.tmp 99) _ rfl Try.underlying22 hi0 hz0 hs0 hb0 rfl rfl HM2.out.own rfl Lq.out.symm Hcutn.out (Sl1.out _ HM2.out.bel) (byts_one _) (by rw [Lq.out]; omega) (by rw [Lq.out]; unfold maxLen; omega) (by rw [Lq.out]; omega) HM2.out.bel.size ?_; intro v4 w4 h1 h2 _; obtain ⟨A4, c4, rfl, m4⟩ := HM2.out.app Lq'.out HK.out.symm h1 h2; have M4 := Lib.hid m4; clear h1 h2 m4)
      go_returns
      exact unpR_no HR.out M4.out.bel
    have p8 : decide ((n : Int) - (K : Int) < (many : Int) + 4) = false := by rw [decide_eq_false_iff_not]; omega
    have hu3 : Lz.unp n f (l.drop P2) (Lz.copyB (o ++ q.take lits) back (many + 4)) = R := by rw [Hu2.out, if_neg hlong, if_neg hform, if_neg hlong2]
    have Hu3 := Lib.hid hu3
    have hKm : K + (many + 4) ≤ n := by omega
    clear hu3 Hu2 hK hform hlong hlong2
    go_wp2_with fail
    refine C2.out.mono ?_
    rintro e w3 ⟨rfl, rfl⟩
    go_wp2_with (at_builtin; refine wpList_append_sl (base := w.heap.size) _ rfl (.tmp 93) (.tmp 99) _ rfl Try.underlying22 hi0 hz0 hs0 hb0 rfl rfl HM2.out.own rfl Lq.out.symm Hcutn.out (Sl1.out _ HM2.out.bel) (byts_one _) (by rw [Lq.out]; omega) (by rw [Lq.out]; unfold maxLen; omega) (by rw [Lq.out]; omega) HM2.out.bel.size ?_; intro v4 w4 h1 h2 _; obtain ⟨A4, c4, rfl, m4⟩ := HM2.out.app Lq'.out HK.out.symm h1 h2; have M4 := Lib.hid m4; clear h1 h2 m4)
    clear Sl1 Lq Lq' Hcutn Had Hql Hq2 HM2 C2 Hqd Hg0 Hg1 Hql3 hcut HP
    go_loopw [6, 14] (fun v i wr => ∃ (k : Nat) (A' : Option Addr) (c' : Nat), k ≤ many + 4 ∧ i = .int .i64 k ∧ v = .slice A' (K + k) c' ∧ Mine w wr A' (K + k) c' (Lz.copyB (o ++ q.take lits) back k)) (fun _ i _ => many + 4 - (intOf i).toNat)
    case atStart => exact ⟨0, A4, c4, Nat.zero_le _, rfl, rfl, M4.out⟩
    case round =>
      obtain ⟨k, A5, c5, hk, rfl, rfl, hm5⟩ := hrel
      have M5 := Lib.hid hm5
      by_cases hkm : k < many + 4
      · have q9 : decide ((k : Int) < (many : Int) + 4) = true := by rw [decide_eq_true_eq]; omega
        have hlen5 := hm5.len
        obtain ⟨ix, hix⟩ : ∃ ix : Nat, ix = K + k - back := ⟨_, rfl⟩
        have hixi : (K : Int) + (k : Int) - (back : Int) = (ix : Int) := by omega
        have hixb : ix < K + k := by omega
        obtain ⟨b5, o5, rfl, c5x⟩ := sl_cell hm5.sl (k := ix) (by omega)
        have hn5 := Lib.hid (Lz.copyB_next back k (o ++ q.take lits))
        rw [hlen5, ← hix] at hn5
        have hx5 := getB_lt (Lz.copyB_lt (back := back) (k := k) Bq.out) ix
        obtain ⟨X, hX⟩ : ∃ X, X = Lz.copyB (o ++ q.take lits) back k := ⟨_, rfl⟩
        rw [← hX] at hn5 M5 c5x hx5
        have HX := Lib.hid hX
        clear hX hm5 hlen5
        generalize hy : X.getD ix 0 = y at *
        have Mz := Lib.hid (M5.out.below (w' := wr.alloc (.cells #[.int .u8 (y : Int)] 5)) ((Below.refl _ _).alloc (Nat.le_refl _) _))
        have Sz := Lib.hid (sl_cells (w := wr) (cs := #[.int .u8 (y : Int)]) (l := [y]) rfl)
        have Hix := Lib.hid hix
        clear hy M5 hix
        go_wp2_with (at_builtin; refine wpList_append_sl (base := w.heap.size) _ rfl (.tmp 123) (.tmp 131) _ rfl Try.underlying22 hi0 hz0 hs0 hb0 rfl rfl Mz.out.own rfl (byts_length [y]).symm (by simp) Sz.out (byts_one _) (by rw [byts_length]; exact Nat.le_refl _) (by rw [byts_length]; unfold maxLen; simp; omega) (by rw [byts_length]; simp; omega) Mz.out.bel.size ?_; intro v6 w6 h1 h2 _; obtain ⟨A6, c6, rfl, m6⟩ := Mz.out.app (r := [y]) rfl (show K + k + 1 = K + (k + 1) from rfl) h1 h2; have M6 := Lib.hid m6; clear h1 h2 m6)
        go_roundw
        case rel => exact ⟨k + 1, A6, c6, by omega, by go_num, rfl, by rw [hn5.out]; exact M6.out⟩
        case measure => simp [intOf]; omega
      · have hkm4 : k = many + 4 := by omega
        have q9 : decide ((k : Int) < (many : Int) + 4) = false := by rw [decide_eq_false_iff_not]; omega
        have Hkm := Lib.hid hkm4
        clear hm5 hkm4
        go_wp2_with fail
        go_roundw
        case rel =>
          refine ⟨P2, A5, K + k, c5, rfl, rfl, f, Lz.copyB (o ++ q.take lits) back k, hP2N, M5.out, fun x hx => Lz.copyB_lt Bq.out x hx, by have := Hkm.out; omega, by omega, by rw [Hkm.out]; exact Hu3.out⟩
        case measure => simp [intOf]; omega
end Go.Proofs.Ytnkgcibdibgmjaa

namespace Go.Proofs.Ytnkgcibdibgmjaa
open Go.RowKit

set_option maxRecDepth 4000 in
set_option maxHeartbeats 2000000 in
theorem runpack_bad (A : Option Addr) (cap N : Nat) (l : List Nat) (n : Int) (hn : n < 0 ∨ 4096 < n) (w : World) :
    Calls Try.prog 18 #[.slice A N cap, .int .i64 n] w (UnpR (Lz.unpack l n) w) := by
  have hr : Lz.unpack l n = ([], 1) := by unfold Lz.unpack; rw [if_pos hn]
  have HR := Lib.hid hr
  have early : ∀ x y : Bool, decide (n < 0) = x → decide (4096 < n) = y → (x = true ∨ y = true) → Calls Try.prog 18 #[.slice A N cap, .int .i64 n] w (UnpR (Lz.unpack l n) w) := by
    intro x y h1 h2 h
    clear hr hn
    cases x <;> cases y <;> first
      | (simp at h; done)
      | (clear h
         go_enter Try.func18, Try.ntmps18
         go_wp2_with fail
         go_returns
         exact unpR_no HR.out (Below.refl _ _))
  refine early _ _ rfl rfl ?_
  rcases hn with h | h
  · exact .inl (by simpa using h)
  · exact .inr (by simpa using h)
theorem runpack_by {w : World} {A : Option Addr} {c : Nat} {l : List Nat} (h : By w A c l) (hlen : l.length ≤ 100000) (n : Int) (N : Nat) (hN : N = l.length) :
    Calls Try.prog 18 #[.slice A N c, .int .i64 n] w (UnpR (Lz.unpack l n) w) := by
  by_cases hn : n < 0 ∨ 4096 < n
  · exact runpack_bad A c N l n hn w
  · obtain ⟨k, rfl⟩ : ∃ k : Nat, n = k := ⟨n.toNat, by omega⟩
    subst hN
    exact runpack_good A c l h.lt hlen h.cap h.nil k (by omega) h.sl

end Go.Proofs.Ytnkgcibdibgmjaa

namespace Go.Proofs.Ytnkgcibdibgmjaa
open Go.RowKit

/-- The program's Unpack says what the block says. -/
def UnpackC : Prop := ∀ (w : World) (A : Option Addr) (c : Nat) (l : List Nat) (n : Int) (N : Nat), By w A c l → l.length ≤ 100000 → N = l.length →
  Calls Try.prog 31 #[.slice A N c, .int .i64 n] w (UnpR (Lz.unpack l n) w)
/-- The program's Pack is a function of the bytes. -/
def PackC (P : List Nat → List Nat) : Prop := ∀ (w : World) (A : Option Addr) (c : Nat) (l : List Nat) (N : Nat), By w A c l → l.length ≤ 100000 → N = l.length →
  Calls Try.prog 10 #[.slice A N c] w fun e w' => ∃ A' c', e = .returned (.slice A' (P l).length c') ∧ By w' A' c' (P l) ∧ Below w.heap.size w w'
/-- It writes sequences that give the bytes back; nothing for too many; little for a row of one byte. -/
structure PackOk (P : List Nat → List Nat) : Prop where
  seqs : ∀ l : List Nat, (∀ x ∈ l, x < 256) → l.length ≤ 4096 → ∃ ss r, P l = Lz.enc ss r ∧ Lz.good ss [] ∧ Lz.run ss [] ++ r = l
  none : ∀ l : List Nat, 4096 < l.length → P l = []
  small : ∀ k x : Nat, 64 ≤ k → k ≤ 4096 → x < 256 → (P (List.replicate k x)).length ≤ k / 4 + 16
def MostC : Prop := ∀ (n : Nat) (z : Int) (w : World), n ≤ 4096 → z = (n : Int) → Calls Try.prog 20 #[.int .i64 z] w fun e w' => e = .returned (.int .i64 ((n + n / 255 + 16 : Nat) : Int)) ∧ w' = w

section
variable {P : List Nat → List Nat}
theorem pack_back (hO : PackOk P) {l : List Nat} (hl : ∀ x ∈ l, x < 256) (hlen : l.length ≤ 4096) : Lz.unpack (P l) l.length = (l, 0) := by
  obtain ⟨ss, r, e, hg, hr⟩ := hO.seqs l hl hlen
  rw [e]
  subst hr
  exact Lz.unpack_enc ss r hg hlen
theorem pack_most (hO : PackOk P) {l : List Nat} (hl : ∀ x ∈ l, x < 256) (hlen : l.length ≤ 4096) : (P l).length ≤ l.length + l.length / 255 + 16 := by
  obtain ⟨ss, r, e, _, hr⟩ := hO.seqs l hl hlen
  rw [e]
  subst hr
  exact Lz.enc_most
end

end Go.Proofs.Ytnkgcibdibgmjaa
