/- The program's parts in memory. The program's small functions: trunk, isKey, isSmall, fresh, entryOf. Rows of parts of one's own: a part stored, a part read, a part appended. Rows of parts of one's own that grow: what is known of the parts is known whatever becomes of the row. What is read whatever becomes of the store is the same whatever becomes of it. -/
import Derived.Test.YtlcchefiicalpaaZwj
import Derived.Deep.MidRow
namespace Go.Proofs.Ytlcchefiicalpaa
open Go.RowKit
namespace Tr
def bz : Br := ⟨(0, 0, 0), 0, 0, 0⟩
/-- A part's cells: key, entry, branch, is it fresh, and the slice of what it has. -/
structure PC where
  k : Int
  e : E
  b : Br
  fr : Bool
  A : Option Addr
  n : Nat
  c : Nat
end Tr
def pcs : List Tr.PC → List Value
  | [] => []
  | x :: l => .int .i64 x.k :: .int .i64 x.e.k :: .int .i64 x.e.p.1 :: .int .i64 x.e.p.2.1 :: .int .i64 x.e.p.2.2 :: .int .i64 x.e.g :: .int .i64 x.b.k.1 :: .int .i64 x.b.k.2.1 :: .int .i64 x.b.k.2.2 :: .int .i64 x.b.h :: .int .i64 x.b.f :: .int .i64 x.b.t :: .bool x.fr :: .slice x.A x.n x.c :: pcs l
def pcv (x : Tr.PC) : Value := .agg #[.int .i64 x.k, .int .i64 x.e.k, .int .i64 x.e.p.1, .int .i64 x.e.p.2.1, .int .i64 x.e.p.2.2, .int .i64 x.e.g, .int .i64 x.b.k.1, .int .i64 x.b.k.2.1, .int .i64 x.b.k.2.2, .int .i64 x.b.h, .int .i64 x.b.f, .int .i64 x.b.t, .bool x.fr, .slice x.A x.n x.c]
theorem pcs_len : ∀ l : List Tr.PC, (pcs l).length = l.length * 14
  | [] => rfl
  | x :: l => by rw [pcs]; simp only [List.length_cons]; rw [pcs_len l]; omega
theorem pcs_app : ∀ l m : List Tr.PC, pcs (l ++ m) = pcs l ++ pcs m
  | [], _ => rfl
  | x :: l, m => by rw [List.cons_append, pcs, pcs, pcs_app l m]; rfl
theorem pcs_one (l : List Tr.PC) : ∀ u ∈ pcs l, u.oneCell' = true := by
  induction l with
  | nil => simp [pcs]
  | cons a l ih =>
    intro u hu
    rw [pcs] at hu
    simp only [List.mem_cons] at hu
    rcases hu with rfl | rfl | rfl | rfl | rfl | rfl | rfl | rfl | rfl | rfl | rfl | rfl | rfl | rfl | hu
    all_goals first | rfl | exact ih u hu
theorem pcs_take : ∀ (l : List Tr.PC) (k : Nat), pcs (l.take k) = (pcs l).take (k * 14)
  | [], k => by simp [pcs]
  | x :: l, 0 => by simp [pcs]
  | x :: l, k + 1 => by
    rw [List.take_succ_cons, pcs, pcs, pcs_take l k, show (k + 1) * 14 = k * 14 + 1 + 1 + 1 + 1 + 1 + 1 + 1 + 1 + 1 + 1 + 1 + 1 + 1 + 1 by omega]
    simp only [List.take_succ_cons]
theorem pcs_drop : ∀ (l : List Tr.PC) (k : Nat), pcs (l.drop k) = (pcs l).drop (k * 14)
  | [], k => by simp [pcs]
  | x :: l, 0 => by simp
  | x :: l, k + 1 => by
    rw [List.drop_succ_cons, pcs, pcs_drop l k, show (k + 1) * 14 = k * 14 + 1 + 1 + 1 + 1 + 1 + 1 + 1 + 1 + 1 + 1 + 1 + 1 + 1 + 1 by omega]
    simp only [List.drop_succ_cons]
/-- The cells of one part. -/
def pc1 (x : Tr.PC) : List Value := pcs [x]
theorem pcs_at : ∀ {l : List Tr.PC} {k j : Nat} {x : Tr.PC}, l[k]? = some x → j < 14 → (pcs l)[k * 14 + j]? = (pc1 x)[j]?
  | [], _, _, _, h, _ => by cases h
  | y :: l, 0, j, x, h, hj => by
    injection h with h
    subst h
    rw [Nat.zero_mul, Nat.zero_add, show pcs (y :: l) = pc1 y ++ pcs l from rfl, List.getElem?_append_left (by rw [show (pc1 y).length = 14 from rfl]; exact hj)]
  | y :: l, k + 1, j, x, h, hj => by
    have := pcs_at (l := l) (k := k) (j := j) (x := x) (by simpa using h) hj
    rw [show pcs (y :: l) = pc1 y ++ pcs l from rfl, List.getElem?_append_right (by rw [show (pc1 y).length = 14 from rfl]; omega), show (k + 1) * 14 + j - (pc1 y).length = k * 14 + j by rw [show (pc1 y).length = 14 from rfl]; omega, this]
/-- A part's fourteen cells in memory. -/
def PCells (w : World) (b o : Nat) (x : Tr.PC) : Prop :=
  (w.cell? ⟨b, o, none⟩ = some (.int .i64 x.k) ∧ w.cell? ⟨b, o + 1, none⟩ = some (.int .i64 x.e.k) ∧ w.cell? ⟨b, o + 2, none⟩ = some (.int .i64 x.e.p.1) ∧ w.cell? ⟨b, o + 3, none⟩ = some (.int .i64 x.e.p.2.1) ∧ w.cell? ⟨b, o + 4, none⟩ = some (.int .i64 x.e.p.2.2) ∧ w.cell? ⟨b, o + 5, none⟩ = some (.int .i64 x.e.g)) ∧
  (w.cell? ⟨b, o + 6, none⟩ = some (.int .i64 x.b.k.1) ∧ w.cell? ⟨b, o + 7, none⟩ = some (.int .i64 x.b.k.2.1) ∧ w.cell? ⟨b, o + 8, none⟩ = some (.int .i64 x.b.k.2.2) ∧ w.cell? ⟨b, o + 9, none⟩ = some (.int .i64 x.b.h) ∧ w.cell? ⟨b, o + 10, none⟩ = some (.int .i64 x.b.f) ∧ w.cell? ⟨b, o + 11, none⟩ = some (.int .i64 x.b.t)) ∧
  w.cell? ⟨b, o + 12, none⟩ = some (.bool x.fr) ∧ w.cell? ⟨b, o + 13, none⟩ = some (.slice x.A x.n x.c)
theorem Sl.part {w : World} {B : Nat} {A : Option Addr} {l : List Tr.PC} (h : Sl w B A (pcs l)) {i : Nat} {x : Tr.PC} (hi : l[i]? = some x) : ∃ b o, A = some ⟨b, o, none⟩ ∧ b < B ∧ PCells w b (o + i * 14) x := by
  have hil : i < l.length := by
    rcases Nat.lt_or_ge i l.length with h | h
    · exact h
    · rw [List.getElem?_eq_none h] at hi; cases hi
  have hl := pcs_len l
  obtain ⟨b, o, e, hb, hc⟩ := h.at_ (show i * 14 < (pcs l).length by omega)
  have H : ∀ j, j < 14 → w.cell? ⟨b, o + i * 14 + j, none⟩ = (pc1 x)[j]? := fun j hj => by
    rw [Nat.add_assoc, hc (i * 14 + j) (by omega), ← List.getElem?_eq_getElem, pcs_at hi hj]
  exact ⟨b, o, e, hb, ⟨H 0 (by omega), H 1 (by omega), H 2 (by omega), H 3 (by omega), H 4 (by omega), H 5 (by omega)⟩, ⟨H 6 (by omega), H 7 (by omega), H 8 (by omega), H 9 (by omega), H 10 (by omega), H 11 (by omega)⟩, H 12 (by omega), H 13 (by omega)⟩
/-- What a part's cells say: an entry, a branch, or a list of parts. -/
def PR (w : World) : (h : Nat) → Tr.Pt h → Tr.PC → Prop
  | 0, e, x => x = ⟨Tr.E.k e, e, Tr.bz, false, none, 0, 0⟩
  | _ + 1, .inl b, x => x = ⟨b.f, Tr.z, b, false, none, 0, 0⟩
  | h + 1, .inr l, x => x = ⟨Tr.keyP (h + 1) (Tr.frs l), Tr.z, Tr.bz, true, x.A, l.length, x.c⟩ ∧ ∃ cs : List Tr.PC, cs.length = l.length ∧ SlC w w.heap.size x.A x.c l.length (pcs cs) ∧ ∀ (i : Nat) (p : Tr.Pt h) (q : Tr.PC), l[i]? = some p → cs[i]? = some q → PR w h p q
def PRs (w : World) (h : Nat) (l : List (Tr.Pt h)) (cs : List Tr.PC) : Prop := cs.length = l.length ∧ ∀ (i : Nat) (p : Tr.Pt h) (q : Tr.PC), l[i]? = some p → cs[i]? = some q → PR w h p q
/-- A slice of parts that may be read. -/
def PL (w : World) (h : Nat) (l : List (Tr.Pt h)) (A : Option Addr) (c : Nat) : Prop := ∃ cs, SlC w w.heap.size A c l.length (pcs cs) ∧ PRs w h l cs
theorem PR.fresh {w : World} {h : Nat} {l : List (Tr.Pt h)} {A : Option Addr} {c : Nat} (hl : PL w h l A c) : PR w (h + 1) (Tr.frs l) ⟨Tr.keyP (h + 1) (Tr.frs l), Tr.z, Tr.bz, true, A, l.length, c⟩ := by
  obtain ⟨cs, h1, h2, h3⟩ := hl
  exact ⟨rfl, cs, h2, h1, h3⟩
theorem PR.list {w : World} {h : Nat} {l : List (Tr.Pt h)} {x : Tr.PC} (hx : PR w (h + 1) (Tr.frs l) x) : x = ⟨Tr.keyP (h + 1) (Tr.frs l), Tr.z, Tr.bz, true, x.A, l.length, x.c⟩ ∧ PL w h l x.A x.c := by
  obtain ⟨h1, cs, h2, h3, h4⟩ := hx
  exact ⟨h1, cs, h3, h2, h4⟩
theorem PR.key {w : World} : ∀ {h : Nat} {p : Tr.Pt h} {x : Tr.PC}, PR w h p x → x.k = Tr.keyP h p
  | 0, _, _, hx => congrArg Tr.PC.k hx
  | _ + 1, .inl _, _, hx => congrArg Tr.PC.k hx
  | _ + 1, .inr _, _, hx => congrArg Tr.PC.k hx.list.1
/-- One row more, one part less: what is known of all is known of each. -/
theorem PRs.nil (w : World) (h : Nat) : PRs w h [] [] := ⟨rfl, fun i p q hp => by cases hp⟩
theorem PRs.app {w : World} {h : Nat} {l m : List (Tr.Pt h)} {cs ds : List Tr.PC} (h1 : PRs w h l cs) (h2 : PRs w h m ds) : PRs w h (l ++ m) (cs ++ ds) := by
  refine ⟨by rw [List.length_append, List.length_append, h1.1, h2.1], fun i p q hp hq => ?_⟩
  rcases Nat.lt_or_ge i l.length with hi | hi
  · rw [List.getElem?_append_left hi] at hp
    rw [List.getElem?_append_left (by rw [h1.1]; exact hi)] at hq
    exact h1.2 i p q hp hq
  · rw [List.getElem?_append_right hi] at hp
    rw [List.getElem?_append_right (by rw [h1.1]; exact hi), h1.1] at hq
    exact h2.2 _ p q hp hq
theorem PRs.one {w : World} {h : Nat} {p : Tr.Pt h} {x : Tr.PC} (hx : PR w h p x) : PRs w h [p] [x] := ⟨rfl, fun i a b ha hb => by
  cases i with
  | zero => injection ha with ha; injection hb with hb; subst ha; subst hb; exact hx
  | succ i => cases ha⟩
theorem PRs.sub {w : World} {h : Nat} {l : List (Tr.Pt h)} {cs : List Tr.PC} (h1 : PRs w h l cs) (i k : Nat) : PRs w h ((l.drop i).take k) ((cs.drop i).take k) := by
  refine ⟨by rw [List.length_take, List.length_take, List.length_drop, List.length_drop, h1.1], fun j p q hp hq => ?_⟩
  rw [List.getElem?_take] at hp hq
  split at hp
  · rename_i hj
    rw [if_pos hj] at hq
    rw [List.getElem?_drop] at hp hq
    exact h1.2 _ p q hp hq
  · cases hp
theorem PRs.take {w : World} {h : Nat} {l : List (Tr.Pt h)} {cs : List Tr.PC} (h1 : PRs w h l cs) (k : Nat) : PRs w h (l.take k) (cs.take k) := by
  have := h1.sub 0 k
  simpa using this
theorem PRs.drop {w : World} {h : Nat} {l : List (Tr.Pt h)} {cs : List Tr.PC} (h1 : PRs w h l cs) (k : Nat) : PRs w h (l.drop k) (cs.drop k) := by
  refine ⟨by rw [List.length_drop, List.length_drop, h1.1], fun j p q hp hq => ?_⟩
  rw [List.getElem?_drop] at hp hq
  exact h1.2 _ p q hp hq
theorem PRs.set {w : World} {h : Nat} {l : List (Tr.Pt h)} {cs : List Tr.PC} (h1 : PRs w h l cs) (k : Nat) {p : Tr.Pt h} {x : Tr.PC} (hx : PR w h p x) : PRs w h (l.set k p) (cs.set k x) := by
  refine ⟨by rw [List.length_set, List.length_set, h1.1], fun j a b ha hb => ?_⟩
  rw [List.getElem?_set] at ha hb
  by_cases hk : k = j
  · rw [if_pos hk] at ha hb
    split at ha
    · rename_i hl
      rw [if_pos (by rw [h1.1]; exact hl)] at hb
      injection ha with ha; injection hb with hb
      subst ha; subst hb
      exact hx
    · cases ha
  · rw [if_neg hk] at ha hb
    exact h1.2 j a b ha hb
theorem PR.below {w w' : World} (hb : Below w.heap.size w w') : ∀ {h : Nat} {p : Tr.Pt h} {x : Tr.PC}, PR w h p x → PR w' h p x
  | 0, _, _, hx => hx
  | _ + 1, .inl _, _, hx => hx
  | _ + 1, .inr _, _, hx => by
    obtain ⟨h1, cs, h2, h3, h4⟩ := hx
    exact ⟨h1, cs, h2, (h3.below hb).more hb.size, fun i p q hp hq => PR.below hb (h4 i p q hp hq)⟩
theorem PRs.below {w w' : World} (hb : Below w.heap.size w w') {h : Nat} {l : List (Tr.Pt h)} {cs : List Tr.PC} (hx : PRs w h l cs) : PRs w' h l cs := ⟨hx.1, fun i p q hp hq => (hx.2 i p q hp hq).below hb⟩
theorem PL.below {w w' : World} (hb : Below w.heap.size w w') {h : Nat} {l : List (Tr.Pt h)} {A : Option Addr} {c : Nat} (hx : PL w h l A c) : PL w' h l A c := by
  obtain ⟨cs, h1, h2⟩ := hx
  exact ⟨cs, (h1.below hb).more hb.size, h2.below hb⟩
/-- The same whatever becomes of the store. -/
def PLX (X : Nat → Prop) (w : World) (h : Nat) (l : List (Tr.Pt h)) (A : Option Addr) (c : Nat) : Prop := Fast X w fun u => PL u h l A c
def PRX (X : Nat → Prop) (w : World) (h : Nat) (p : Tr.Pt h) (x : Tr.PC) : Prop := Fast X w fun u => PR u h p x
/-- A row of parts of one's own. -/
def PO (X : Nat → Prop) (w : World) (B : Nat) (h : Nat) (l : List (Tr.Pt h)) (v : Value) : Prop := ∃ cs, w.ownsRow B 160 14 v l.length (pcs cs) ∧ (∀ k, v.ownBlock = some k → ¬ X k ∧ k < w.heap.size) ∧ Fast X w fun u => PRs u h l cs
theorem PO.nil (X : Nat → Prop) (w : World) (B h : Nat) : PO X w B h [] (.slice none 0 0) := ⟨[], World.ownsRow_nil w B _ 14, fun k hk => by simp [Value.ownBlock] at hk, fun u _ => .nil u h⟩
theorem PO.step {X X' : Nat → Prop} {w w' : World} {B h : Nat} {l : List (Tr.Pt h)} {v : Value} (hp : PO X w B h l v) (k : Stp w X w' X') : PO X' w' B h l v := by
  obtain ⟨cs, h1, h2, h3⟩ := hp
  exact ⟨cs, own_keep h1 fun b hb hl => k.chg.block b hl (h2 b hb).1, fun b hb => ⟨k.far (h2 b hb).2 (h2 b hb).1, Nat.lt_of_lt_of_le (h2 b hb).2 k.chg.size⟩, h3.step k⟩
theorem PO.below {X : Nat → Prop} {w w' : World} {B h : Nat} {l : List (Tr.Pt h)} {v : Value} (hp : PO X w B h l v) (k : Below w.heap.size w w') : PO X w' B h l v := hp.step (.of_below X k)
theorem PO.plx {X : Nat → Prop} {w : World} {B h : Nat} {l : List (Tr.Pt h)} {A : Option Addr} {n c : Nat} (hp : PO X w B h l (.slice A n c)) : n = l.length ∧ PLX X w h l A c := by
  obtain ⟨cs, h1, h2, h3⟩ := hp
  have hn : n = l.length := by
    rcases h1.2 with ⟨e, e'⟩ | ⟨g, cap, cur, e, -⟩
    · injection e with _ e; rw [e, e']
    · injection e
  subst hn
  refine ⟨rfl, fun u k => ⟨cs, ?_, h3 u k⟩⟩
  have h4 : u.ownsRow B 160 14 (.slice A l.length c) l.length (pcs cs) := own_keep h1 fun b hb hl => k.block b hl (h2 b hb).1
  exact ⟨own_len h4, own_none h4, own_slW' h4⟩
end Go.Proofs.Ytlcchefiicalpaa
namespace Go.Proofs.Ytlcchefiicalpaa
open Go.RowKit
theorem below_alloc2 (w : World) (o o' : Obj) : Below w.heap.size w ((w.alloc o).alloc o') := ((Below.refl _ _).alloc (Nat.le_refl _) _).alloc (by simp) _
theorem below_alloc1 (w : World) (o : Obj) : Below w.heap.size w (w.alloc o) := (Below.refl _ _).alloc (Nat.le_refl _) _
theorem trunk_any (k : Nd.T3) (h : Int) (w : World) : Calls Try.prog 68 #[.agg #[.int .i64 k.1, .int .i64 k.2.1, .int .i64 k.2.2, .int .i64 h]] w fun e w' => e = .returned (Tr.brV (Tr.trunk k h)) ∧ Below w.heap.size w w' := by
  go_enter Try.func68, Try.ntmps68
  go_wp2_with fail
  refine bodyPost_ret (v := Tr.brV (Tr.trunk k h)) ?_ rfl ⟨rfl, below_alloc2 _ _ _⟩
  simp [results, Try.results68]
  go_simp
  rfl
theorem iskey_any (k : Int) (R : Bool) (hR : decide (0 ≤ k ∧ k < 512) = R) (w : World) : Calls Try.prog 71 #[.int .i64 k] w fun e w' => e = .returned (.bool R) ∧ w = w' := by
  go_enter Try.func71, Try.ntmps71
  by_cases h0 : 0 ≤ k
  · have z0 : decide (0 ≤ k) = true := by rw [decide_eq_true_eq]; exact h0
    have e : decide (k < 512) = R := by rw [← hR]; simp [h0]
    clear hR
    go_wp2_with fail
    go_ret
    exact ⟨rfl, rfl⟩
  · have z0 : decide (0 ≤ k) = false := by rw [decide_eq_false_iff_not]; exact h0
    have e : R = false := by rw [← hR]; simp [h0]
    clear hR h0
    subst e
    go_wp2_with fail
    go_ret
    exact ⟨rfl, rfl⟩
set_option maxRecDepth 8000 in
set_option maxHeartbeats 4000000 in
theorem issmall_any (x : Tr.PC) (w : World) (R : Bool) (hR : (x.fr && decide (x.n < 4)) = R) : Calls Try.prog 111 #[pcv x] w fun e w' => e = .returned (.bool R) ∧ Below w.heap.size w w' := by
  obtain ⟨k, ⟨ek, ⟨e1, e2, e3⟩, eg⟩, ⟨⟨k1, k2, k3⟩, bh, bf, bt⟩, fr, A, n, c⟩ := x
  dsimp only [pcv] at hR ⊢
  cases fr
  · have e : R = false := by rw [← hR]; rfl
    subst e
    clear hR
    go_enter Try.func111, Try.ntmps111
    go_wp2_with fail
    go_ret
    exact ⟨rfl, below_alloc1 _ _⟩
  · have e : decide ((n : Int) < 4) = R := by
      rw [← hR, Bool.true_and]
      by_cases h : n < 4
      · rw [decide_eq_true h, decide_eq_true (by omega)]
      · rw [decide_eq_false h, decide_eq_false (by omega)]
    have e' : decide (n < 4) = R := by rw [← hR, Bool.true_and]
    clear hR
    go_enter Try.func111, Try.ntmps111
    go_wp2_with fail
    go_ret
    exact ⟨rfl, below_alloc1 _ _⟩
set_option maxRecDepth 8000 in
set_option maxHeartbeats 4000000 in
theorem fresh_any {w : World} {h : Nat} {l : List (Tr.Pt h)} {A : Option Addr} {c : Nat} (hl : PL w h l A c) : Calls Try.prog 89 #[.slice A l.length c] w fun e w' => e = .returned (pcv ⟨Tr.keyP (h + 1) (Tr.frs l), Tr.z, Tr.bz, true, A, l.length, c⟩) ∧ Below w.heap.size w w' := by
  obtain ⟨n, hn⟩ : ∃ n, l.length = n := ⟨_, rfl⟩
  have Hn := Lib.hid hn
  rw [hn]
  by_cases h0 : n = 0
  · have z0 : decide ((0 : Int) < (n : Int)) = false := by rw [decide_eq_false_iff_not]; omega
    have z1 : decide (0 < n) = false := by rw [decide_eq_false_iff_not]; omega
    have Hk := Lib.hid (show Tr.keyP (h + 1) (Tr.frs l) = 0 by
      obtain rfl : l = [] := List.eq_nil_of_length_eq_zero (by omega)
      rfl)
    clear h0 hn
    go_enter Try.func89, Try.ntmps89
    go_wp2_with fail
    refine bodyPost_ret (v := pcv ⟨0, Tr.z, Tr.bz, true, A, n, c⟩) ?_ rfl ⟨by rw [Hk.out], below_alloc2 _ _ _⟩
    simp [results, Try.results89]
    go_simp
    rfl
  · obtain ⟨cs, hs, hp⟩ := hl
    obtain ⟨p, l', rfl⟩ : ∃ p l', l = p :: l' := by
      cases l with
      | nil => exact absurd hn (fun e => h0 e.symm)
      | cons p l' => exact ⟨p, l', rfl⟩
    obtain ⟨x, cs', rfl⟩ : ∃ p l', cs = p :: l' := by
      cases cs with
      | nil => have := hp.1; simp at this
      | cons p l' => exact ⟨p, l', rfl⟩
    have hk := (hp.2 0 p x rfl rfl).key
    obtain ⟨b, o, rfl, hb, ⟨d0, -⟩, -⟩ := hs.sl.part (i := 0) rfl
    rw [Nat.zero_mul, Nat.add_zero] at d0
    obtain ⟨k, hkk⟩ : ∃ k, k = x.k := ⟨_, rfl⟩
    rw [← hkk] at d0
    have Hk := Lib.hid (show Tr.keyP (h + 1) (Tr.frs (p :: l')) = k from hk.symm.trans hkk.symm)
    have z0 : decide ((0 : Int) < (n : Int)) = true := by rw [decide_eq_true_eq]; omega
    have z1 : decide (0 < n) = true := by rw [decide_eq_true_eq]; omega
    have z2 : (0 : Int) < (n : Int) := by omega
    clear h0 hn hkk hk hs hp
    go_enter Try.func89, Try.ntmps89
    go_wp2_with fail
    refine bodyPost_ret (v := pcv ⟨k, Tr.z, Tr.bz, true, some ⟨b, o, none⟩, n, c⟩) ?_ rfl ⟨by rw [Hk.out], below_alloc2 _ _ _⟩
    simp [results, Try.results89]
    go_simp
    rfl
set_option maxRecDepth 8000 in
set_option maxHeartbeats 4000000 in
theorem entryof_any {w : World} {v : Value} {n : Nd.N} (hv : NdAt w w.heap.size v n) (i : Nat) (h1 : i < n.ks.length) (h2 : i < n.ps.length) (h3 : i < n.gs.length) : Calls Try.prog 70 #[v, .int .i64 (i : Int)] w fun e w' => e = .returned (ev (Tr.leafE n i)) ∧ Below w.heap.size w w' := by
  obtain ⟨A1, c1, A2, c2, A3, c3, A4, c4, rfl, hf⟩ := hv
  obtain ⟨kb, ko, hA1, hkb, dk⟩ := hf.ks.int h1
  obtain ⟨pb, po, hA2, hpb, p0, p1, p2⟩ := hf.ps.three h2
  obtain ⟨gb, go, hA3, hgb, dg⟩ := hf.gs.int h3
  subst hA1; subst hA2; subst hA3
  have hi1 : (i : Int) < n.ks.length := by omega
  have hi2 : (i : Int) < n.ps.length := by omega
  have hi3 : (i : Int) < n.gs.length := by omega
  obtain ⟨k, hk⟩ : ∃ k, k = Nd.at_ n.ks i := ⟨_, rfl⟩
  obtain ⟨p, hp⟩ : ∃ k, k = Nd.t3 n.ps i := ⟨_, rfl⟩
  obtain ⟨g, hg⟩ : ∃ k, k = Nd.at_ n.gs i := ⟨_, rfl⟩
  rw [← hk] at dk
  rw [← hp] at p0 p1 p2
  rw [← hg] at dg
  have He := Lib.hid (show Tr.leafE n i = ⟨k, p, g⟩ by rw [hk, hp, hg]; rfl)
  clear hk hp hg hf
  go_enter Try.func70, Try.ntmps70
  go_upto_region 1 with fail
  go_region
  go_wp2_with fail
  refine bodyPost_ret (v := evv k p.1 p.2.1 p.2.2 g) ?_ rfl ⟨by rw [He.out]; rfl, (below_alloc2 _ _ _).drew⟩
  simp [results, Try.results70]
  go_simp
end Go.Proofs.Ytlcchefiicalpaa
namespace Go.Proofs.Ytlcchefiicalpaa
open Go.RowKit
def lay (xs : List Value) (o : Nat) : List Value → List Value
  | [] => xs
  | v :: r => lay (xs.set o v) (o + 1) r
theorem lay_app (a b : List Value) (o : Nat) : ∀ vs : List Value, lay (a ++ b) (a.length + o) vs = a ++ lay b o vs
  | [] => rfl
  | v :: r => by
    rw [lay, lay, List.set_append_right _ _ (by omega), show a.length + o - a.length = o by omega, Nat.add_assoc]
    exact lay_app a _ (o + 1) r
theorem lay_pcs : ∀ (cs : List Tr.PC) (i : Nat) (x : Tr.PC), i < cs.length → lay (pcs cs) (i * 14) (pc1 x) = pcs (cs.set i x)
  | [], i, x, h => by cases h
  | y :: l, 0, x, _ => rfl
  | y :: l, i + 1, x, h => by
    rw [show pcs (y :: l) = pc1 y ++ pcs l from rfl, show (i + 1) * 14 = (pc1 y).length + i * 14 by rw [show (pc1 y).length = 14 from rfl]; omega, lay_app, lay_pcs l i x (by simpa using h)]
    rfl
theorem own_laid {e : TypeId} {B size n b c : Nat} : ∀ (vs xs : List Value) (o : Nat) (w : World), w.ownsRow B e size (.slice (some ⟨b, 0, none⟩) n c) n xs → (w.setCells b o vs).ownsRow B e size (.slice (some ⟨b, 0, none⟩) n c) n (lay xs o vs)
  | [], _, _, _, h => h
  | v :: r, xs, o, w, h => by
    rw [World.setCells, lay]
    exact own_laid r _ _ _ (h.stored o v).1
theorem chg_setCells {F : Nat → Prop} {a : World} {b : Nat} (hb : F b ∨ a.heap.size ≤ b) : ∀ (vs : List Value) (o : Nat) (c : World), Chg F a c → Chg F a (c.setCells b o vs)
  | [], _, _, h => h
  | v :: r, o, c, h => by rw [World.setCells]; exact chg_setCells hb r _ _ (h.setCell (p := ⟨b, o, none⟩) hb v)
theorem below_setC {B b : Nat} {a : World} (hb : B ≤ b) : ∀ (vs : List Value) (o : Nat) (c : World), Below B a c → Below B a (c.setCells b o vs)
  | [], _, _, h => h
  | v :: r, o, c, h => by rw [World.setCells]; exact below_setC hb r _ _ (h.setCell (p := ⟨b, o, none⟩) hb v)
theorem own_below {w w' : World} {B n size : Nat} {e : TypeId} {v : Value} {xs : List Value} (h : w.ownsRow B e size v n xs) (hb : Below w.heap.size w w') : w'.ownsRow B e size v n xs := own_keep h fun b _ hl => hb.block b hl
theorem meas_up {q i : Nat} (h : i < q) : q - (intOf (.int .i64 ((i : Int) + 1))).toNat < q - (intOf (.int .i64 (i : Int))).toNat := by
  show q - ((i : Int) + 1).toNat < q - (i : Int).toNat
  omega
/-- A part stored into a row of one's own. -/
theorem own_part {w : World} {B n b c : Nat} {cs : List Tr.PC} {i : Nat} (h : w.ownsRow B 160 14 (.slice (some ⟨b, 0, none⟩) n c) n (pcs cs)) (hi : i < cs.length) (x : Tr.PC) :
    (w.setCells b (i * 14) (pc1 x)).ownsRow B 160 14 (.slice (some ⟨b, 0, none⟩) n c) n (pcs (cs.set i x)) := by
  rw [← lay_pcs cs i x hi]
  exact own_laid _ _ _ _ h
theorem own_there {w : World} {B n b c : Nat} {xs : List Value} {e : TypeId} {size : Nat} (h : w.ownsRow B e size (.slice (some ⟨b, 0, none⟩) n c) n xs) {i : Nat} (hi : i < n) : w.there b (i * size) size := by
  intro j hj
  have hlt : i * size + j < n * size := by
    have : (i + 1) * size ≤ n * size := Nat.mul_le_mul_right _ (by omega)
    rw [Nat.add_mul] at this; omega
  refine ⟨?_, h.frozenAt _⟩
  rw [h.cellAt _ hlt, List.getElem?_eq_getElem (by rw [h.1]; exact hlt)]
  rfl
/-- A part's range of cells, read whole. -/
theorem Sl.range {w : World} {B : Nat} {A : Option Addr} {l : List Tr.PC} (h : Sl w B A (pcs l)) {i : Nat} {x : Tr.PC} (hi : l[i]? = some x) : ∃ b o, A = some ⟨b, o, none⟩ ∧ b < B ∧ w.rangeAt b (o + i * 14) (pc1 x) := by
  have hil : i < l.length := by
    rcases Nat.lt_or_ge i l.length with h | h
    · exact h
    · rw [List.getElem?_eq_none h] at hi; cases hi
  have hl := pcs_len l
  obtain ⟨b, o, e, hb, hc⟩ := h.at_ (show i * 14 < (pcs l).length by omega)
  refine ⟨b, o, e, hb, fun j v hv => ?_⟩
  have hj : j < 14 := (List.getElem?_eq_some_iff.1 hv).1
  rw [Nat.add_assoc, hc (i * 14 + j) (by omega), ← List.getElem?_eq_getElem, pcs_at hi hj, hv]
theorem part_parts : ∃ i, Try.prog.info? 160 = some i ∧ i.zero = some (.agg #[.int .i64 0, .int .i64 0, .int .i64 0, .int .i64 0, .int .i64 0, .int .i64 0, .int .i64 0, .int .i64 0, .int .i64 0, .int .i64 0, .int .i64 0, .int .i64 0, .bool false, .slice none 0 0]) ∧ i.size = 14 ∧ i.bytes = 128 := by
  have h : (Try.prog.info? 160).map (fun i => (i.zero, i.size, i.bytes)) = some (some (.agg #[.int .i64 0, .int .i64 0, .int .i64 0, .int .i64 0, .int .i64 0, .int .i64 0, .int .i64 0, .int .i64 0, .int .i64 0, .int .i64 0, .int .i64 0, .int .i64 0, .bool false, .slice none 0 0]), 14, 128) := by kernel_rfl
  obtain ⟨i, hi, hz⟩ := Option.map_eq_some_iff.1 h
  simp only [Prod.mk.injEq] at hz
  exact ⟨i, hi, hz.1, hz.2.1, hz.2.2⟩
theorem part_size : (Try.prog.info? 160).map (·.size) = some 14 := by kernel_rfl
def Tr.pz : Tr.PC := ⟨0, Tr.z, Tr.bz, false, none, 0, 0⟩
theorem made_parts (n : Nat) : (madeCells (Value.agg #[.int .i64 0, .int .i64 0, .int .i64 0, .int .i64 0, .int .i64 0, .int .i64 0, .int .i64 0, .int .i64 0, .int .i64 0, .int .i64 0, .int .i64 0, .int .i64 0, .bool false, .slice none 0 0]).cells (n * 14)).toList = pcs (List.replicate n Tr.pz) := by
  unfold madeCells
  rw [Array.toList_map, Array.toList_range]
  show List.map (fun j => (pc1 Tr.pz).toArray[j % 14]!) (List.range (n * 14)) = _
  induction n with
  | zero => rfl
  | succ n ih =>
    rw [List.replicate_succ, show pcs (Tr.pz :: List.replicate n Tr.pz) = pc1 Tr.pz ++ pcs (List.replicate n Tr.pz) from rfl, ← ih, show (n + 1) * 14 = 14 + n * 14 by omega, List.range_add, List.map_append, List.map_map]
    congr 1
    refine List.map_congr_left fun j _ => ?_
    show (pc1 Tr.pz).toArray[(14 + j) % 14]! = _
    rw [Nat.add_mod_left]
end Go.Proofs.Ytlcchefiicalpaa
namespace Go.Proofs.Ytlcchefiicalpaa
open Go.RowKit
theorem Stp.with {w w' : World} {X X' : Nat → Prop} (h : Stp w X w' X') (G : Nat → Prop) : Stp w (fun b => X b ∨ G b) w' (fun b => X' b ∨ G b) :=
  ⟨h.chg.mono fun _ h => .inl h, fun b hb => hb.elim (fun hb => (h.new b hb).imp .inl id) (fun hb => .inl (.inr hb))⟩
theorem Fast.anti {X Y : Nat → Prop} {w : World} {P : World → Prop} (h : Fast X w P) (hXY : ∀ b, Y b → X b) : Fast Y w P := fun u k => h u (k.mono hXY)
/-- What was there ahead stays whatever becomes of newer blocks. -/
theorem Fast.new {X X' G : Nat → Prop} {w w' : World} {P : World → Prop} (h : Fast X w P) (k : Stp w X w' X') (hG : ∀ b, G b → w.heap.size ≤ b) : Fast (fun b => X' b ∨ G b) w' P := fun u q => h u
  ⟨q.os.trans k.chg.os, q.tape.trans k.chg.tape, q.output.trans k.chg.output, Nat.le_trans k.chg.size q.size, fun i hi hX => (q.block i (Nat.lt_of_lt_of_le hi k.chg.size) fun e => e.elim (fun e => (k.new i e).elim hX fun e => by omega) fun e => by have := hG i e; omega).trans (k.chg.block i hi hX)⟩
structure PQ (X : Nat → Prop) (w : World) (B : Nat) (h : Nat) (l : List (Tr.Pt h)) (v : Value) (cs : List Tr.PC) : Prop where
  own : w.ownsRow B 160 14 v l.length (pcs cs)
  far : ∀ k, v.ownBlock = some k → ¬ X k ∧ k < w.heap.size
  are : Fast (fun b => X b ∨ v.ownBlock = some b) w fun u => PRs u h l cs
theorem PQ.nil (X : Nat → Prop) (w : World) (B h : Nat) : PQ X w B h [] (.slice none 0 0) [] := ⟨World.ownsRow_nil w B _ 14, fun k hk => by simp [Value.ownBlock] at hk, fun u _ => .nil u h⟩
section
variable {X X' : Nat → Prop} {w w' : World} {B h : Nat} {l : List (Tr.Pt h)} {v : Value} {cs : List Tr.PC}
theorem PQ.step (hp : PQ X w B h l v cs) (k : Stp w X w' X') : PQ X' w' B h l v cs :=
  ⟨own_keep hp.own fun b hb hl => k.chg.block b hl (hp.far b hb).1, fun b hb => ⟨k.far (hp.far b hb).2 (hp.far b hb).1, Nat.lt_of_lt_of_le (hp.far b hb).2 k.chg.size⟩, hp.are.step (k.with _)⟩
theorem PQ.below (hp : PQ X w B h l v cs) (k : Below w.heap.size w w') : PQ X w' B h l v cs := hp.step (.of_below X k)
theorem PQ.form (hp : PQ X w B h l v cs) : ∃ A c, v = .slice A l.length c := own_slice hp.own
theorem PQ.plx {A : Option Addr} {n c : Nat} (hp : PQ X w B h l (.slice A n c) cs) : PLX X w h l A c := fun u k => by
  have h4 : u.ownsRow B 160 14 (.slice A n c) l.length (pcs cs) := own_keep hp.own fun b hb hl => k.block b hl (hp.far b hb).1
  have hn : n = l.length := by
    rcases h4.2 with ⟨e, e'⟩ | ⟨g, cap, cur, e, -⟩
    · injection e with _ e; rw [e, e']
    · injection e
  subst hn
  exact ⟨cs, ⟨own_len h4, own_none h4, own_slW' h4⟩, hp.are u (k.mono fun _ h => .inl h)⟩
theorem PQ.len (hp : PQ X w B h l v cs) : cs.length = l.length := by
  have := hp.own.1
  rw [pcs_len] at this
  omega
/-- Behind an append. -/
theorem PQ.push {m : List (Tr.Pt h)} {ds : List Tr.PC} {v' : Value} (hp : PQ X w B h l v cs) (hX : ∀ b, X b → b < w.heap.size) (hx : Fast (fun b => X b ∨ v.ownBlock = some b) w fun u => PRs u h m ds) (o : w'.ownsRow B 160 14 v' (l.length + m.length) (pcs cs ++ pcs ds)) (g : w.grownBy w' v.ownBlock) (hb : v'.ownBlock = v.ownBlock ∨ v'.ownBlock = some w.heap.size) : PQ X w' B h (l ++ m) v' (cs ++ ds) := by
  refine ⟨by rw [List.length_append, pcs_app]; exact o, fun k hk => ⟨?_, (o.lt k hk).2⟩, fun u q => ?_⟩
  · rcases hb with e | e
    · exact (hp.far k (e ▸ hk)).1
    · rw [e] at hk
      injection hk with hk
      subst hk
      exact fun hX' => Nat.lt_irrefl _ (hX _ hX')
  · have q' : Chg (fun b => X b ∨ v.ownBlock = some b) w u := ⟨q.os.trans g.os, q.tape.trans g.tape, q.output.trans g.output, Nat.le_trans g.size q.size, fun i hi hn => (q.block i (Nat.lt_of_lt_of_le hi g.size) fun e => e.elim (fun e => hn (.inl e)) fun e => by
      rcases hb with e' | e'
      · exact hn (.inr (e' ▸ e))
      · rw [e'] at e; injection e with e; omega).trans (g.block i hi fun e => hn (.inr e.symm))⟩
    exact (hp.are u q').app (hx u q')
end
end Go.Proofs.Ytlcchefiicalpaa
namespace Go.Proofs.Ytlcchefiicalpaa
open Go.RowKit
theorem pcs_inj : ∀ {a b : List Tr.PC}, a.length = b.length → pcs a = pcs b → a = b
  | [], [], _, _ => rfl
  | [], _ :: _, h, _ => by cases h
  | _ :: _, [], h, _ => by cases h
  | ⟨k, ⟨ek, ⟨e1, e2, e3⟩, eg⟩, ⟨⟨k1, k2, k3⟩, bh, bf, bt⟩, fr, A, n, c⟩ :: a, ⟨k', ⟨ek', ⟨e1', e2', e3'⟩, eg'⟩, ⟨⟨k1', k2', k3'⟩, bh', bf', bt'⟩, fr', A', n', c'⟩ :: b, h, e => by
    simp only [pcs, List.cons.injEq, Value.int.injEq, Value.bool.injEq, Value.slice.injEq, true_and] at e
    obtain ⟨h1, h2, h3, h4, h5, h6, h7, h8, h9, h10, h11, h12, h13, ⟨h14, h15, h16⟩, he⟩ := e
    subst h1 h2 h3 h4 h5 h6 h7 h8 h9 h10 h11 h12 h13 h14 h15 h16
    rw [pcs_inj (by simpa using h) he]
theorem PLX.uni {X : Nat → Prop} {w : World} {h : Nat} {l : List (Tr.Pt h)} {A : Option Addr} {c : Nat} (hl : PLX X w h l A c) : ∃ cs, Fast X w fun u => SlC u u.heap.size A c l.length (pcs cs) ∧ PRs u h l cs := by
  obtain ⟨cs, h1, h2⟩ := hl.now
  refine ⟨cs, fun u q => ?_⟩
  obtain ⟨ds, h3, h4⟩ := hl u q
  have e : ds = cs := by
    refine pcs_inj (h4.1.trans h2.1.symm) ?_
    have hl1 := pcs_len cs
    have hl2 := pcs_len ds
    rcases h1.sl with e0 | ⟨b, o, e1, hb, hc⟩
    · have e00 : (pcs cs).length = 0 := by exact congrArg List.length e0
      have e01 : pcs cs = [] := List.eq_nil_of_length_eq_zero e00
      rw [e01]
      exact List.eq_nil_of_length_eq_zero (by rw [hl2, h4.1, ← h2.1]; omega)
    · by_cases hn : l.length = 0
      · exact (List.eq_nil_of_length_eq_zero (by rw [hl2, h4.1, hn])).trans (List.eq_nil_of_length_eq_zero (by rw [hl1, h2.1, hn])).symm
      · have hX : ¬ X b := fun hX => by
          obtain ⟨fs, h5, h6⟩ := hl (w.setRow b #[]) ⟨rfl, rfl, rfl, by simp, fun i _ hi => setRow_other w b i _ (fun e => hi (e ▸ hX))⟩
          have hl3 := pcs_len fs
          obtain ⟨b', o', e', -, hc'⟩ := h5.sl.at_ (i := 0) (by rw [hl3, h6.1]; omega)
          rw [e1] at e'
          injection e' with e'
          injection e' with e' e''
          subst e'; subst e''
          have c0 := hc 0 (by rw [hl1, h2.1]; omega)
          have c1 := hc' 0 (by rw [hl3, h6.1]; omega)
          obtain ⟨cur, t, fr, hcur⟩ : ∃ cur t fr, w.heap[b]? = some (.cells cur t fr) := by
            unfold World.cell? at c0
            dsimp only at c0
            split at c0
            · rename_i c1 t1 f1 hh; exact ⟨_, _, _, hh⟩
            · cases c0
          rw [cell_setRow_same w b _ cur #[] t fr hcur] at c1
          simp at c1
        refine List.ext_getElem (by rw [hl1, hl2, h4.1, h2.1]) fun i i1 i2 => ?_
        obtain ⟨b', o', e', -, hc'⟩ := h3.sl.at_ i1
        rw [e1] at e'
        injection e' with e'
        injection e' with e' e''
        subst e'; subst e''
        have c0 := hc i i2
        have c1 := hc' i i1
        rw [World.cell?_of_block (q.block b hb hX), c0] at c1
        injection c1 with c1
        exact c1.symm
  subst e
  exact ⟨h3, h4⟩
end Go.Proofs.Ytlcchefiicalpaa
