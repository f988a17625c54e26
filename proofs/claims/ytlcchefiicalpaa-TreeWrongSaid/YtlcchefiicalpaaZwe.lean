/- The program's tree, plain: what its functions answer, over any store. What a leaf has after the edits, plain: by its answers. Edits in order, plain: the last one of each key. Trees that stand right between wider bounds; what a store's load of such a tree answers; Get and the walk of all nodes, plain. The program's parts, plain: heights are right, and lists are no longer than what they hold. -/
import Derived.Test.YtlcchefiicalpaaZwc
import Derived.Test.YtlcchefiicalpaaZwd
namespace Go.Proofs.Ytlcchefiicalpaa
open Go.RowKit
namespace Tr
/-- A store, plain: what a load and a save answer, and its state behind them. -/
abbrev Res (σ α : Type) := σ × Except Int α
structure Sto (σ : Type) where
  ld : σ → Nd.T3 → Res σ Nd.N
  sv : σ → Nd.N → Res σ Nd.T3
/-- A node, and what is known of it from above. -/
structure Br where
  k : Nd.T3
  h : Int
  f : Int
  t : Int
/-- A child's first block is an int. -/
def KR (k : Nd.T3) : Prop := -9223372036854775808 ≤ k.1 ∧ k.1 ≤ 9223372036854775807
theorem kr_ok {k : Nd.T3} (h : Nd.KidOk k) : KR k := by obtain ⟨⟨h1, h2, -⟩, -⟩ := h; exact ⟨by omega, by omega⟩
def kidB (b : Br) (n : Nd.N) (i : Nat) : Br := ⟨Nd.t3 n.cs i, b.h - 1, Nd.at_ n.ks i, next n b.t i⟩
def trunk (k : Nd.T3) (h : Int) : Br := ⟨k, h, 0, 512⟩
/-- A node is as it was said from above. -/
def FitsB (b : Br) (n : Nd.N) : Prop := Nd.Ok n ∧ n.h = b.h ∧ ∀ i, i < n.ks.length → b.f ≤ Nd.at_ n.ks i ∧ Nd.at_ n.ks i < b.t
theorem kr_kid {b : Br} {n : Nd.N} {h i : Nat} (hh : b.h.toNat = h + 1) (hf : FitsB b n) (hi : i < n.ks.length) : KR (kidB b n i).k := kr_ok ((hf.1.inner (by have := hf.2.1; omega)).2.2.2.2 i hi)
/-- What a node has for a key: a leaf an entry; an inner node a child that is saved, or one that is to be saved. -/
def Pt : Nat → Type
  | 0 => E
  | h + 1 => Br ⊕ List (Pt h)
def old {h : Nat} (b : Br) : Pt (h + 1) := .inl b
def frs {h : Nat} (l : List (Pt h)) : Pt (h + 1) := .inr l
section
open Classical
variable {σ : Type} (S : Sto σ)
noncomputable def load (st : σ) (b : Br) : Res σ Nd.N := match S.ld st b.k with
  | (st', .error e) => (st', .error e)
  | (st', .ok n) => (st', if FitsB b n then .ok n else .error 4)
def keyP : (h : Nat) → Pt h → Int
  | 0, e => E.k e
  | _ + 1, .inl b => b.f
  | h + 1, .inr l => match l with
    | [] => 0
    | p :: _ => keyP h p
def kidsB (b : Br) (n : Nd.N) : List Br := (List.range n.ks.length).map (kidB b n)
def parts : (h : Nat) → Br → Nd.N → List (Pt h)
  | 0, _, n => leaf n
  | _ + 1, b, n => (kidsB b n).map old
noncomputable def partsOf (h : Nat) (st : σ) (b : Br) : Res σ (List (Pt h)) := match load S st b with
  | (st', .error e) => (st', .error e)
  | (st', .ok n) => (st', .ok (parts h b n))
noncomputable def opn (h : Nat) (st : σ) (p : Pt (h + 1)) : Res σ (List (Pt h)) := match p with
  | .inl b => partsOf S h st b
  | .inr l => (st, .ok l)
def small {h : Nat} (p : Pt (h + 1)) : Bool := match p with
  | .inl _ => false
  | .inr l => decide (l.length < 4)
def emp {h : Nat} (p : Pt (h + 1)) : Bool := match p with
  | .inl _ => false
  | .inr l => l.isEmpty
/-- As many children as are wanted for these parts. -/
def pieces {h : Nat} (l : List (Pt h)) : List (Pt (h + 1)) := (List.range ((l.length + 7) / 8)).map fun i => frs ((l.drop (i * l.length / ((l.length + 7) / 8))).take ((i + 1) * l.length / ((l.length + 7) / 8) - i * l.length / ((l.length + 7) / 8)))
def split {h : Nat} (l : List (Pt (h + 1))) : List (Pt (h + 1)) := l.flatMap fun x => match x with
  | .inl b => [old b]
  | .inr l => pieces l
/-- The two loops of fit; the parts that are done lie on a stack, the last one on top. -/
def fitA {h : Nat} (jn : σ → Pt (h + 1) → Pt (h + 1) → Res σ (Pt (h + 1))) : List (Pt (h + 1)) → σ → List (Pt (h + 1)) → Res σ (List (Pt (h + 1)))
  | [], st, s => (st, .ok s)
  | x :: l, st, s => if emp x then fitA jn l st s else match s with
    | [] => fitA jn l st [x]
    | y :: s => if small y then (match jn st y x with
      | (st', .error e) => (st', .error e)
      | (st', .ok z) => fitA jn l st' (z :: s)) else fitA jn l st (x :: y :: s)
def fitB {h : Nat} (jn : σ → Pt (h + 1) → Pt (h + 1) → Res σ (Pt (h + 1))) : Nat → σ → List (Pt (h + 1)) → Res σ (List (Pt (h + 1)))
  | 0, st, s => (st, .ok s)
  | m + 1, st, s => match s with
    | x :: y :: s => if small x then (match jn st y x with
      | (st', .error e) => (st', .error e)
      | (st', .ok z) => fitB jn m st' (z :: s)) else (st, .ok (x :: y :: s))
    | s => (st, .ok s)
def fitJ {h : Nat} (jn : σ → Pt (h + 1) → Pt (h + 1) → Res σ (Pt (h + 1))) (st : σ) (l : List (Pt (h + 1))) : Res σ (List (Pt (h + 1))) := match fitA jn l st [] with
  | (st', .error e) => (st', .error e)
  | (st', .ok s) => match fitB jn s.length st' s with
    | (st'', .error e) => (st'', .error e)
    | (st'', .ok s) => (st'', .ok (split s.reverse))
noncomputable def join : (h : Nat) → σ → Pt (h + 1) → Pt (h + 1) → Res σ (Pt (h + 1))
  | 0, st, x, y => match opn S 0 st x with
    | (st1, .error e) => (st1, .error e)
    | (st1, .ok a) => match opn S 0 st1 y with
      | (st2, .error e) => (st2, .error e)
      | (st2, .ok b) => (st2, .ok (frs (a ++ b)))
  | h + 1, st, x, y => match opn S (h + 1) st x with
    | (st1, .error e) => (st1, .error e)
    | (st1, .ok a) => match opn S (h + 1) st1 y with
      | (st2, .error e) => (st2, .error e)
      | (st2, .ok b) => match fitJ (join h) st2 (a ++ b) with
        | (st3, .error e) => (st3, .error e)
        | (st3, .ok l) => (st3, .ok (frs l))
noncomputable def fit (h : Nat) (st : σ) (l : List (Pt (h + 1))) : Res σ (List (Pt (h + 1))) := fitJ (join S h) st l
/-- What is done to one key. -/
structure Ed where
  x : E
  cut : Bool
def cnt (l : List Ed) (t : Int) : Nat := (l.takeWhile fun x => decide (x.x.k < t)).length
def dropEq (l : List E) (k : Int) : List E := match l with
  | [] => []
  | y :: l' => if y.k = k then l' else y :: l'
def merged : List Ed → List E → List E
  | [], l => l
  | x :: xs, l => (l.takeWhile fun y => decide (y.k < x.x.k)) ++ ((if x.cut then [] else [x.x]) ++ merged xs (dropEq (l.dropWhile fun y => decide (y.k < x.x.k)) x.x.k))
/-- The children of a node, each with the edits that are its own. -/
def edKids {h : Nat} (ed : σ → Br → List Ed → Res σ (List (Pt h) × Bool)) : List Br → σ → List Ed → Res σ (List (Pt (h + 1)) × Bool)
  | [], st, _ => (st, .ok ([], false))
  | b :: bs, st, eds => if cnt eds b.t = 0 then (match edKids ed bs st eds with
      | (st', .error e) => (st', .error e)
      | (st', .ok (l, c)) => (st', .ok (old b :: l, c))) else match ed st b (eds.take (cnt eds b.t)) with
      | (st', .error e) => (st', .error e)
      | (st', .ok (below, is)) => match edKids ed bs st' (eds.drop (cnt eds b.t)) with
        | (st'', .error e) => (st'', .error e)
        | (st'', .ok (l, c)) => (st'', .ok ((if is then frs below else old b) :: l, is || c))
noncomputable def edited : (h : Nat) → σ → Br → List Ed → Res σ (List (Pt h) × Bool)
  | 0, st, b, eds => match load S st b with
    | (st', .error e) => (st', .error e)
    | (st', .ok n) => (st', .ok (merged eds (leaf n), decide (leaf n ≠ merged eds (leaf n))))
  | h + 1, st, b, eds => match load S st b with
    | (st', .error e) => (st', .error e)
    | (st', .ok n) => match edKids (edited h) (kidsB b n) st' eds with
      | (st'', .error e) => (st'', .error e)
      | (st'', .ok (l, c)) => if c then (match fit S h st'' l with
        | (st3, .error e) => (st3, .error e)
        | (st3, .ok l) => (st3, .ok (l, true))) else (st'', .ok ([], false))
/-- A leaf, an inner node of these parts. -/
def leafN (l : List E) : Nd.N := ⟨0, l.map (·.k), l.map (·.p), l.map (·.g), []⟩
def innerN {h : Nat} (l : List (Pt (h + 1))) (ks : List Nd.T3) : Nd.N := ⟨((h + 1 : Nat) : Int), l.map (keyP (h + 1)), [], [], ks⟩
noncomputable def saveN (st : σ) (n : Nd.N) : Res σ Nd.T3 := if Nd.Ok n then S.sv st n else (st, .error 4)
def saveKids {h : Nat} (sv : σ → List (Pt h) → Res σ Nd.T3) : List (Pt (h + 1)) → σ → Res σ (List Nd.T3)
  | [], st => (st, .ok [])
  | .inl b :: l, st => match saveKids sv l st with
    | (st', .error e) => (st', .error e)
    | (st', .ok ks) => (st', .ok (b.k :: ks))
  | .inr p :: l, st => match sv st p with
    | (st', .error e) => (st', .error e)
    | (st', .ok k) => match saveKids sv l st' with
      | (st'', .error e) => (st'', .error e)
      | (st'', .ok ks) => (st'', .ok (k :: ks))
noncomputable def save : (h : Nat) → σ → List (Pt h) → Res σ Nd.T3
  | 0, st, l => saveN S st (leafN l)
  | h + 1, st, l => match saveKids (save h) l st with
    | (st', .error e) => (st', .error e)
    | (st', .ok ks) => saveN S st' (innerN l ks)
/-- A root: its kid and its height. -/
noncomputable def plantUp : Nat → (h : Nat) → List (Pt h) → σ → Res σ (Nd.T3 × Int)
  | f, h, l, st => if l.length ≤ 8 then (match save S h st l with
      | (st', .error e) => (st', .error e)
      | (st', .ok k) => (st', .ok (k, (h : Int)))) else match f with
    | 0 => (st, .error 99)
    | f + 1 => plantUp f (h + 1) (pieces l) st
noncomputable def plant : (h : Nat) → List (Pt h) → σ → Res σ (Nd.T3 × Int)
  | 0, l, st => plantUp S 5 0 l st
  | h + 1, l, st => match l with
    | [] => plantUp S 5 0 [] st
    | [.inl b] => (st, .ok (b.k, (h : Int)))
    | [.inr l] => plant h l st
    | l => plantUp S (5 - (h + 1)) (h + 1) l st
def lastOnes : List Ed → List Ed
  | [] => []
  | [x] => [x]
  | x :: y :: l => if y.x.k = x.x.k then lastOnes (y :: l) else x :: lastOnes (y :: l)
def insE (x : Ed) : List Ed → List Ed
  | [] => [x]
  | y :: l => if x.x.k < y.x.k then x :: y :: l else y :: insE x l
/-- Sorted; what comes later lies behind its like. -/
def sortE (l : List Ed) : List Ed := l.foldl (fun s x => insE x s) []
def inOrder (l : List Ed) : List Ed := lastOnes (sortE l)
noncomputable def change (st : σ) (k : Nd.T3) (h : Int) (eds : List Ed) : Res σ (Nd.T3 × Int) := if eds = [] then (st, .ok (k, h)) else match edited S h.toNat st (trunk k h) (inOrder eds) with
  | (st', .error e) => (st', .error e)
  | (st', .ok (l, c)) => if c then plant S h.toNat l st' else (st', .ok (k, h))
noncomputable def getP : (h : Nat) → σ → Br → Int → Res σ (Option E)
  | 0, st, b, key => match load S st b with
    | (st', .error e) => (st', .error e)
    | (st', .ok n) => (st', .ok (if (Nd.find n.ks key).2 then some (leafE n (Nd.find n.ks key).1) else none))
  | h + 1, st, b, key => match load S st b with
    | (st', .error e) => (st', .error e)
    | (st', .ok n) => if key < Nd.at_ n.ks (Nd.find n.ks key).1 then (st', .ok none) else getP h st' (kidB b n (Nd.find n.ks key).1) key
/-- All entries and all nodes' kids below a list of branches, one behind the other. -/
def walkKids {α : Type} (v : σ → Br → Res σ (List α)) : List Br → σ → Res σ (List α)
  | [], st => (st, .ok [])
  | b :: bs, st => match v st b with
    | (st', .error e) => (st', .error e)
    | (st', .ok a) => match walkKids v bs st' with
      | (st'', .error e) => (st'', .error e)
      | (st'', .ok c) => (st'', .ok (a ++ c))
/-- A walk through all nodes: what each gives, a node ahead of those below it. -/
noncomputable def walk {α : Type} (g : Br → Nd.N → List α) : (h : Nat) → σ → Br → Res σ (List α)
  | 0, st, b => match load S st b with
    | (st', .error e) => (st', .error e)
    | (st', .ok n) => (st', .ok (g b n))
  | h + 1, st, b => match load S st b with
    | (st', .error e) => (st', .error e)
    | (st', .ok n) => match walkKids (walk g h) (kidsB b n) st' with
      | (st'', .error e) => (st'', .error e)
      | (st'', .ok c) => (st'', .ok (g b n ++ c))
/-- What All and Nodes take of a node. -/
def allG (_ : Br) (n : Nd.N) : List E := (List.range n.ps.length).map (leafE n)
def nodesG (b : Br) (_ : Nd.N) : List Nd.T3 := [b.k]
end
end Tr
end Go.Proofs.Ytlcchefiicalpaa
namespace Go.Proofs.Ytlcchefiicalpaa
open Go.RowKit
namespace Tr
/-- What the edits say of a key. -/
def edGet : List Ed → Int → Option E → Option E
  | [], _, d => d
  | x :: xs, k, d => if x.x.k = k then (if x.cut then none else some x.x) else edGet xs k d
def AscP (l : List Ed) : Prop := l.Pairwise fun a b => a.x.k < b.x.k
theorem edGet_none : ∀ {l : List Ed} {k : Int} {d : Option E}, (∀ x ∈ l, x.x.k ≠ k) → edGet l k d = d
  | [], _, _, _ => rfl
  | x :: xs, k, d, h => by
    unfold edGet
    rw [if_neg (h x (List.mem_cons_self ..)), edGet_none fun y hy => h y (List.mem_cons_of_mem _ hy)]
theorem asc_sub {l m : List E} (h : Asc l) (hm : m.Sublist l) : Asc m := List.Pairwise.sublist hm h
theorem dropEq_sub (l : List E) (k : Int) : (dropEq l k).Sublist l := by
  unfold dropEq
  split
  · exact List.Sublist.refl _
  · split
    · exact List.sublist_cons_self _ _
    · exact List.Sublist.refl _
/-- The rest of a leaf behind a key. -/
def rest (l : List E) (k : Int) : List E := dropEq (l.dropWhile fun y => decide (y.k < k)) k
theorem rest_sub (l : List E) (k : Int) : (rest l k).Sublist l := (dropEq_sub _ _).trans (List.dropWhile_sublist _)
theorem dropWhile_ge : ∀ {l : List E} {k : Int}, Asc l → ∀ e ∈ l.dropWhile (fun y => decide (y.k < k)), k ≤ e.k
  | [], _, _, e, h => by cases h
  | x :: l, k, ha, e, h => by
    obtain ⟨h1, h2⟩ := List.pairwise_cons.1 ha
    by_cases hx : x.k < k
    · rw [List.dropWhile_cons_of_pos (by simpa using hx)] at h
      exact dropWhile_ge h2 e h
    · rw [List.dropWhile_cons_of_neg (by simpa using hx)] at h
      rcases List.mem_cons.1 h with rfl | h
      · omega
      · have := h1 e h; omega
theorem rest_gt {l : List E} {k : Int} (ha : Asc l) : ∀ e ∈ rest l k, k < e.k := by
  intro e h
  have hge := dropWhile_ge (l := l) (k := k) ha
  have had : Asc (l.dropWhile fun y => decide (y.k < k)) := asc_sub ha (List.dropWhile_sublist _)
  unfold rest dropEq at h
  split at h
  · cases h
  · rename_i y l' heq
    rw [heq] at hge had
    obtain ⟨h1, -⟩ := List.pairwise_cons.1 had
    have hy := hge y (List.mem_cons_self ..)
    split at h
    · rename_i hk
      have := h1 e h
      omega
    · rename_i hk
      rcases List.mem_cons.1 h with rfl | h
      · omega
      · have := h1 e h; omega
theorem takeWhile_lt {l : List E} {k : Int} : ∀ e ∈ l.takeWhile (fun y => decide (y.k < k)), e.k < k := fun e h => by
  have := List.all_takeWhile (p := fun y : E => decide (y.k < k)) (l := l)
  rw [List.all_eq_true] at this
  simpa using this e h
theorem merged_cons (x : Ed) (xs : List Ed) (l : List E) : merged (x :: xs) l = (l.takeWhile fun y => decide (y.k < x.x.k)) ++ ((if x.cut then [] else [x.x]) ++ merged xs (rest l x.x.k)) := rfl
theorem merged_mem : ∀ {eds : List Ed} {l : List E} {e : E}, e ∈ merged eds l → e ∈ l ∨ ∃ x ∈ eds, x.cut = false ∧ e = x.x
  | [], l, e, h => .inl h
  | x :: xs, l, e, h => by
    rw [merged_cons, List.mem_append, List.mem_append] at h
    rcases h with h | h | h
    · exact .inl ((List.takeWhile_sublist _).subset h)
    · cases hc : x.cut with
      | true => rw [hc] at h; cases h
      | false =>
        rw [hc] at h
        rw [if_neg (by decide), List.mem_singleton] at h
        exact .inr ⟨x, List.mem_cons_self .., hc, h⟩
    · rcases merged_mem h with h | ⟨y, hy, h1, h2⟩
      · exact .inl ((rest_sub _ _).subset h)
      · exact .inr ⟨y, List.mem_cons_of_mem _ hy, h1, h2⟩
theorem merged_gt {x : Ed} {xs : List Ed} {l : List E} (ha : Asc l) (hx : AscP (x :: xs)) : ∀ e ∈ merged xs (rest l x.x.k), x.x.k < e.k := fun e h => by
  obtain ⟨h1, -⟩ := List.pairwise_cons.1 hx
  rcases merged_mem h with h | ⟨y, hy, -, rfl⟩
  · exact rest_gt ha e h
  · exact h1 y hy
theorem merged_asc : ∀ {eds : List Ed} {l : List E}, Asc l → AscP eds → Asc (merged eds l)
  | [], l, ha, _ => ha
  | x :: xs, l, ha, hx => by
    have ih := merged_asc (eds := xs) (l := rest l x.x.k) (asc_sub ha (rest_sub _ _)) (List.pairwise_cons.1 hx).2
    have hg := merged_gt ha hx
    rw [merged_cons]
    unfold Asc at ih ⊢
    rw [List.pairwise_append, List.pairwise_append]
    refine ⟨asc_sub ha (List.takeWhile_sublist _), ⟨?_, ih, ?_⟩, ?_⟩
    · split
      · exact List.Pairwise.nil
      · exact List.pairwise_singleton _ _
    · intro a h1 b h2
      split at h1
      · cases h1
      · rw [List.mem_singleton] at h1
        subst h1
        exact hg b h2
    · intro a h1 b h2
      have h3 := takeWhile_lt a h1
      rcases List.mem_append.1 h2 with h2 | h2
      · split at h2
        · cases h2
        · rw [List.mem_singleton] at h2
          subst h2
          exact h3
      · have := hg b h2
        omega
theorem one_mem {x : Ed} {e : E} (h : e ∈ (if x.cut then [] else [x.x])) : e = x.x := by
  split at h
  · cases h
  · exact List.mem_singleton.1 h
theorem get_append {a b : List E} {k : Int} : get (a ++ b) k = (get a k).or (get b k) := by
  unfold get
  rw [List.find?_append]
theorem rest_get {l : List E} {k q : Int} (hq : k < q) : get (rest l k) q = get l q := by
  have e : l = (l.takeWhile fun y => decide (y.k < k)) ++ l.dropWhile fun y => decide (y.k < k) := (List.takeWhile_append_dropWhile).symm
  conv => rhs; rw [e]
  rw [get_app_none fun e he => by have := takeWhile_lt e he; omega]
  unfold rest dropEq
  split
  · rename_i h; rw [h]
  · rename_i y l' h
    rw [h]
    split
    · rename_i hk
      have : get ([y] ++ l') q = get l' q := get_app_none fun e he => by rw [List.mem_singleton] at he; subst he; omega
      exact this.symm
    · rfl
theorem merged_get : ∀ {eds : List Ed} {l : List E}, Asc l → AscP eds → ∀ k, get (merged eds l) k = edGet eds k (get l k)
  | [], _, _, _, _ => rfl
  | x :: xs, l, ha, hx, k => by
    have hxs := (List.pairwise_cons.1 hx).2
    have har := asc_sub ha (rest_sub l x.x.k)
    have ih := merged_get (eds := xs) (l := rest l x.x.k) har hxs k
    have hg := merged_gt ha hx
    rw [merged_cons]
    unfold edGet
    rcases Int.lt_trichotomy k x.x.k with c | c | c
    · -- ahead of the key
      have hk : ¬ x.x.k = k := by omega
      rw [if_neg hk, edGet_none fun y hy => by have := (List.pairwise_cons.1 hx).1 y hy; omega]
      rw [get_append]
      have h2 : get ((if x.cut then [] else [x.x]) ++ merged xs (rest l x.x.k)) k = none := get_none fun e he => by
        rcases List.mem_append.1 he with he | he
        · rw [one_mem he]; omega
        · have := hg e he; omega
      rw [h2, Option.or_none]
      have e : l = (l.takeWhile fun y => decide (y.k < x.x.k)) ++ l.dropWhile fun y => decide (y.k < x.x.k) := (List.takeWhile_append_dropWhile).symm
      conv => rhs; rw [e]
      rw [get_append, get_none (m := l.dropWhile fun y => decide (y.k < x.x.k)) fun e he => by have := dropWhile_ge ha e he; omega, Option.or_none]
    · subst c
      rw [if_pos rfl, get_app_none fun e he => by have := takeWhile_lt e he; omega]
      cases hc : x.cut with
      | true =>
        rw [if_pos rfl, if_pos rfl, List.nil_append]
        exact get_none fun e he => by have := hg e he; omega
      | false =>
        rw [if_neg (by decide), if_neg (by decide)]
        unfold get
        rw [List.cons_append, List.find?_cons_of_pos (by simp)]
    · have hk : ¬ x.x.k = k := by omega
      have h1 : get ((if x.cut then [] else [x.x]) ++ merged xs (rest l x.x.k)) k = get (merged xs (rest l x.x.k)) k := get_app_none fun e he => by rw [one_mem he]; exact hk
      rw [if_neg hk, get_app_none fun e he => by have := takeWhile_lt e he; omega, h1, ih, rest_get c]
end Tr
end Go.Proofs.Ytlcchefiicalpaa
namespace Go.Proofs.Ytlcchefiicalpaa
open Go.RowKit
namespace Tr
def edVal (x : Ed) : Option E := if x.cut then none else some x.x
/-- What a list of edits says of a key: the last one of it. -/
def lastG : List Ed → Int → Option E → Option E
  | [], _, d => d
  | x :: xs, k, d => lastG xs k (if x.x.k = k then edVal x else d)
def SrtE (l : List Ed) : Prop := l.Pairwise fun a b => a.x.k ≤ b.x.k
theorem lastG_app : ∀ (a b : List Ed) (k : Int) (d : Option E), lastG (a ++ b) k d = lastG b k (lastG a k d)
  | [], _, _, _ => rfl
  | x :: a, b, k, d => by rw [List.cons_append, lastG, lastG_app a b]; rfl
theorem lastG_out : ∀ {l : List Ed} {k : Int} {d : Option E}, (∀ x ∈ l, x.x.k ≠ k) → lastG l k d = d
  | [], _, _, _ => rfl
  | x :: l, k, d, h => by
    rw [lastG, if_neg (h x (List.mem_cons_self ..)), lastG_out fun y hy => h y (List.mem_cons_of_mem _ hy)]
/-- An edit goes past edits of other keys. -/
theorem lastG_past {x : Ed} {b : List Ed} (h : ∀ y ∈ b, y.x.k ≠ x.x.k) (k : Int) (d : Option E) : lastG (x :: b) k d = lastG (b ++ [x]) k d := by
  rw [lastG_app]
  show lastG b k (if x.x.k = k then edVal x else d) = if x.x.k = k then edVal x else lastG b k d
  by_cases hk : x.x.k = k
  · rw [if_pos hk, if_pos hk, lastG_out fun y hy => hk ▸ h y hy]
  · rw [if_neg hk, if_neg hk]
theorem insE_mem {x y : Ed} : ∀ {s : List Ed}, y ∈ insE x s ↔ y = x ∨ y ∈ s
  | [] => by simp [insE]
  | z :: s => by
    unfold insE
    split
    · simp
    · rw [List.mem_cons, insE_mem, List.mem_cons]
      constructor
      · rintro (h | h | h)
        · exact .inr (.inl h)
        · exact .inl h
        · exact .inr (.inr h)
      · rintro (h | h | h)
        · exact .inr (.inl h)
        · exact .inl h
        · exact .inr (.inr h)
theorem insE_srt {x : Ed} : ∀ {s : List Ed}, SrtE s → SrtE (insE x s)
  | [], _ => List.pairwise_singleton _ _
  | z :: s, h => by
    obtain ⟨h1, h2⟩ := List.pairwise_cons.1 h
    unfold insE
    split
    · rename_i hz
      refine List.pairwise_cons.2 ⟨fun y hy => ?_, h⟩
      rcases List.mem_cons.1 hy with rfl | hy
      · omega
      · have := h1 y hy; omega
    · rename_i hz
      refine List.pairwise_cons.2 ⟨fun y hy => ?_, insE_srt h2⟩
      rcases insE_mem.1 hy with rfl | hy
      · omega
      · exact h1 y hy
theorem insE_last {x : Ed} : ∀ {s : List Ed}, SrtE s → ∀ (k : Int) (d : Option E), lastG (insE x s) k d = lastG (s ++ [x]) k d
  | [], _, _, _ => rfl
  | z :: s, h, k, d => by
    obtain ⟨h1, h2⟩ := List.pairwise_cons.1 h
    unfold insE
    split
    · rename_i hz
      refine lastG_past (fun y hy => ?_) k d
      rcases List.mem_cons.1 hy with rfl | hy
      · omega
      · have := h1 y hy; omega
    · rw [lastG, List.cons_append, lastG, insE_last h2]
theorem sort_i : ∀ (l s : List Ed), SrtE s → SrtE (l.foldl (fun s x => insE x s) s) ∧ ∀ k d, lastG (l.foldl (fun s x => insE x s) s) k d = lastG (s ++ l) k d
  | [], s, h => ⟨h, fun k d => by rw [List.append_nil]; rfl⟩
  | x :: l, s, h => by
    obtain ⟨h1, h2⟩ := sort_i l (insE x s) (insE_srt h)
    refine ⟨h1, fun k d => ?_⟩
    rw [List.foldl_cons, h2, lastG_app, insE_last h, lastG_app, lastG_app]
    rfl
theorem sortE_srt (l : List Ed) : SrtE (sortE l) := (sort_i l [] List.Pairwise.nil).1
theorem sortE_last (l : List Ed) (k : Int) (d : Option E) : lastG (sortE l) k d = lastG l k d := (sort_i l [] List.Pairwise.nil).2 k d
theorem lastOnes_mem : ∀ {l : List Ed} {y : Ed}, y ∈ lastOnes l → y ∈ l
  | [], _, h => h
  | [x], _, h => h
  | x :: z :: l, y, h => by
    unfold lastOnes at h
    split at h
    · exact List.mem_cons_of_mem _ (lastOnes_mem h)
    · rcases List.mem_cons.1 h with rfl | h
      · exact List.mem_cons_self ..
      · exact List.mem_cons_of_mem _ (lastOnes_mem h)
theorem lastOnes_asc : ∀ {l : List Ed}, SrtE l → AscP (lastOnes l)
  | [], _ => List.Pairwise.nil
  | [x], _ => List.pairwise_singleton _ _
  | x :: z :: l, h => by
    obtain ⟨h1, h2⟩ := List.pairwise_cons.1 h
    have ih := lastOnes_asc (l := z :: l) h2
    unfold lastOnes
    split
    · exact ih
    · rename_i hz
      refine List.pairwise_cons.2 ⟨fun y hy => ?_, ih⟩
      have hy := lastOnes_mem hy
      have a := h1 z (List.mem_cons_self ..)
      rcases List.mem_cons.1 hy with rfl | hy
      · omega
      · have := (List.pairwise_cons.1 h2).1 y hy; omega
theorem lastOnes_get : ∀ {l : List Ed}, SrtE l → ∀ (k : Int) (d : Option E), edGet (lastOnes l) k d = lastG l k d
  | [], _, _, _ => rfl
  | [x], _, k, d => rfl
  | x :: z :: l, h, k, d => by
    obtain ⟨h1, h2⟩ := List.pairwise_cons.1 h
    have ih := lastOnes_get (l := z :: l) h2 k
    unfold lastOnes
    split
    · rename_i hz
      rw [ih, lastG, lastG, lastG, hz]
      by_cases hk : x.x.k = k
      · rw [if_pos hk, if_pos hk]
      · simp only [if_neg hk]
    · rename_i hz
      rw [edGet, ih]
      show _ = lastG (z :: l) k (if x.x.k = k then edVal x else d)
      by_cases hk : x.x.k = k
      · rw [if_pos hk, if_pos hk]
        have : lastG (z :: l) k (edVal x) = edVal x := lastG_out fun y hy => by
          have a := h1 z (List.mem_cons_self ..)
          rcases List.mem_cons.1 hy with rfl | hy
          · omega
          · have := (List.pairwise_cons.1 h2).1 y hy; omega
        rw [this]
        rfl
      · rw [if_neg hk, if_neg hk]
theorem inOrder_asc (l : List Ed) : AscP (inOrder l) := lastOnes_asc (sortE_srt l)
theorem inOrder_get (l : List Ed) (k : Int) (d : Option E) : edGet (inOrder l) k d = lastG l k d := (lastOnes_get (sortE_srt l) k d).trans (sortE_last l k d)
theorem inOrder_mem {l : List Ed} {y : Ed} (h : y ∈ inOrder l) : y ∈ sortE l := lastOnes_mem h
/-- The edits of a Put, of a Cut. -/
def edPut (l : List E) : List Ed := l.map fun e => ⟨e, false⟩
def edCut (ks : List Int) : List Ed := ks.map fun k => ⟨⟨k, (0, 0, 0), 0⟩, true⟩
theorem edPut_get : ∀ {l m : List E}, Asc m → ∀ k, lastG (edPut l) k (get m k) = get (puts m l) k
  | [], _, _, _ => rfl
  | e :: l, m, ha, k => by
    have ih := edPut_get (l := l) (m := ins m e) (ins_asc ha e) k
    show lastG (edPut l) k (if e.k = k then some e else get m k) = get (puts (ins m e) l) k
    rw [← ih, ins_get ha]
    congr 1
    by_cases h : e.k = k
    · rw [if_pos h, if_pos h.symm]
    · rw [if_neg h, if_neg fun e' => h e'.symm]
theorem edCut_get {m : List E} (ha : Asc m) : ∀ (ks : List Int) (k : Int), lastG (edCut ks) k (get m k) = get (cuts m ks) k := fun ks k => by
  rw [cuts_get ha]
  have h : ∀ (ks : List Int) (d : Option E), lastG (edCut ks) k d = if k ∈ ks then none else d := by
    intro ks
    induction ks with
    | nil => intro d; rfl
    | cons c ks ih =>
      intro d
      show lastG (edCut ks) k (if c = k then none else d) = _
      rw [ih]
      by_cases hc : c = k
      · rw [if_pos hc, if_pos (show k ∈ c :: ks from hc ▸ List.mem_cons_self ..)]
        split <;> rfl
      · rw [if_neg hc]
        by_cases hk : k ∈ ks
        · rw [if_pos hk, if_pos (List.mem_cons_of_mem _ hk)]
        · rw [if_neg hk, if_neg fun h => (List.mem_cons.1 h).elim (fun e => hc e.symm) hk]
  exact h ks _
/-- A leaf after a Put, after a Cut: the document's map. -/
theorem merged_put {m l : List E} (ha : Asc m) : merged (inOrder (edPut l)) m = puts m l := asc_ext (merged_asc ha (inOrder_asc _)) (puts_asc ha l) fun k => by rw [merged_get ha (inOrder_asc _), inOrder_get, edPut_get ha]
theorem merged_cut {m : List E} {ks : List Int} (ha : Asc m) : merged (inOrder (edCut ks)) m = cuts m ks := asc_ext (merged_asc ha (inOrder_asc _)) (cuts_asc ha ks) fun k => by rw [merged_get ha (inOrder_asc _), inOrder_get, edCut_get ha]
theorem dropE_ge : ∀ {eds : List Ed} {t : Int}, AscP eds → ∀ x ∈ eds.dropWhile (fun x => decide (x.x.k < t)), t ≤ x.x.k
  | [], _, _, _, hx => by cases hx
  | z :: l, t, h, x, hx => by
    obtain ⟨h1, h2⟩ := List.pairwise_cons.1 h
    by_cases hz : z.x.k < t
    · rw [List.dropWhile_cons_of_pos (by simpa using hz)] at hx
      exact dropE_ge h2 x hx
    · rw [List.dropWhile_cons_of_neg (by simpa using hz)] at hx
      rcases List.mem_cons.1 hx with rfl | hx
      · omega
      · have := h1 x hx; omega
theorem cnt_take : ∀ (eds : List Ed) (t : Int), eds.take (cnt eds t) = eds.takeWhile fun x => decide (x.x.k < t)
  | [], _ => rfl
  | z :: l, t => by
    have ih := cnt_take l t
    unfold cnt at ih ⊢
    by_cases hz : z.x.k < t
    · rw [List.takeWhile_cons_of_pos (by simpa using hz), List.length_cons, List.take_succ_cons, ih]
    · rw [List.takeWhile_cons_of_neg (by simpa using hz)]; rfl
theorem cnt_drop : ∀ (eds : List Ed) (t : Int), eds.drop (cnt eds t) = eds.dropWhile fun x => decide (x.x.k < t)
  | [], _ => rfl
  | z :: l, t => by
    have ih := cnt_drop l t
    unfold cnt at ih ⊢
    by_cases hz : z.x.k < t
    · rw [List.takeWhile_cons_of_pos (by simpa using hz), List.dropWhile_cons_of_pos (by simpa using hz), List.length_cons, List.drop_succ_cons, ih]
    · rw [List.takeWhile_cons_of_neg (by simpa using hz), List.dropWhile_cons_of_neg (by simpa using hz)]; rfl
/-- Edits below a bound, and from it on. -/
theorem cnt_split {eds : List Ed} {t : Int} (h : AscP eds) : (∀ x ∈ eds.take (cnt eds t), x.x.k < t) ∧ ∀ x ∈ eds.drop (cnt eds t), t ≤ x.x.k := by
  rw [cnt_take, cnt_drop]
  refine ⟨fun x hx => ?_, dropE_ge h⟩
  have := List.all_takeWhile (p := fun y : Ed => decide (y.x.k < t)) (l := eds)
  rw [List.all_eq_true] at this
  simpa using this x hx
end Tr
end Go.Proofs.Ytlcchefiicalpaa
namespace Go.Proofs.Ytlcchefiicalpaa
open Go.RowKit
namespace Tr
theorem Good.mono : ∀ {h : Nat} {L : List Nd.N} {a f t f' t' : Int}, Good L h a f t → f' ≤ f → t ≤ t' → Good L h a f' t'
  | 0, L, a, f, t, f', t', g, hf, ht => ⟨g.1, g.2.1, g.2.2.1, fun i hi => by have := g.2.2.2 i hi; omega⟩
  | h + 1, L, a, f, t, f', t', g, hf, ht => ⟨g.1, g.2.1, g.2.2.1, fun i hi => by
    have h1 := g.key hi
    have h2 := g.kid hi
    refine ⟨by omega, h2.mono (Int.le_refl _) ?_⟩
    unfold next
    split
    · exact Int.le_refl _
    · exact ht⟩
/-- A store that answers with what is saved, or fails with an error of its own. -/
structure Brings {σ : Type} (S : Sto σ) (L : σ → List Nd.N) : Prop where
  same : ∀ st k, L (S.ld st k).1 = L st
  right : ∀ {st k n}, (S.ld st k).2 = .ok n → n = nd (L st) k.1 ∧ In (L st) k.1
section
variable {σ : Type} {S : Sto σ} {L : σ → List Nd.N}
theorem Brings.stays (hS : Brings S L) (st : σ) (b : Br) : L (load S st b).1 = L st := by
  have := hS.same st b.k
  unfold load
  rcases h : S.ld st b.k with ⟨st', e | n⟩
  · rw [h] at this; exact this
  · rw [h] at this; exact this
theorem Brings.node (hS : Brings S L) {st : σ} {b : Br} {n : Nd.N} (h : (load S st b).2 = .ok n) : n = nd (L st) b.k.1 ∧ In (L st) b.k.1 ∧ FitsB b n := by
  unfold load at h
  rcases hl : S.ld st b.k with ⟨st', e | n'⟩
  · rw [hl] at h; cases h
  · rw [hl] at h
    dsimp only at h
    split at h
    · rename_i hf
      injection h with h
      subst h
      obtain ⟨h1, h2⟩ := hS.right (st := st) (k := b.k) (n := n') (by rw [hl])
      exact ⟨h1, h2, hf⟩
    · cases h
/-- A tree that a walk has gone through stands right. -/
theorem walk_good {α : Type} (hS : Brings S L) (g : Br → Nd.N → List α) : ∀ {h : Nat} {st : σ} {b : Br} {r : List α}, b.h.toNat = h → (walk S g h st b).2 = .ok r → L (walk S g h st b).1 = L st ∧ Good (L st) h b.k.1 b.f b.t
  | 0, st, b, r, hh, e => by
    unfold walk at e ⊢
    have hs := hS.stays st b
    rcases h1 : load S st b with ⟨st', er | n⟩
    · rw [h1] at e; cases e
    · rw [h1] at hs
      obtain ⟨e1, e2, e3⟩ := hS.node (st := st) (b := b) (n := n) (by rw [h1])
      refine ⟨hs, ?_⟩
      subst e1
      have h0 := e3.1.h0
      have h2 := e3.2.1
      exact ⟨e2, e3.1, by omega, e3.2.2⟩
  | h + 1, st, b, r, hh, e => by
    unfold walk at e ⊢
    have hs := hS.stays st b
    rcases h1 : load S st b with ⟨st', er | n⟩
    · rw [h1] at e; cases e
    · rw [h1] at hs e
      dsimp only at hs e ⊢
      obtain ⟨e1, e2, e3⟩ := hS.node (st := st) (b := b) (n := n) (by rw [h1])
      have hk : ∀ (l : List Br) (u : σ), (∀ c ∈ l, c.h.toNat = h) → L u = L st → ∀ {q : List α}, (walkKids (walk S g h) l u).2 = .ok q → L (walkKids (walk S g h) l u).1 = L st ∧ ∀ c ∈ l, Good (L st) h c.k.1 c.f c.t := by
        intro l
        induction l with
        | nil => intro u _ hu q _; exact ⟨hu, fun c hc => by cases hc⟩
        | cons c l ih =>
          intro u hl hu q hq
          unfold walkKids at hq ⊢
          rcases h2 : walk S g h u c with ⟨u', er | a⟩
          · rw [h2] at hq; cases hq
          · rw [h2] at hq
            dsimp only at hq ⊢
            obtain ⟨g1, g2⟩ := walk_good hS g (h := h) (st := u) (b := c) (r := a) (hl c (List.mem_cons_self ..)) (by rw [h2])
            rw [h2] at g1
            dsimp only at g1
            rcases h3 : walkKids (walk S g h) l u' with ⟨u'', er | q'⟩
            · rw [h3] at hq; cases hq
            · obtain ⟨i1, i2⟩ := ih u' (fun d hd => hl d (List.mem_cons_of_mem _ hd)) (g1.trans hu) (q := q') (by rw [h3])
              rw [h3] at i1
              refine ⟨i1, fun d hd => ?_⟩
              rcases List.mem_cons.1 hd with rfl | hd
              · rw [← hu]; exact g2
              · exact i2 d hd
      rcases h4 : walkKids (walk S g h) (kidsB b n) st' with ⟨u, er | q⟩
      · rw [h4] at e; cases e
      · obtain ⟨k1, k2⟩ := hk (kidsB b n) st' (fun c hc => by
          obtain ⟨i, -, rfl⟩ := List.mem_map.1 hc
          show (b.h - 1).toNat = h
          omega) hs (q := q) (by rw [h4])
        rw [h4] at k1
        refine ⟨k1, ?_⟩
        have h0 := e3.1.h0
        have h2 := e3.2.1
        refine ⟨e2, e1 ▸ e3.1, by rw [← e1]; omega, fun i hi => ?_⟩
        rw [← e1] at hi ⊢
        exact ⟨e3.2.2 i hi, k2 (kidB b n i) (List.mem_map.2 ⟨i, List.mem_range.2 hi, rfl⟩)⟩
/-- What a walk gathers. -/
def gath {α : Type} (L : List Nd.N) (g : Br → Nd.N → List α) : Nat → Br → List α
  | 0, b => g b (nd L b.k.1)
  | h + 1, b => g b (nd L b.k.1) ++ (kidsB b (nd L b.k.1)).flatMap (gath L g h)
theorem good_fits {M : List Nd.N} {h : Nat} {b : Br} (hg : Good M h b.k.1 b.f b.t) (hh : b.h = (h : Int)) : FitsB b (nd M b.k.1) := ⟨hg.ok, hg.height.trans hh.symm, fun _ hi => hg.key hi⟩
/-- From states P on no load of a saved node fails. -/
structure Able {σ : Type} (S : Sto σ) (L : σ → List Nd.N) (P : σ → Prop) : Prop where
  ok : ∀ {st k}, P st → In (L st) k.1 → ∃ n, (S.ld st k).2 = .ok n
  step : ∀ {st k}, P st → P (S.ld st k).1
theorem Able.load' {P : σ → Prop} (hA : Able S L P) {st : σ} (b : Br) (hp : P st) : P (load S st b).1 := by
  have := hA.step (k := b.k) hp
  unfold load
  rcases h : S.ld st b.k with ⟨st', e | n⟩
  · rw [h] at this; exact this
  · rw [h] at this; exact this
variable {P : σ → Prop}
theorem load_all (hS : Brings S L) (hA : Able S L P) {h : Nat} {st : σ} {b : Br} (hp : P st) (hh : b.h = (h : Int)) (hg : Good (L st) h b.k.1 b.f b.t) : load S st b = ((load S st b).1, .ok (nd (L st) b.k.1)) := by
  obtain ⟨n, hn⟩ := hA.ok (k := b.k) hp hg.in_
  obtain ⟨e1, -⟩ := hS.right hn
  subst e1
  unfold load
  rcases h1 : S.ld st b.k with ⟨st', r⟩
  rw [h1] at hn
  dsimp only at hn
  subst hn
  dsimp only
  rw [if_pos (good_fits hg hh)]
/-- Where no load fails, and the tree stands right, a walk gathers all. -/
theorem walk_all {α : Type} (hS : Brings S L) (hA : Able S L P) (g : Br → Nd.N → List α) : ∀ {h : Nat} {st : σ} {b : Br}, P st → b.h = (h : Int) → Good (L st) h b.k.1 b.f b.t → (walk S g h st b).2 = .ok (gath (L st) g h b) ∧ L (walk S g h st b).1 = L st ∧ P (walk S g h st b).1
  | h, st, b, hp, hh, hg => by
    have hl := load_all hS hA hp hh hg
    have hst := hS.stays st b
    have hps := hA.load' b hp
    obtain ⟨s1, hs1⟩ : ∃ s, (load S st b).1 = s := ⟨_, rfl⟩
    rw [hs1] at hl hst hps
    cases h with
    | zero =>
      unfold walk gath
      rw [hl]
      exact ⟨rfl, hst, hps⟩
    | succ h =>
      have hk : ∀ (l : List Br) (u : σ), L u = L st → P u → (∀ c ∈ l, c.h = (h : Int) ∧ Good (L st) h c.k.1 c.f c.t) → (walkKids (walk S g h) l u).2 = .ok (l.flatMap (gath (L st) g h)) ∧ L (walkKids (walk S g h) l u).1 = L st ∧ P (walkKids (walk S g h) l u).1 := by
        intro l
        induction l with
        | nil => intro u hu hpu _; exact ⟨rfl, hu, hpu⟩
        | cons c l ih =>
          intro u hu hpu hc
          obtain ⟨c1, c2⟩ := hc c (List.mem_cons_self ..)
          obtain ⟨w1, w2, w3⟩ := walk_all hS hA g (h := h) (st := u) (b := c) hpu c1 (hu ▸ c2)
          unfold walkKids
          rcases h2 : walk S g h u c with ⟨u', r⟩
          rw [h2] at w1 w2 w3
          dsimp only at w1 w2 w3
          subst w1
          dsimp only
          obtain ⟨i1, i2, i3⟩ := ih u' (w2.trans hu) w3 fun d hd => hc d (List.mem_cons_of_mem _ hd)
          rcases h3 : walkKids (walk S g h) l u' with ⟨u'', r⟩
          rw [h3] at i1 i2 i3
          dsimp only at i1 i2 i3
          subst i1
          dsimp only
          exact ⟨by rw [hu, List.flatMap_cons], i2, i3⟩
      obtain ⟨k1, k2, k3⟩ := hk (kidsB b (nd (L st) b.k.1)) s1 hst hps fun c hc => by
        obtain ⟨i, hi, rfl⟩ := List.mem_map.1 hc
        exact ⟨by show b.h - 1 = (h : Int); omega, hg.kid (List.mem_range.1 hi)⟩
      unfold walk gath
      rw [hl]
      dsimp only
      rcases h4 : walkKids (walk S g h) (kidsB b (nd (L st) b.k.1)) s1 with ⟨u, r⟩
      rw [h4] at k1 k2 k3
      dsimp only at k1 k2 k3
      subst k1
      exact ⟨rfl, k2, k3⟩
/-- All entries. -/
theorem gath_all : ∀ {h : Nat} {M : List Nd.N} {b : Br}, Good M h b.k.1 b.f b.t → gath M allG h b = ent M h b.k.1
  | 0, M, b, hg => by
    unfold gath ent allG leaf
    rw [(hg.ok.leaf hg.height).1]
  | h + 1, M, b, hg => by
    unfold gath ent allG
    have hi := hg.ok.inner (by rw [hg.height]; omega)
    rw [hi.2.2.1]
    show [] ++ _ = _
    rw [List.nil_append]
    unfold kidsB
    rw [List.flatMap_map, List.flatMap_def, List.flatMap_def]
    congr 1
    exact List.map_congr_left fun i hi => gath_all (b := kidB b (nd M b.k.1) i) (hg.kid (List.mem_range.1 hi))
theorem last_spec {ks : List Int} {key : Int} : ∀ (k : Nat), (match Nd.last ks key k with
    | none => ∀ j, j < k → key < Nd.at_ ks j
    | some i => i < k ∧ Nd.at_ ks i ≤ key ∧ ∀ j, i < j → j < k → key < Nd.at_ ks j)
  | 0 => fun j hj => absurd hj (Nat.not_lt_zero _)
  | k + 1 => by
    have ih := last_spec (ks := ks) (key := key) k
    unfold Nd.last
    by_cases h : Nd.at_ ks k ≤ key
    · rw [if_pos h]
      exact ⟨Nat.lt_succ_self k, h, fun j h1 h2 => by omega⟩
    · rw [if_neg h]
      cases hl : Nd.last ks key k with
      | none =>
        rw [hl] at ih
        intro j hj
        rcases Nat.lt_or_ge j k with c | c
        · exact ih j c
        · rw [show j = k by omega]; omega
      | some i =>
        rw [hl] at ih
        exact ⟨by omega, ih.2.1, fun j h1 h2 => by
          rcases Nat.lt_or_ge j k with c | c
          · exact ih.2.2 j h1 c
          · rw [show j = k by omega]; omega⟩
/-- Get in a tree that stands right. -/
theorem getP_all (hS : Brings S L) (hA : Able S L P) (key : Int) : ∀ {h : Nat} {st : σ} {b : Br}, P st → b.h = (h : Int) → Good (L st) h b.k.1 b.f b.t → key < b.t → (getP S h st b key).2 = .ok (get (ent (L st) h b.k.1) key) ∧ L (getP S h st b key).1 = L st ∧ P (getP S h st b key).1
  | h, st, b, hp, hh, hg, ht => by
    have hl := load_all hS hA hp hh hg
    have hst := hS.stays st b
    have hps := hA.load' b hp
    obtain ⟨s1, hs1⟩ : ∃ s, (load S st b).1 = s := ⟨_, rfl⟩
    rw [hs1] at hl hst hps
    have hsp := last_spec (ks := (nd (L st) b.k.1).ks) (key := key) (nd (L st) b.k.1).ks.length
    cases h with
    | zero =>
      unfold getP
      rw [hl]
      refine ⟨?_, hst, hps⟩
      dsimp only
      congr 1
      unfold Nd.find
      show _ = get (leaf (nd (L st) b.k.1)) key
      cases hf : Nd.last (nd (L st) b.k.1).ks key (nd (L st) b.k.1).ks.length with
      | none =>
        rw [hf] at hsp
        dsimp only
        rw [if_neg (by decide)]
        exact (leaf_none fun i hi => by have := hsp i hi; omega).symm
      | some i =>
        rw [hf] at hsp
        obtain ⟨h1, h2, h3⟩ := hsp
        dsimp only
        by_cases hk : Nd.at_ (nd (L st) b.k.1).ks i = key
        · rw [if_pos (by simpa using hk), ← hk]
          exact (leaf_get hg.ok h1).symm
        · rw [if_neg (by simpa using hk)]
          refine (leaf_none fun j hj => ?_).symm
          rcases Nat.lt_trichotomy j i with c | c | c
          · have := ok_lt hg.ok c h1; omega
          · subst c; exact hk
          · have := h3 j c hj; omega
    | succ h =>
      unfold getP
      rw [hl]
      dsimp only
      unfold Nd.find
      cases hf : Nd.last (nd (L st) b.k.1).ks key (nd (L st) b.k.1).ks.length with
      | none =>
        rw [hf] at hsp
        dsimp only
        have h1 : 1 ≤ (nd (L st) b.k.1).ks.length := (hg.ok.inner (by rw [hg.height]; omega)).2.1
        rw [if_pos (hsp 0 h1)]
        exact ⟨by rw [hg.get_before hsp], hst, hps⟩
      | some i =>
        rw [hf] at hsp
        obtain ⟨h1, h2, h3⟩ := hsp
        dsimp only
        rw [if_neg (by omega)]
        have hn : key < next (nd (L st) b.k.1) b.t i := by
          unfold next
          split
          · rename_i hi; exact h3 (i + 1) (Nat.lt_succ_self i) hi
          · exact ht
        obtain ⟨g1, g2, g3⟩ := getP_all hS hA key (h := h) (st := s1) (b := kidB b (nd (L st) b.k.1) i) hps (by show b.h - 1 = (h : Int); omega) (hst ▸ hg.kid h1) hn
        exact ⟨by rw [g1, hst, hg.get_kid h1 h2 hn]; rfl, g2.trans hst, g3⟩
end
/-- The statements' memory: what is saved, the counts, from which load, which save on it fails. -/
structure MSt where
  L : List Nd.N
  ld : Int
  sv : Int
  bl : Int
  bs : Int
noncomputable def mem : Sto MSt where
  ld st k := ({ st with ld := wrap64 (st.ld + 1) }, if (0 < st.bl ∧ st.bl ≤ wrap64 (st.ld + 1)) ∨ k.1 < 2 ∨ (st.L.length : Int) ≤ k.1 - 2 then .error 6 else .ok (nd st.L k.1))
  sv st n := if (0 < st.bs ∧ st.bs ≤ wrap64 (st.sv + 1)) ∨ 8000 < st.L.length then ({ st with sv := wrap64 (st.sv + 1) }, .error 7) else ({ st with sv := wrap64 (st.sv + 1), L := st.L ++ [n] }, .ok ((st.L.length : Int) + 2, 1, 7))
theorem mem_brings : Brings mem MSt.L := ⟨fun _ _ => rfl, fun {st k n} h => by
  unfold mem at h
  dsimp only at h
  split at h
  · cases h
  · rename_i hc
    injection h with h
    exact ⟨h.symm, ⟨by omega, by omega⟩⟩⟩
theorem mem_able : Able mem MSt.L fun st => st.bl = 0 := ⟨fun {st k} hp hi => by
  unfold mem
  dsimp only
  refine ⟨nd st.L k.1, ?_⟩
  obtain ⟨h1, h2⟩ := hi
  rw [if_neg (by omega)], fun {st k} hp => hp⟩
end Tr
end Go.Proofs.Ytlcchefiicalpaa
namespace Go.Proofs.Ytlcchefiicalpaa
open Go.RowKit
namespace Tr
/-- How many entries a part can have below it at most. -/
def wt : (h : Nat) → Pt h → Nat
  | 0, _ => 1
  | h + 1, .inl _ => 8 ^ (h + 1)
  | h + 1, .inr l => (l.map (wt h)).sum
def wts {h : Nat} (l : List (Pt h)) : Nat := (l.map (wt h)).sum
/-- Its branches are of its height, and nothing below it is empty. -/
def Wf : (h : Nat) → Pt h → Prop
  | 0, _ => True
  | h + 1, .inl b => b.h.toNat = h ∧ KR b.k
  | h + 1, .inr l => ∀ q ∈ l, Wf h q ∧ 0 < wt h q
def Wfs {h : Nat} (l : List (Pt h)) : Prop := ∀ q ∈ l, Wf h q ∧ 0 < wt h q
theorem wts_app {h : Nat} (a b : List (Pt h)) : wts (a ++ b) = wts a + wts b := by unfold wts; rw [List.map_append, List.sum_append]
theorem wts_cons {h : Nat} (x : Pt h) (l : List (Pt h)) : wts (x :: l) = wt h x + wts l := by unfold wts; rw [List.map_cons, List.sum_cons]
theorem wts_nil {h : Nat} : wts ([] : List (Pt h)) = 0 := rfl
theorem wt_frs {h : Nat} (l : List (Pt h)) : wt (h + 1) (frs l) = wts l := rfl
theorem Wfs.nil {h : Nat} : Wfs ([] : List (Pt h)) := fun q hq => by cases hq
theorem Wfs.app {h : Nat} {a b : List (Pt h)} (ha : Wfs a) (hb : Wfs b) : Wfs (a ++ b) := fun q hq => (List.mem_append.1 hq).elim (ha q) (hb q)
theorem Wfs.len {h : Nat} : ∀ {l : List (Pt h)}, Wfs l → l.length ≤ wts l
  | [], _ => Nat.le_refl _
  | x :: l, hl => by
    have h1 := (hl x (List.mem_cons_self ..)).2
    have h2 := Wfs.len (l := l) fun q hq => hl q (List.mem_cons_of_mem _ hq)
    rw [List.length_cons, wts_cons]
    omega
theorem wt_old_pos {h : Nat} (b : Br) : 0 < wt (h + 1) (old b) := Nat.pow_pos (by decide)
theorem wts_map_old {h : Nat} : ∀ l : List Br, wts (l.map (old (h := h))) = l.length * 8 ^ (h + 1)
  | [] => by simp [wts]
  | b :: l => by
    rw [List.map_cons, wts_cons, wts_map_old l, List.length_cons, Nat.add_mul, Nat.one_mul, Nat.add_comm]
    rfl
theorem wts_zero : ∀ l : List (Pt 0), wts l = l.length
  | [] => rfl
  | x :: l => by rw [wts_cons, wts_zero l, List.length_cons, Nat.add_comm]; rfl
theorem kids_len (b : Br) (n : Nd.N) : (kidsB b n).length = n.ks.length := by unfold kidsB; rw [List.length_map, List.length_range]
theorem parts_wf {h : Nat} {b : Br} {n : Nd.N} (hh : b.h.toNat = h) (hf : FitsB b n) : Wfs (parts h b n) ∧ wts (parts h b n) ≤ 8 ^ (h + 1) := by
  have h8 := hf.1.few
  cases h with
  | zero =>
    refine ⟨fun q _ => ⟨trivial, Nat.one_pos⟩, ?_⟩
    have : @List.length (Pt 0) (leaf n) = n.ks.length := (List.length_map ..).trans (List.length_range ..)
    exact Nat.le_trans (Nat.le_of_eq ((wts_zero (leaf n)).trans this)) (by simpa using h8)
  | succ h =>
    refine ⟨fun q hq => ?_, ?_⟩
    · obtain ⟨c, hc, rfl⟩ := List.mem_map.1 hq
      obtain ⟨i, hi, rfl⟩ := List.mem_map.1 hc
      refine ⟨⟨?_, kr_kid hh hf (List.mem_range.1 hi)⟩, wt_old_pos _⟩
      show (b.h - 1).toNat = h
      omega
    · show wts ((kidsB b n).map (old (h := h))) ≤ _
      rw [wts_map_old, kids_len, Nat.pow_succ 8 (h + 1), Nat.mul_comm]
      exact Nat.mul_le_mul_left _ h8
section
variable {σ : Type} (S : Sto σ)
theorem load_fits' {st : σ} {b : Br} {n : Nd.N} (h : (load S st b).2 = .ok n) : FitsB b n := by
  unfold load at h
  rcases hl : S.ld st b.k with ⟨st', e' | n'⟩
  · rw [hl] at h; cases h
  · rw [hl] at h
    dsimp only at h
    split at h
    · injection h with h; subst h; assumption
    · cases h
theorem opn_wf {h : Nat} {st : σ} {p : Pt (h + 1)} {a : List (Pt h)} (hp : Wf (h + 1) p) (e : (opn S h st p).2 = .ok a) : Wfs a ∧ wts a ≤ wt (h + 1) p := by
  cases p with
  | inl b =>
    unfold opn partsOf at e
    dsimp only at e
    rcases hl : load S st b with ⟨st', e' | n⟩
    · rw [hl] at e; cases e
    · rw [hl] at e
      injection e with e
      subst e
      exact parts_wf hp.1 (load_fits' S (by rw [hl]))
  | inr l =>
    injection e with e
    subst e
    exact ⟨hp, Nat.le_refl _⟩
/-- What a join leaves. -/
def JnOk {h : Nat} (jn : σ → Pt (h + 1) → Pt (h + 1) → Res σ (Pt (h + 1))) : Prop := ∀ {st x y z}, Wf (h + 1) x → Wf (h + 1) y → (jn st x y).2 = .ok z → Wf (h + 1) z ∧ wt (h + 1) z ≤ wt (h + 1) x + wt (h + 1) y
def WfA {h : Nat} (l : List (Pt (h + 1))) : Prop := ∀ q ∈ l, Wf (h + 1) q
theorem fitA_wf {h : Nat} {jn : σ → Pt (h + 1) → Pt (h + 1) → Res σ (Pt (h + 1))} (hj : JnOk jn) : ∀ {l : List (Pt (h + 1))} {st : σ} {s r : List (Pt (h + 1))}, WfA l → WfA s → (fitA jn l st s).2 = .ok r → WfA r ∧ wts r ≤ wts s + wts l
  | [], st, s, r, _, hs, e => by injection e with e; subst e; exact ⟨hs, Nat.le_add_right _ _⟩
  | x :: l, st, s, r, hl, hs, e => by
    have hx := hl x (List.mem_cons_self ..)
    have hl' : WfA l := fun q hq => hl q (List.mem_cons_of_mem _ hq)
    rw [wts_cons]
    unfold fitA at e
    split at e
    · have := fitA_wf hj hl' hs e
      exact ⟨this.1, by omega⟩
    · cases s with
      | nil =>
        have := fitA_wf hj hl' (s := [x]) (fun q hq => by rw [List.mem_singleton] at hq; subst hq; exact hx) e
        rw [wts_cons, wts_nil] at this
        exact ⟨this.1, by rw [wts_nil]; omega⟩
      | cons y s =>
        have hy := hs y (List.mem_cons_self ..)
        have hs' : WfA s := fun q hq => hs q (List.mem_cons_of_mem _ hq)
        dsimp only at e
        rw [wts_cons]
        split at e
        · rcases hz : jn st y x with ⟨st', e' | z⟩
          · rw [hz] at e; cases e
          · rw [hz] at e
            dsimp only at e
            obtain ⟨h1, h2⟩ := hj hy hx (by rw [hz])
            have := fitA_wf hj hl' (s := z :: s) (fun q hq => (List.mem_cons.1 hq).elim (fun e => e ▸ h1) (hs' q)) e
            rw [wts_cons] at this
            exact ⟨this.1, by omega⟩
        · have := fitA_wf hj hl' (s := x :: y :: s) (fun q hq => (List.mem_cons.1 hq).elim (fun e => e ▸ hx) (hs q)) e
          rw [wts_cons, wts_cons] at this
          exact ⟨this.1, by omega⟩
theorem fitB_wf {h : Nat} {jn : σ → Pt (h + 1) → Pt (h + 1) → Res σ (Pt (h + 1))} (hj : JnOk jn) : ∀ {m : Nat} {st : σ} {s r : List (Pt (h + 1))}, WfA s → (fitB jn m st s).2 = .ok r → WfA r ∧ wts r ≤ wts s
  | 0, st, s, r, hs, e => by injection e with e; subst e; exact ⟨hs, Nat.le_refl _⟩
  | m + 1, st, s, r, hs, e => by
    unfold fitB at e
    split at e
    · rename_i x y s
      have hx := hs x (List.mem_cons_self ..)
      have hy := hs y (List.mem_cons_of_mem _ (List.mem_cons_self ..))
      have hs' : WfA s := fun q hq => hs q (List.mem_cons_of_mem _ (List.mem_cons_of_mem _ hq))
      split at e
      · rcases hz : jn st y x with ⟨st', e' | z⟩
        · rw [hz] at e; cases e
        · rw [hz] at e
          dsimp only at e
          obtain ⟨h1, h2⟩ := hj hy hx (by rw [hz])
          have := fitB_wf hj (s := z :: s) (fun q hq => (List.mem_cons.1 hq).elim (fun e => e ▸ h1) (hs' q)) e
          rw [wts_cons] at this ⊢
          rw [wts_cons]
          exact ⟨this.1, by omega⟩
      · injection e with e; subst e; exact ⟨hs, Nat.le_refl _⟩
    · injection e with e; subst e; exact ⟨hs, Nat.le_refl _⟩
end
end Tr
end Go.Proofs.Ytlcchefiicalpaa
