/- Entries of a tree and the document's map, plain; entries as cells. A search tree of saved nodes, plain: when it stands right, and its entries. The document's map by its answers: what put and cut turn, and that answers tell all. -/
import Derived.Test.YtlcchefiicalpaaZwb
namespace Go.Proofs.Ytlcchefiicalpaa
open Go.RowKit
namespace Tr
/-- An entry: key, place, generation. -/
structure E where
  k : Int
  p : Nd.T3
  g : Int
def z : E := ⟨0, (0, 0, 0), 0⟩
def EOk (e : E) : Prop := (0 ≤ e.k ∧ e.k < 512) ∧ Nd.PlaceOk e.p e.g
instance (e : E) : Decidable (EOk e) := by unfold EOk; infer_instance
/-- How many keys at the beginning are less. -/
def idx (m : List E) (k : Int) : Nat := match m with
  | [] => 0
  | x :: m => if x.k < k then idx m k + 1 else 0
/-- Is the key there, at that index? -/
def hit (m : List E) (k : Int) : Prop := idx m k < m.length ∧ (m.getD (idx m k) z).k = k
instance (m : List E) (k : Int) : Decidable (hit m k) := by unfold hit; infer_instance
/-- One entry put. -/
def ins (m : List E) (e : E) : List E := if hit m e.k then m.set (idx m e.k) e else m.take (idx m e.k) ++ e :: m.drop (idx m e.k)
def puts (m : List E) (l : List E) : List E := l.foldl ins m
def cuts (m : List E) (ks : List Int) : List E := m.filter fun e => !ks.contains e.k
def get (m : List E) (k : Int) : Option E := m.find? fun e => e.k == k
/-- The keys ascend. -/
def Asc (m : List E) : Prop := m.Pairwise fun a b => a.k < b.k
theorem idx_lt : ∀ {m : List E} {k : Int} {i : Nat}, i < idx m k → (m.getD i z).k < k
  | [], _, _, h => by simp [idx] at h
  | x :: m, k, 0, h => by
    unfold idx at h
    split at h
    · rename_i h1; simpa using h1
    · simp at h
  | x :: m, k, i + 1, h => by
    unfold idx at h
    split at h
    · have := idx_lt (m := m) (k := k) (i := i) (by omega)
      simpa using this
    · omega
theorem idx_ge : ∀ {m : List E} {k : Int}, idx m k < m.length → k ≤ (m.getD (idx m k) z).k
  | [], _, h => by simp at h
  | x :: m, k, h => by
    by_cases h1 : x.k < k
    · have e : idx (x :: m) k = idx m k + 1 := by rw [idx, if_pos h1]
      rw [e] at h ⊢
      have := idx_ge (m := m) (k := k) (by simpa using h)
      simpa using this
    · have e : idx (x :: m) k = 0 := by rw [idx, if_neg h1]
      rw [e]
      simp
      omega
end Tr
/-- Entries as cells. -/
def evs : List Tr.E → List Value
  | [] => []
  | x :: l => .int .i64 x.k :: .int .i64 x.p.1 :: .int .i64 x.p.2.1 :: .int .i64 x.p.2.2 :: .int .i64 x.g :: evs l
theorem evs_len : ∀ l : List Tr.E, (evs l).length = l.length * 5
  | [] => rfl
  | x :: l => by rw [evs]; simp only [List.length_cons]; rw [evs_len l]; omega
theorem evs_app : ∀ l m : List Tr.E, evs (l ++ m) = evs l ++ evs m
  | [], _ => rfl
  | x :: l, m => by rw [List.cons_append, evs, evs, evs_app l m]; rfl
theorem evs_at : ∀ {l : List Tr.E} {k : Nat}, k < l.length → (evs l)[k * 5]? = some (.int .i64 (l.getD k Tr.z).k) ∧ (evs l)[k * 5 + 1]? = some (.int .i64 (l.getD k Tr.z).p.1) ∧ (evs l)[k * 5 + 2]? = some (.int .i64 (l.getD k Tr.z).p.2.1) ∧ (evs l)[k * 5 + 3]? = some (.int .i64 (l.getD k Tr.z).p.2.2) ∧ (evs l)[k * 5 + 4]? = some (.int .i64 (l.getD k Tr.z).g)
  | x :: l, 0, _ => ⟨rfl, rfl, rfl, rfl, rfl⟩
  | x :: l, k + 1, h => by
    have := evs_at (l := l) (k := k) (by simpa using h)
    rw [show (k + 1) * 5 = k * 5 + 1 + 1 + 1 + 1 + 1 by omega, evs]
    simp only [List.getElem?_cons_succ]
    exact this
end Go.Proofs.Ytlcchefiicalpaa
namespace Go.Proofs.Ytlcchefiicalpaa
open Go.RowKit
namespace Tr
/-- The node that is saved at a place, and whether there is one. -/
def In (L : List Nd.N) (a : Int) : Prop := 2 ≤ a ∧ a - 2 < L.length
def nd (L : List Nd.N) (a : Int) : Nd.N := L.getD (a - 2).toNat Nd.zero
theorem In.app {L L' : List Nd.N} {a : Int} (h : In L a) : In (L ++ L') a := ⟨h.1, by rw [List.length_append]; have := h.2; omega⟩
theorem nd_app {L L' : List Nd.N} {a : Int} (h : In L a) : nd (L ++ L') a = nd L a := by
  obtain ⟨h1, h2⟩ := h
  have hi : (a - 2).toNat < L.length := by omega
  unfold nd
  rw [List.getD_eq_getElem?_getD, List.getElem?_append_left hi, ← List.getD_eq_getElem?_getD]
/-- A leaf's entry, and all of them. -/
def leafE (n : Nd.N) (i : Nat) : E := ⟨Nd.at_ n.ks i, Nd.t3 n.ps i, Nd.at_ n.gs i⟩
def leaf (n : Nd.N) : List E := (List.range n.ks.length).map (leafE n)
/-- The bound behind child i. -/
def next (n : Nd.N) (t : Int) (i : Nat) : Int := if i + 1 < n.ks.length then Nd.at_ n.ks (i + 1) else t
/-- All entries below a node of height h. -/
def ent (L : List Nd.N) : Nat → Int → List E
  | 0, a => leaf (nd L a)
  | h + 1, a => (List.range (nd L a).ks.length).flatMap fun i => ent L h (Nd.t3 (nd L a).cs i).1
/-- A tree of height h stands right between bounds. -/
def Good (L : List Nd.N) : Nat → Int → Int → Int → Prop
  | 0, a, f, t => In L a ∧ Nd.Ok (nd L a) ∧ (nd L a).h = 0 ∧ ∀ i, i < (nd L a).ks.length → f ≤ Nd.at_ (nd L a).ks i ∧ Nd.at_ (nd L a).ks i < t
  | h + 1, a, f, t => In L a ∧ Nd.Ok (nd L a) ∧ (nd L a).h = ((h + 1 : Nat) : Int) ∧ ∀ i, i < (nd L a).ks.length → (f ≤ Nd.at_ (nd L a).ks i ∧ Nd.at_ (nd L a).ks i < t) ∧ Good L h (Nd.t3 (nd L a).cs i).1 (Nd.at_ (nd L a).ks i) (next (nd L a) t i)
theorem Good.in_ {L : List Nd.N} {h : Nat} {a f t : Int} (g : Good L h a f t) : In L a := by cases h <;> exact g.1
theorem Good.ok {L : List Nd.N} {h : Nat} {a f t : Int} (g : Good L h a f t) : Nd.Ok (nd L a) := by cases h <;> exact g.2.1
theorem Good.height {L : List Nd.N} {h : Nat} {a f t : Int} (g : Good L h a f t) : (nd L a).h = (h : Int) := by cases h <;> exact g.2.2.1
theorem Good.key {L : List Nd.N} {h : Nat} {a f t : Int} (g : Good L h a f t) {i : Nat} (hi : i < (nd L a).ks.length) : f ≤ Nd.at_ (nd L a).ks i ∧ Nd.at_ (nd L a).ks i < t := by
  cases h with
  | zero => exact g.2.2.2 i hi
  | succ h => exact (g.2.2.2 i hi).1
theorem Good.kid {L : List Nd.N} {h : Nat} {a f t : Int} (g : Good L (h + 1) a f t) {i : Nat} (hi : i < (nd L a).ks.length) : Good L h (Nd.t3 (nd L a).cs i).1 (Nd.at_ (nd L a).ks i) (next (nd L a) t i) := (g.2.2.2 i hi).2
/-- What was saved stays, whatever is saved behind it. -/
theorem Good.app : ∀ {h : Nat} {L L' : List Nd.N} {a f t : Int}, Good L h a f t → Good (L ++ L') h a f t ∧ ent (L ++ L') h a = ent L h a
  | 0, L, L', a, f, t, g => by
    have e := nd_app (L' := L') g.1
    exact ⟨⟨g.1.app, by rw [e]; exact g.2.1, by rw [e]; exact g.2.2.1, by rw [e]; exact g.2.2.2⟩, by rw [ent, ent, e]⟩
  | h + 1, L, L', a, f, t, g => by
    have e := nd_app (L' := L') g.1
    refine ⟨⟨g.1.app, by rw [e]; exact g.2.1, by rw [e]; exact g.2.2.1, fun i hi => ?_⟩, ?_⟩
    · rw [e] at hi ⊢
      exact ⟨g.key hi, ((g.kid hi).app (L' := L')).1⟩
    · rw [ent, ent, e, List.flatMap_def, List.flatMap_def]
      congr 1
      refine List.map_congr_left fun i hi => ?_
      exact ((g.kid (List.mem_range.1 hi)).app (L' := L')).2
/-- All keys lie between the bounds, and ascend. -/
theorem leaf_mem {n : Nd.N} {e : E} (h : e ∈ leaf n) : ∃ i, i < n.ks.length ∧ e = leafE n i := by
  obtain ⟨i, hi, rfl⟩ := List.mem_map.1 h
  exact ⟨i, List.mem_range.1 hi, rfl⟩
theorem ok_lt {n : Nd.N} (o : Nd.Ok n) : ∀ {i j : Nat}, i < j → j < n.ks.length → Nd.at_ n.ks i < Nd.at_ n.ks j
  | i, 0, h, _ => absurd h (Nat.not_lt_zero _)
  | i, j + 1, h, hj => by
    have h1 := o.asc j hj
    rcases Nat.lt_or_ge i j with c | c
    · have := ok_lt o c (by omega); omega
    · rw [show i = j by omega]; exact h1
theorem next_le {n : Nd.N} (o : Nd.Ok n) {t : Int} (_ht : ∀ i, i < n.ks.length → Nd.at_ n.ks i < t) {i j : Nat} (h : i < j) (hj : j < n.ks.length) : next n t i ≤ Nd.at_ n.ks j := by
  unfold next
  rw [if_pos (by omega)]
  rcases Nat.lt_or_ge (i + 1) j with c | c
  · have := ok_lt o c hj; omega
  · rw [show j = i + 1 by omega]; exact Int.le_refl _
theorem next_top {n : Nd.N} {t : Int} (ht : ∀ i, i < n.ks.length → Nd.at_ n.ks i < t) (i : Nat) : next n t i ≤ t := by
  unfold next
  split
  · have := ht (i + 1) (by assumption); omega
  · exact Int.le_refl _
theorem Good.within : ∀ {h : Nat} {L : List Nd.N} {a f t : Int}, Good L h a f t → ∀ e ∈ ent L h a, f ≤ e.k ∧ e.k < t
  | 0, L, a, f, t, g, e, he => by
    obtain ⟨i, hi, rfl⟩ := leaf_mem he
    exact g.2.2.2 i hi
  | h + 1, L, a, f, t, g, e, he => by
    rw [ent] at he
    obtain ⟨i, hi, he⟩ := List.mem_flatMap.1 he
    have hi := List.mem_range.1 hi
    have h1 := (g.kid hi).within e he
    have h2 := g.key hi
    have h3 := next_top (n := nd L a) (t := t) (fun i hi => (g.key hi).2) i
    omega
theorem pairwise_flat {α β : Type} {R : β → β → Prop} {F : α → List β} {S : α → α → Prop} : ∀ {l : List α}, l.Pairwise S → (∀ x ∈ l, (F x).Pairwise R) → (∀ x ∈ l, ∀ y ∈ l, S x y → ∀ a ∈ F x, ∀ b ∈ F y, R a b) → (l.flatMap F).Pairwise R
  | [], _, _, _ => List.Pairwise.nil
  | x :: l, h, h1, h2 => by
    rw [List.flatMap_cons, List.pairwise_append]
    obtain ⟨ha, hb⟩ := List.pairwise_cons.1 h
    refine ⟨h1 x (List.mem_cons_self ..), pairwise_flat hb (fun y hy => h1 y (List.mem_cons_of_mem _ hy)) (fun y hy z hz => h2 y (List.mem_cons_of_mem _ hy) z (List.mem_cons_of_mem _ hz)), fun a haa b hbb => ?_⟩
    obtain ⟨y, hy, hyb⟩ := List.mem_flatMap.1 hbb
    exact h2 x (List.mem_cons_self ..) y (List.mem_cons_of_mem _ hy) (ha y hy) a haa b hyb
theorem range_lt (n : Nat) : (List.range n).Pairwise (· < ·) := List.pairwise_lt_range
theorem leaf_asc {n : Nd.N} (o : Nd.Ok n) : Asc (leaf n) := by
  unfold Asc leaf
  rw [List.pairwise_map]
  refine List.Pairwise.imp_of_mem (fun {i j} hi hj hij => ?_) (range_lt n.ks.length)
  exact ok_lt o hij (List.mem_range.1 hj)
theorem Good.asc : ∀ {h : Nat} {L : List Nd.N} {a f t : Int}, Good L h a f t → Asc (ent L h a)
  | 0, L, a, f, t, g => leaf_asc g.ok
  | h + 1, L, a, f, t, g => by
    rw [ent]
    refine pairwise_flat (range_lt _) (fun i hi => (g.kid (List.mem_range.1 hi)).asc) (fun i hi j hj hij x hx y hy => ?_)
    have hi := List.mem_range.1 hi
    have hj := List.mem_range.1 hj
    have h1 := ((g.kid hi).within x hx).2
    have h2 := ((g.kid hj).within y hy).1
    have h3 := next_le g.ok (t := t) (fun i hi => (g.key hi).2) hij hj
    omega
/-- A map's answer, told by members. -/
theorem get_some {m : List E} (ha : Asc m) {k : Int} {e : E} (he : e ∈ m) (hk : e.k = k) : get m k = some e := by
  unfold get
  induction m with
  | nil => cases he
  | cons x m ih =>
    obtain ⟨h1, h2⟩ := List.pairwise_cons.1 ha
    rw [List.find?_cons]
    rcases List.mem_cons.1 he with rfl | he
    · rw [show (e.k == k) = true by rw [beq_iff_eq]; exact hk]
    · have := h1 e he
      rw [show (x.k == k) = false by rw [beq_eq_false_iff_ne]; omega]
      exact ih h2 he
theorem get_none {m : List E} {k : Int} (h : ∀ e ∈ m, e.k ≠ k) : get m k = none := by
  unfold get
  rw [List.find?_eq_none]
  intro e he
  have := h e he
  simpa using this
theorem get_app_none {m m' : List E} {k : Int} (h : ∀ e ∈ m, e.k ≠ k) : get (m ++ m') k = get m' k := by
  have := get_none h
  unfold get at this ⊢
  rw [List.find?_append, this]
  rfl
/-- In an inner node the answer is that of the last child that begins no later; there is none where the first begins later. -/
theorem Good.get_kid {h : Nat} {L : List Nd.N} {a f t k : Int} (g : Good L (h + 1) a f t) {i : Nat} (hi : i < (nd L a).ks.length) (h1 : Nd.at_ (nd L a).ks i ≤ k) (h2 : k < next (nd L a) t i) : get (ent L (h + 1) a) k = get (ent L h (Nd.t3 (nd L a).cs i).1) k := by
  cases hg : get (ent L h (Nd.t3 (nd L a).cs i).1) k with
  | some e =>
    have hm : e ∈ ent L h (Nd.t3 (nd L a).cs i).1 := List.mem_of_find?_eq_some hg
    have hk : e.k = k := by have := List.find?_some hg; simpa using this
    refine get_some g.asc ?_ hk
    rw [ent]
    exact List.mem_flatMap.2 ⟨i, List.mem_range.2 hi, hm⟩
  | none =>
    refine get_none fun e he hk => ?_
    rw [ent] at he
    obtain ⟨j, hj, he⟩ := List.mem_flatMap.1 he
    have hj := List.mem_range.1 hj
    have hw := (g.kid hj).within e he
    rcases Nat.lt_trichotomy j i with c | c | c
    · have := next_le g.ok (t := t) (fun i hi => (g.key hi).2) c hi; omega
    · subst c
      have := get_some (g.kid hj).asc he hk
      rw [hg] at this
      cases this
    · have := next_le g.ok (t := t) (fun i hi => (g.key hi).2) c hj; omega
theorem Good.get_before {h : Nat} {L : List Nd.N} {a f t k : Int} (g : Good L (h + 1) a f t) (h1 : ∀ i, i < (nd L a).ks.length → k < Nd.at_ (nd L a).ks i) : get (ent L (h + 1) a) k = none := by
  refine get_none fun e he hk => ?_
  rw [ent] at he
  obtain ⟨j, hj, he⟩ := List.mem_flatMap.1 he
  have hj := List.mem_range.1 hj
  have hw := (g.kid hj).within e he
  have := h1 j hj
  omega
theorem leaf_get {n : Nd.N} (o : Nd.Ok n) {i : Nat} (hi : i < n.ks.length) : get (leaf n) (Nd.at_ n.ks i) = some (leafE n i) :=
  get_some (leaf_asc o) (List.mem_map.2 ⟨i, List.mem_range.2 hi, rfl⟩) rfl
theorem leaf_none {n : Nd.N} {k : Int} (h : ∀ i, i < n.ks.length → Nd.at_ n.ks i ≠ k) : get (leaf n) k = none := by
  refine get_none fun e he => ?_
  obtain ⟨i, hi, rfl⟩ := leaf_mem he
  exact h i hi
end Tr
end Go.Proofs.Ytlcchefiicalpaa
namespace Go.Proofs.Ytlcchefiicalpaa
open Go.RowKit
namespace Tr
theorem get_mem {m : List E} {k : Int} {e : E} (h : get m k = some e) : e ∈ m ∧ e.k = k := by
  refine ⟨List.mem_of_find?_eq_some h, ?_⟩
  have := List.find?_some h
  simpa using this
/-- Answers tell all. -/
theorem asc_ext : ∀ {a b : List E}, Asc a → Asc b → (∀ k, get a k = get b k) → a = b
  | [], [], _, _, _ => rfl
  | [], y :: b, _, hb, h => by
    have := h y.k
    rw [get_some hb (List.mem_cons_self ..) rfl] at this
    cases this
  | x :: a, [], ha, _, h => by
    have := h x.k
    rw [get_some ha (List.mem_cons_self ..) rfl] at this
    cases this
  | x :: a, y :: b, ha, hb, h => by
    obtain ⟨a1, a2⟩ := List.pairwise_cons.1 ha
    obtain ⟨b1, b2⟩ := List.pairwise_cons.1 hb
    have hx := h x.k
    rw [get_some ha (List.mem_cons_self ..) rfl] at hx
    have hy := h y.k
    rw [get_some hb (List.mem_cons_self ..) rfl] at hy
    have mx := (get_mem hx.symm).1
    have my := (get_mem hy).1
    have hxy : x = y := by
      rcases List.mem_cons.1 mx with e | e
      · exact e
      · rcases List.mem_cons.1 my with e' | e'
        · exact e'.symm
        · have h1 := b1 x e
          have h2 := a1 y e'
          omega
    subst hxy
    have := asc_ext a2 b2 (fun k => by
      by_cases hk : x.k = k
      · rw [get_none (fun e he hk' => by have := a1 e he; omega), get_none (fun e he hk' => by have := b1 e he; omega)]
      · have := h k
        unfold get at this ⊢
        rw [List.find?_cons, List.find?_cons, show (x.k == k) = false by rw [beq_eq_false_iff_ne]; exact hk] at this
        exact this)
    rw [this]
theorem cuts_asc {m : List E} (h : Asc m) (ks : List Int) : Asc (cuts m ks) := List.Pairwise.filter _ h
theorem cuts_get {m : List E} (h : Asc m) (ks : List Int) (k : Int) : get (cuts m ks) k = if k ∈ ks then none else get m k := by
  by_cases hk : k ∈ ks
  · rw [if_pos hk]
    refine get_none fun e he hek => ?_
    have := (List.mem_filter.1 he).2
    rw [hek] at this
    simp [hk] at this
  · rw [if_neg hk]
    cases hg : get m k with
    | none =>
      refine get_none fun e he hek => ?_
      have := get_some h (List.mem_filter.1 he).1 hek
      rw [hg] at this
      cases this
    | some e =>
      obtain ⟨h1, h2⟩ := get_mem hg
      refine get_some (cuts_asc h ks) (List.mem_filter.2 ⟨h1, ?_⟩) h2
      rw [h2]
      simpa using hk
theorem asc_getD {m : List E} (h : Asc m) {i j : Nat} (hij : i < j) (hj : j < m.length) : (m.getD i z).k < (m.getD j z).k := by
  rw [List.getD_eq_getElem?_getD, List.getD_eq_getElem?_getD, List.getElem?_eq_getElem hj, List.getElem?_eq_getElem (show i < m.length by omega)]
  exact List.pairwise_iff_getElem.1 h i j (by omega) hj hij
theorem take_lt {m : List E} (k : Int) : ∀ e ∈ m.take (idx m k), e.k < k := by
  intro e he
  obtain ⟨i, hi, rfl⟩ := List.mem_iff_getElem.1 he
  rw [List.length_take] at hi
  have := idx_lt (m := m) (k := k) (i := i) (by omega)
  rw [List.getElem_take]
  rw [List.getD_eq_getElem?_getD, List.getElem?_eq_getElem (show i < m.length by omega)] at this
  exact this
theorem drop_ge {m : List E} (ha : Asc m) (k : Int) : ∀ e ∈ m.drop (idx m k), k ≤ e.k := by
  intro e he
  obtain ⟨i, hi, rfl⟩ := List.mem_iff_getElem.1 he
  rw [List.length_drop] at hi
  have h0 := idx_ge (m := m) (k := k) (by omega)
  rw [List.getElem_drop]
  have hlt : idx m k + i < m.length := by omega
  have e1 : (m.getD (idx m k + i) z) = m[idx m k + i] := by rw [List.getD_eq_getElem?_getD, List.getElem?_eq_getElem hlt]; rfl
  rw [← e1]
  rcases Nat.eq_zero_or_pos i with c | c
  · subst c; exact h0
  · have := asc_getD ha (i := idx m k) (j := idx m k + i) (by omega) hlt
    omega
/-- Without a hit all that is behind is greater. -/
theorem drop_gt {m : List E} (ha : Asc m) {k : Int} (hn : ¬ hit m k) : ∀ e ∈ m.drop (idx m k), k < e.k := by
  intro e he
  have h1 := drop_ge ha k e he
  rcases Int.lt_or_eq_of_le h1 with c | c
  · exact c
  · exfalso
    refine hn ?_
    have hlt : idx m k < m.length := by
      rcases Nat.lt_or_ge (idx m k) m.length with h | h
      · exact h
      · rw [List.drop_eq_nil_of_le h] at he; cases he
    refine ⟨hlt, ?_⟩
    obtain ⟨i, hi, rfl⟩ := List.mem_iff_getElem.1 he
    rw [List.length_drop] at hi
    rw [List.getElem_drop] at c
    have h0 := idx_ge hlt
    rcases Nat.eq_zero_or_pos i with hz | hp
    · subst hz
      rw [List.getD_eq_getElem?_getD, List.getElem?_eq_getElem hlt]
      exact c.symm
    · have := asc_getD ha (i := idx m k) (j := idx m k + i) (by omega) (by omega)
      rw [List.getD_eq_getElem?_getD (i := idx m k + i), List.getElem?_eq_getElem (show idx m k + i < m.length by omega)] at this
      have e2 : ((some m[idx m k + i]).getD z).k = m[idx m k + i].k := rfl
      rw [e2] at this
      omega
/-- The same as two parts and what stands between. -/
theorem ins_hit {m : List E} {e : E} (h : hit m e.k) : ins m e = m.take (idx m e.k) ++ e :: m.drop (idx m e.k + 1) := by
  unfold ins
  rw [if_pos h, List.set_eq_take_append_cons_drop, if_pos h.1]
theorem ins_asc {m : List E} (ha : Asc m) (e : E) : Asc (ins m e) := by
  have hl := take_lt (m := m) e.k
  have hp := List.pairwise_append.1 (show Asc (m.take (idx m e.k) ++ m.drop (idx m e.k)) by rw [List.take_append_drop]; exact ha)
  by_cases h : hit m e.k
  · rw [ins_hit h]
    have hd : m.drop (idx m e.k) = m[idx m e.k]'h.1 :: m.drop (idx m e.k + 1) := List.drop_eq_getElem_cons h.1
    have hk : (m[idx m e.k]'h.1).k = e.k := by have := h.2; rw [List.getD_eq_getElem?_getD, List.getElem?_eq_getElem h.1] at this; exact this
    rw [hd] at hp
    obtain ⟨q1, q2⟩ := List.pairwise_cons.1 hp.2.1
    refine List.pairwise_append.2 ⟨hp.1, List.pairwise_cons.2 ⟨fun y hy => by have := q1 y hy; omega, q2⟩, fun x hx y hy => ?_⟩
    rcases List.mem_cons.1 hy with rfl | hy
    · exact hl x hx
    · have := hl x hx; have := q1 y hy; omega
  · unfold ins
    rw [if_neg h]
    have hg := drop_gt ha h
    refine List.pairwise_append.2 ⟨hp.1, List.pairwise_cons.2 ⟨hg, hp.2.1⟩, fun x hx y hy => ?_⟩
    rcases List.mem_cons.1 hy with rfl | hy
    · exact hl x hx
    · have := hl x hx; have := hg y hy; omega
theorem mem_ins {m : List E} {e x : E} (hx : x.k ≠ e.k) : x ∈ ins m e ↔ x ∈ m := by
  by_cases h : hit m e.k
  · rw [ins_hit h]
    have hd : m.drop (idx m e.k) = m[idx m e.k]'h.1 :: m.drop (idx m e.k + 1) := List.drop_eq_getElem_cons h.1
    have hk : (m[idx m e.k]'h.1).k = e.k := by have := h.2; rw [List.getD_eq_getElem?_getD, List.getElem?_eq_getElem h.1] at this; exact this
    conv => rhs; rw [← List.take_append_drop (idx m e.k) m, hd]
    simp only [List.mem_append, List.mem_cons]
    constructor
    · rintro (h | rfl | h)
      · exact .inl h
      · exact absurd rfl hx
      · exact .inr (.inr h)
    · rintro (h | rfl | h)
      · exact .inl h
      · exact absurd hk hx
      · exact .inr (.inr h)
  · unfold ins
    rw [if_neg h]
    conv => rhs; rw [← List.take_append_drop (idx m e.k) m]
    simp only [List.mem_append, List.mem_cons]
    constructor
    · rintro (h | rfl | h)
      · exact .inl h
      · exact absurd rfl hx
      · exact .inr h
    · rintro (h | h)
      · exact .inl h
      · exact .inr (.inr h)
theorem ins_self (m : List E) (e : E) : e ∈ ins m e := by
  by_cases h : hit m e.k
  · rw [ins_hit h]; simp
  · unfold ins; rw [if_neg h]; simp
theorem ins_get {m : List E} (ha : Asc m) (e : E) (k : Int) : get (ins m e) k = if k = e.k then some e else get m k := by
  by_cases hk : k = e.k
  · rw [if_pos hk]; exact get_some (ins_asc ha e) (ins_self m e) hk.symm
  · rw [if_neg hk]
    cases hg : get m k with
    | none =>
      refine get_none fun x hx hxk => ?_
      have := (mem_ins (m := m) (e := e) (x := x) (by omega)).1 hx
      have := get_some ha this hxk
      rw [hg] at this
      cases this
    | some x =>
      obtain ⟨h1, h2⟩ := get_mem hg
      exact get_some (ins_asc ha e) ((mem_ins (by omega)).2 h1) h2
theorem puts_asc {m : List E} (ha : Asc m) (l : List E) : Asc (puts m l) := by
  induction l generalizing m with
  | nil => exact ha
  | cons e l ih => exact ih (ins_asc ha e)
end Tr
end Go.Proofs.Ytlcchefiicalpaa
