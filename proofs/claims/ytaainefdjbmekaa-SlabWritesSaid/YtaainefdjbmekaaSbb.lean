/- The state of a platter, and what the document's own platter in memory holds of it. The document's platter: what counting an operation does. The document's platter: what Write does. The document's platter: what Read does. The program's platter in memory: what it holds of a state. Operations on maps, and on many cells at once, in a region that draws its order: laws for the walk. -/
import Derived.Test.YtaainefdjbmekaaSba
import Derived.Test.YtaainefdjbmekaaRows
import Derived.WalkSpells
import Derived.WalkLawsBesides
import Derived.Handy
import Derived.Lib.Hide
import Derived.BigQuiet
import Derived.IntWalk
import Derived.Maps.OwnSet
import Derived.Maps.OwnOps
import Derived.DeepKeys4
import Derived.Deep.MidRow
namespace Go.Proofs.Ytaainefdjbmekaa
open Go.RowKit
/-- A platter: blocks, cached writes, planned faults (kind, number), counts since New and since Fail. -/
structure PSt where
  blocks : List (List Nat)
  cache : List (Nat × List Nat)
  plan : List (Int × Int)
  ops : Nat → Nat
  since : Nat → Nat
def bump (f : Nat → Nat) (k : Nat) : Nat → Nat := fun i => if i = k then f i + 1 else f i
/-- An operation of kind k is counted. -/
def PSt.count (st : PSt) (k : Nat) : PSt := { st with ops := bump st.ops k, since := bump st.since k }
/-- Is the operation of kind k that was just counted planned to fail? -/
def PSt.hit (st : PSt) (k : Nat) : Bool := st.plan.any fun f => f.1 == (k : Int) && f.2 == (st.since k : Int)
def planCells : List (Int × Int) → List Value
  | [] => []
  | f :: r => .int .i64 f.1 :: .int .i64 f.2 :: planCells r
theorem planCells_at : ∀ {l : List (Int × Int)} {i : Nat} (h : i < l.length), (planCells l)[i * 2]? = some (.int .i64 l[i].1) ∧ (planCells l)[i * 2 + 1]? = some (.int .i64 l[i].2)
  | f :: r, 0, _ => ⟨rfl, rfl⟩
  | f :: r, i + 1, h => by
    have := planCells_at (l := r) (i := i) (by simpa using h)
    rw [show (i + 1) * 2 = i * 2 + 1 + 1 by omega]
    exact this
/-- A slice that holds the bytes l, its block among F. -/
def Held (w : World) (F : Nat → Prop) (v : Value) (l : List Nat) : Prop := l.length = 64 ∧ (∀ x ∈ l, x < 256) ∧ Row w F 5 1 v l.length (byts l)
def AllHeld (w : World) (F : Nat → Prop) (vs : List Value) (ls : List (List Nat)) : Prop := vs.length = ls.length ∧ ∀ (i : Nat) (v : Value) (l : List Nat), vs[i]? = some v → ls[i]? = some l → Held w F v l
def pnum (n : Nat) : Value := .int .i64 (n : Int)
end Go.Proofs.Ytaainefdjbmekaa
namespace Go.Proofs.Ytaainefdjbmekaa
open Go.RowKit
theorem Held.cell2 {w : World} {F : Nat → Prop} {v : Value} {l : List Nat} (h : Held w F v l) {g : Nat} {t : TypeId} {cs : Array Value} (hg : Blk w g t cs) (hne : 5 ≠ t) (i : Nat) (u : Value) : Held (w.setCell ⟨g, i, none⟩ u) F v l :=
  ⟨h.1, h.2.1, h.2.2.set_far (h.2.2.ne_ hg hne) u⟩
theorem Held.drewN {w : World} {F : Nat → Prop} {v : Value} {l : List Nat} (h : Held w F v l) (n : Nat) : Held (w.drewN n) F v l := ⟨h.1, h.2.1, h.2.2.drewN n⟩
end Go.Proofs.Ytaainefdjbmekaa
namespace Go.Proofs.Ytaainefdjbmekaa
open Go.RowKit
/-- What Write does to the state. -/
def PSt.put (st : PSt) (n : Nat) (l : List Nat) : PSt := { st with cache := st.cache ++ [(n, l)] }
/-- Write: the code that it returns, and the state behind it. -/
def PSt.write (st : PSt) (n : Int) (l : List Nat) : Int × PSt :=
  if (st.count 2).hit 2 = true then (6, st.count 2)
  else if n < 0 ∨ (st.blocks.length : Int) ≤ n ∨ l.length ≠ 64 then (1, st.count 2)
  else (0, (st.count 2).put n.toNat l)
theorem Held.mono {w : World} {F G : Nat → Prop} {v : Value} {l : List Nat} (h : Held w F v l) (hFG : ∀ i, F i → G i) : Held w G v l := ⟨h.1, h.2.1, h.2.2.mono hFG⟩
theorem AllHeld.mono {w : World} {F G : Nat → Prop} {vs : List Value} {ls : List (List Nat)} (h : AllHeld w F vs ls) (hFG : ∀ i, F i → G i) : AllHeld w G vs ls := ⟨h.1, fun i v l hv hl => (h.2 i v l hv hl).mono hFG⟩
theorem ext_lt {F : Nat → Prop} {w w' : World} (h : ∀ b, F b → b < w.heap.size) (hs : w.heap.size ≤ w'.heap.size) : ∀ b, Ext F w w' b → b < w'.heap.size := fun b hb => hb.elim (fun hb => Nat.lt_of_lt_of_le (h b hb) hs) (fun hb => hb.2)
theorem Held.keep {w w' : World} {F : Nat → Prop} {v : Value} {l : List Nat} (h : Held w F v l) (hk : ∀ b, v.ownBlock = some b → w'.heap[b]? = w.heap[b]?) : Held w' F v l := ⟨h.1, h.2.1, h.2.2.keep hk⟩
end Go.Proofs.Ytaainefdjbmekaa
namespace Go.Proofs.Ytaainefdjbmekaa
open Go.RowKit
/-- The last of the first j cached writes that is one to block n. -/
def scan (c : List (Nat × List Nat)) (n : Nat) : Nat → Option (List Nat)
  | 0 => none
  | j + 1 => match c[j]? with
    | some p => if p.1 = n then some p.2 else scan c n j
    | none => scan c n j
def PSt.look (st : PSt) (n : Nat) : List Nat := (scan st.cache n st.cache.length).getD (st.blocks.getD n [])
/-- Read: the code, and the bytes. -/
def PSt.read (st : PSt) (n : Int) : Int × List Nat :=
  if (st.count 1).hit 1 = true then (6, [])
  else if n < 0 ∨ (st.blocks.length : Int) ≤ n then (1, [])
  else (0, st.look n.toNat)
theorem scan_hit {c : List (Nat × List Nat)} {n j : Nat} (hj : j < c.length) (h : c[j].1 = n) : scan c n (j + 1) = some c[j].2 := by
  simp [scan, List.getElem?_eq_getElem hj, h]
theorem scan_miss {c : List (Nat × List Nat)} {n j : Nat} (hj : j < c.length) (h : c[j].1 ≠ n) : scan c n (j + 1) = scan c n j := by
  simp [scan, List.getElem?_eq_getElem hj, h]
theorem Held.form {w : World} {F : Nat → Prop} {v : Value} {l : List Nat} (h : Held w F v l) : ∃ A c, v = .slice A l.length c ∧ l.length ≤ c ∧ (A = none → c = 0) ∧ Sl w w.heap.size A (byts l) := by
  obtain ⟨A, c, rfl, h1, h2⟩ := h.2.2.form
  have hs := h.2.2
  have hsl : w.ownsRow 0 5 1 (.slice A (byts l).length c) (byts l).length (byts l) := by rw [byts_length]; exact hs.own
  exact ⟨A, c, rfl, h1, h2, Sl.of_own hsl⟩
end Go.Proofs.Ytaainefdjbmekaa
namespace Go.Proofs.Ytaainefdjbmekaa
open Go.RowKit Go.Maps
def flat64 (ls : List (List Nat)) : List Value := ls.flatMap byts
def flat65 (l : List (Nat × List Nat)) : List Value := l.flatMap fun p => pnum p.1 :: byts p.2
/-- The list with vs laid in from place o on. -/
def lay : List Value → Nat → List Value → List Value
  | xs, _, [] => xs
  | xs, o, v :: r => lay (xs.set o v) (o + 1) r
theorem lay_at : ∀ (vs xs : List Value) (o k : Nat), (lay xs o vs)[k]? = if o ≤ k ∧ k < o + vs.length ∧ k < xs.length then vs[k - o]? else xs[k]?
  | [], xs, o, k => by rw [lay, if_neg (by simp; omega)]
  | v :: r, xs, o, k => by
    rw [lay, lay_at r, List.length_set]
    by_cases h1 : o + 1 ≤ k ∧ k < o + 1 + r.length ∧ k < xs.length
    · rw [if_pos h1, if_pos (by simp; omega), show k - o = (k - (o + 1)) + 1 by omega, List.getElem?_cons_succ]
    · rw [if_neg h1]
      by_cases h2 : o = k
      · subst h2
        by_cases h3 : o < xs.length
        · rw [List.getElem?_set_self h3, if_pos (by simp; omega)]; simp
        · rw [if_neg (by omega), List.set_eq_of_length_le (by omega)]
      · rw [List.getElem?_set_ne h2, if_neg (by simp; omega)]
theorem flat_length {α : Type} {f : α → List Value} {s : Nat} : ∀ {l : List α}, (∀ x ∈ l, (f x).length = s) → (l.flatMap f).length = l.length * s
  | [], _ => by simp
  | x :: r, h => by
    rw [List.flatMap_cons, List.length_append, flat_length (fun y hy => h y (List.mem_cons_of_mem _ hy)), h x (List.mem_cons_self ..), List.length_cons, Nat.add_mul]; omega
theorem flat_at {α : Type} {f : α → List Value} {s : Nat} : ∀ {l : List α} (_ : ∀ x ∈ l, (f x).length = s) {i k : Nat} (_hi : i < l.length) (_ : k < s), (l.flatMap f)[i * s + k]? = (f l[i])[k]?
  | x :: r, h, 0, k, _, hk => by
    rw [List.flatMap_cons, Nat.zero_mul, Nat.zero_add, List.getElem?_append_left (by rw [h x (List.mem_cons_self ..)]; exact hk)]; rfl
  | x :: r, h, i + 1, k, hi, hk => by
    have hx := h x (List.mem_cons_self ..)
    rw [List.flatMap_cons, List.getElem?_append_right (by rw [hx, Nat.add_mul]; omega), hx, show (i + 1) * s + k - s = i * s + k by rw [Nat.add_mul]; omega]
    exact flat_at (fun y hy => h y (List.mem_cons_of_mem _ hy)) (by simpa using hi) hk
theorem flat_set {α : Type} {f : α → List Value} {s : Nat} {l : List α} (hs : 0 < s) (h : ∀ x ∈ l, (f x).length = s) {i : Nat} {y : α} (hy : (f y).length = s) : lay (l.flatMap f) (i * s) (f y) = (l.set i y).flatMap f := by
  have h' : ∀ x ∈ l.set i y, (f x).length = s := fun x hx => by
    rcases List.mem_or_eq_of_mem_set hx with hx | rfl
    · exact h x hx
    · exact hy
  refine List.ext_getElem? fun k => ?_
  rw [lay_at, flat_length h, hy]
  by_cases hk : k < l.length * s
  · have hq : k / s < l.length := Nat.div_lt_of_lt_mul (by rwa [Nat.mul_comm])
    have hm : k % s < s := Nat.mod_lt _ hs
    have hkk : k / s * s + k % s = k := by rw [Nat.mul_comm]; exact Nat.div_add_mod k s
    have e1 := flat_at h hq hm
    have e2 := flat_at h' (i := k / s) (by rw [List.length_set]; exact hq) hm
    rw [hkk] at e1 e2
    rw [e1, e2]
    by_cases hki : i = k / s
    · have h1 : i * s + k % s = k := by rw [hki]; exact hkk
      rw [if_pos (by omega), show k - i * s = k % s by omega]
      simp [← hki]
    · rw [if_neg, List.getElem_set_ne hki]
      intro ⟨h1, h2, _⟩
      apply hki
      have a1 : i ≤ k / s := (Nat.le_div_iff_mul_le hs).2 h1
      have a2 : k / s < i + 1 := (Nat.div_lt_iff_lt_mul hs).2 (by rw [Nat.add_mul]; omega)
      omega
  · rw [if_neg (by omega), List.getElem?_eq_none (by rw [flat_length h]; omega), List.getElem?_eq_none (by rw [flat_length h', List.length_set]; omega)]
/-- Many cells of a row stored into. -/
theorem Row.laid {F : Nat → Prop} {e : TypeId} {size n b c : Nat} : ∀ (vs xs : List Value) (o : Nat) (w : World), Row w F e size (.slice (some ⟨b, 0, none⟩) n c) n xs → Row (w.setCells b o vs) F e size (.slice (some ⟨b, 0, none⟩) n c) n (lay xs o vs)
  | [], _, _, _, h => h
  | v :: r, xs, o, w, h => by
    rw [World.setCells, lay]
    exact Row.laid r _ _ _ (h.stored o v)
theorem Row.range {w : World} {F : Nat → Prop} {e : TypeId} {size n b c : Nat} {α : Type} {f : α → List Value} {l : List α} (h : Row w F e size (.slice (some ⟨b, 0, none⟩) n c) n (l.flatMap f)) (hl : ∀ x ∈ l, (f x).length = size) (hn : n = l.length) {i : Nat} (hi : i < l.length) :
    w.rangeAt b (i * size) (f l[i]) := by
  intro j v hv
  have hj : j < size := by have := (List.getElem?_eq_some_iff.1 hv).1; rwa [hl _ (List.getElem_mem _)] at this
  have hlt : i * size + j < n * size := by
    have : (i + 1) * size ≤ n * size := Nat.mul_le_mul_right _ (by omega)
    rw [Nat.add_mul] at this; omega
  rw [h.own.cellAt _ hlt, flat_at hl hi hj, hv]
theorem heap_setCells (b : Nat) : ∀ (vs : List Value) (o : Nat) (w : World) (i : Nat), i ≠ b → (w.setCells b o vs).heap[i]? = w.heap[i]?
  | [], _, _, _, _ => rfl
  | v :: r, o, w, i, h => by rw [World.setCells, heap_setCells b r _ _ _ h, Below.heap_setCell _ _ _ _ h]
theorem size_setCells (b : Nat) : ∀ (vs : List Value) (o : Nat) (w : World), (w.setCells b o vs).heap.size = w.heap.size
  | [], _, _ => rfl
  | v :: r, o, w => by rw [World.setCells, size_setCells b r]; simp
theorem Chg.setCells {F : Nat → Prop} {a : World} {b : Nat} (hb : F b ∨ a.heap.size ≤ b) : ∀ (vs : List Value) (o : Nat) (c : World), Chg F a c → Chg F a (c.setCells b o vs)
  | [], _, _, h => h
  | v :: r, o, c, h => by rw [World.setCells]; exact Chg.setCells hb r _ _ (h.setCell (p := ⟨b, o, none⟩) hb v)
/-- The state is one that there can be. -/
structure PSt.Wf (st : PSt) : Prop where
  b : ∀ l ∈ st.blocks, l.length = 64 ∧ ∀ x ∈ l, x < 256
  c : ∀ p ∈ st.cache, p.1 < st.blocks.length ∧ p.2.length = 64 ∧ ∀ x ∈ p.2, x < 256
theorem PSt.Wf.b64 {st : PSt} (h : st.Wf) : ∀ l ∈ st.blocks, (byts l).length = 64 := fun l hl => by rw [byts_length]; exact (h.b l hl).1
theorem PSt.Wf.c65 {st : PSt} (h : st.Wf) : ∀ p ∈ st.cache, ((fun p : Nat × List Nat => pnum p.1 :: byts p.2) p).length = 65 := fun p hp => by simp [byts_length, (h.c p hp).2.1]
/-- Entry i is the last cached write to block n. -/
def LastIs (c : List (Nat × List Nat)) (n i : Nat) : Prop := ∃ h : i < c.length, c[i].1 = n ∧ ∀ j (hj : j < c.length), i < j → c[j].1 ≠ n
def Last (c : List (Nat × List Nat)) (D : DataW Unit) : Prop :=
  ∀ n : Nat, n < 9223372036854775808 → (has D (.int .i64 n) = false ∧ ∀ p ∈ c, p.1 ≠ n) ∨ ∃ i : Nat, has D (.int .i64 n) = true ∧ D.atKey (.int .i64 n) (.lit (.int .i64 0)) = .lit (.int .i64 i) ∧ LastIs c n i
/-- Is the j-th operation of kind k since New planned to fail? -/
def PSt.due (st : PSt) (k j : Nat) : Bool := st.plan.any fun f => f.1 == (k : Int) && f.2 == (j : Int) - ((st.ops k : Int) - (st.since k : Int))
def fk (a b : Int) : Lit := .string (keyBytes [.int .i64 a, .int .i64 b])
def Due (st : PSt) (Pm : Option Nat) (E : DataW Unit) : Prop := ∀ k j : Nat, 1 ≤ k → k ≤ 3 → st.ops k < j → j < 4611686018427387904 → (Pm.isSome && has E (fk k j)) = st.due k j
def devCells (st : PSt) (Bv Cv : Value) (bm : Nat) (Pm : Option Nat) : Array Value :=
  #[Bv, Cv, .map (some bm), .map Pm, pnum (st.ops 0), pnum (st.ops 1), pnum (st.ops 2), pnum (st.ops 3)]
structure DevS (w : World) (F : Nat → Prop) (g : Nat) (st : PSt) (Bv Cv : Value) (bm : Nat) (Pm : Option Nat) (D E : DataW Unit) : Prop where
  wf : st.Wf
  lt : ∀ b, F b → b < w.heap.size
  fg : F g
  blk : Blk w g 98 (devCells st Bv Cv bm Pm)
  B : Row w F 113 64 Bv st.blocks.length (flat64 st.blocks)
  C : Row w F 115 65 Cv st.cache.length (flat65 st.cache)
  fm : F bm
  M : w.ownsMap Try.prog 3 (plainElem Try.prog 3) bm st.cache.length D
  last : Last st.cache D
  P : ∀ b, Pm = some b → F b ∧ b ≠ bm ∧ w.ownsMap Try.prog 100 unitElem b st.plan.length E
  due : Due st Pm E
/-- Block g is the program's platter in state st; all that it holds lies in F. -/
def Dev (w : World) (F : Nat → Prop) (g : Nat) (st : PSt) : Prop := ∃ Bv Cv bm Pm D E, DevS w F g st Bv Cv bm Pm D E
theorem ownsMap_keep {w w' : World} {P : Program} {k : TypeId} {R : Value → Option (DataW Unit × List MemPlace)} {b n : Nat} {D : DataW Unit} (h : w.ownsMap P k R b n D) (hk : w'.heap[b]? = w.heap[b]?) : w'.ownsMap P k R b n D := by
  obtain ⟨es, clock, hb, r⟩ := h
  exact ⟨es, clock, hk.trans hb, r⟩
theorem ownsMap_ne {w : World} {P : Program} {k : TypeId} {R : Value → Option (DataW Unit × List MemPlace)} {b n : Nat} {D : DataW Unit} (h : w.ownsMap P k R b n D) {g : Nat} {t : TypeId} {cs : Array Value} (hg : Blk w g t cs) : b ≠ g := by
  obtain ⟨es, clock, hb, r⟩ := h
  rintro rfl
  unfold Blk at hg
  rw [hb] at hg
  cases hg
section
variable {w w' : World} {F G : Nat → Prop} {g : Nat} {st : PSt} {Bv Cv : Value} {bm : Nat} {Pm : Option Nat} {D E : DataW Unit}
theorem DevS.keep (h : DevS w F g st Bv Cv bm Pm D E) (hs : w.heap.size ≤ w'.heap.size) (hk : ∀ b, F b → w'.heap[b]? = w.heap[b]?) : DevS w' F g st Bv Cv bm Pm D E :=
  ⟨h.wf, fun b hb => Nat.lt_of_lt_of_le (h.lt b hb) hs, h.fg, h.blk.keep (hk g h.fg), h.B.keep fun b hb => hk b (h.B.mem b hb), h.C.keep fun b hb => hk b (h.C.mem b hb), h.fm, ownsMap_keep h.M (hk bm h.fm), h.last, fun b hb => ⟨(h.P b hb).1, (h.P b hb).2.1, ownsMap_keep (h.P b hb).2.2 (hk b (h.P b hb).1)⟩, h.due⟩
theorem DevS.mono (h : DevS w F g st Bv Cv bm Pm D E) (hFG : ∀ i, F i → G i) (hG : ∀ b, G b → b < w.heap.size) : DevS w G g st Bv Cv bm Pm D E :=
  ⟨h.wf, hG, hFG g h.fg, h.blk, h.B.mono hFG, h.C.mono hFG, hFG bm h.fm, h.M, h.last, fun b hb => ⟨hFG b (h.P b hb).1, (h.P b hb).2⟩, h.due⟩
theorem Dev.keep (h : Dev w F g st) (hs : w.heap.size ≤ w'.heap.size) (hk : ∀ b, F b → w'.heap[b]? = w.heap[b]?) : Dev w' F g st := by
  obtain ⟨Bv, Cv, bm, Pm, D, E, h⟩ := h
  exact ⟨Bv, Cv, bm, Pm, D, E, h.keep hs hk⟩
theorem Dev.mono (h : Dev w F g st) (hFG : ∀ i, F i → G i) (hG : ∀ b, G b → b < w.heap.size) : Dev w G g st := by
  obtain ⟨Bv, Cv, bm, Pm, D, E, h⟩ := h
  exact ⟨Bv, Cv, bm, Pm, D, E, h.mono hFG hG⟩
theorem Dev.lt (h : Dev w F g st) : ∀ b, F b → b < w.heap.size := by obtain ⟨_, _, _, _, _, _, h⟩ := h; exact h.lt
theorem Dev.wf (h : Dev w F g st) : st.Wf := by obtain ⟨_, _, _, _, _, _, h⟩ := h; exact h.wf
/-- Whatever has changed of other blocks. -/
theorem Dev.chg (h : Dev w F g st) (hc : Chg G w w') (hd : ∀ b, F b → ¬ G b) : Dev w' F g st := h.keep hc.size fun b hb => hc.block b (h.lt b hb) (hd b hb)
end
theorem kint : Keyed Try.prog 3 := int_keyed Try.underlying3
theorem klaid : laidOutB Try.prog = true := by kernel_rfl
theorem kfault : Keyed Try.prog 100 := Keyed.of_law (deep_law_laid klaid (m := 2) (by omega) (of_decide_eq_true (by kernel_rfl)) (by kernel_rfl) (by rw [Try.underlying100]))
theorem key_int {n : Int} (h : (Lit.int .i64 n).wf = true) : keyOf Try.prog 3 (.int .i64 n) = some (.int .i64 n) := keyOf_int_mk Try.underlying3 h
theorem int_lits (d : Nat) (a : Int) (ha : (Lit.int .i64 a).wf = true) : Try.prog.keyLits (d + 1) 3 [.int .i64 a] = some [.int .i64 a] := by
  unfold Program.keyLits
  rw [Try.underlying3]
  simp [ha]
theorem fault_lits (d : Nat) (a b : Int) (ha : (Lit.int .i64 a).wf = true) (hb : (Lit.int .i64 b).wf = true) : Try.prog.keyLits (d + 2) 100 [.int .i64 a, .int .i64 b] = some [.int .i64 a, .int .i64 b] := by
  have hc : Try.prog.cellsOf 100 = 2 := by kernel_rfl
  have hi : Try.prog.cellsOf 3 = 1 := by kernel_rfl
  have h1 := int_lits d a ha
  have h2 := int_lits d b hb
  unfold Program.keyLits
  rw [Try.underlying100]
  simp [hc, hi, h1, h2]
theorem key_fault (a b : Int) (ha : (Lit.int .i64 a).wf = true) (hb : (Lit.int .i64 b).wf = true) : keyOf Try.prog 100 (.agg #[.int .i64 a, .int .i64 b]) = some (fk a b) := by
  have h1 : Try.prog.keyType 100 = true := by kernel_rfl
  have h2 : (Value.agg #[.int .i64 a, .int .i64 b]).formed Try.prog 100 = true := by
    have hc : Try.prog.cellsOf 100 = 2 := by kernel_rfl
    simp [Value.formed, Try.underlying100, hc]
  have h3 : Try.prog.keyLits (Try.prog.types.size + 1) 100 [.int .i64 a, .int .i64 b] = some [.int .i64 a, .int .i64 b] := by
    have h : 1 ≤ Try.prog.types.size := of_decide_eq_true (by kernel_rfl)
    obtain ⟨d, hd⟩ : ∃ d, Try.prog.types.size + 1 = d + 2 := ⟨Try.prog.types.size - 1, by omega⟩
    rw [hd]; exact fault_lits d a b ha hb
  simp only [keyOf, Try.underlying100, h1, h2, Value.cells, Bool.and_self, if_true, fk]
  rw [h3]
  rfl
theorem fk_inj {a b a' b' : Int} (ha : (Lit.int .i64 a).wf = true) (hb : (Lit.int .i64 b).wf = true) (ha' : (Lit.int .i64 a').wf = true) (hb' : (Lit.int .i64 b').wf = true) (h : fk a b = fk a' b') : a = a' ∧ b = b' := by
  have := kfault.inj (key_fault a b ha hb) (by rw [h]; exact key_fault a' b' ha' hb')
  simpa using this
end Go.Proofs.Ytaainefdjbmekaa
namespace Go.Proofs.Ytaainefdjbmekaa
open Go.RowKit Go.Maps
/-- Is the fault planned? -/
theorem look_planned {w : World} {Pm : Option Nat} {N : Nat} {E : DataW Unit} (h : ∀ b, Pm = some b → w.ownsMap Try.prog 100 unitElem b N E) {a b : Int} (ha : (Lit.int .i64 a).wf = true) (hb : (Lit.int .i64 b).wf = true) :
    (Instr.lookup 95 (.map Pm) (.agg #[.int .i64 a, .int .i64 b]) true).run Try.prog w = .ok (.tuple #[.agg #[], .bool (Pm.isSome && has E (fk a b))]) w := by
  have hz : (zeroValue 101).run Try.prog w = .ok (.agg #[]) w := by kernel_rfl
  cases Pm with
  | none =>
    have := Maps.look_nil true kfault Try.underlying95 hz (key_fault a b ha hb)
    simpa using this
  | some m =>
    obtain ⟨v, ps, hrun, hv⟩ := (h m rfl).look_ok kfault Try.underlying95 hz unitElem_mk (key_fault a b ha hb)
    obtain ⟨rfl, _⟩ := unitElem_inv hv
    simpa using hrun
/-- Where is the last write to a block? -/
theorem look_last {w : World} {bm N : Nat} {D : DataW Unit} (h : w.ownsMap Try.prog 3 (plainElem Try.prog 3) bm N D) {n : Int} (hn : (Lit.int .i64 n).wf = true) :
    ∃ c : Int, (Instr.lookup 94 (.map (some bm)) (.int .i64 n) true).run Try.prog w = .ok (.tuple #[.int .i64 c, .bool (has D (.int .i64 n))]) w ∧ D.atKey (.int .i64 n) (.lit (.int .i64 0)) = .lit (.int .i64 c) := by
  have hz : (zeroValue 3).run Try.prog w = .ok (.int .i64 0) w := by kernel_rfl
  obtain ⟨v, ps, hrun, hv⟩ := h.look_ok kint Try.underlying94 hz (plainElem_int Try.underlying3 (by decide)) (key_int hn)
  obtain ⟨c, rfl, hc, _⟩ := plainElem_int_inv Try.underlying3 hv
  exact ⟨c, hrun, congrArg Prod.fst hc⟩
theorem hit_due (st : PSt) (k : Nat) : (st.count k).hit k = st.due k (st.ops k + 1) := by
  unfold PSt.hit PSt.due
  congr 1
  funext f
  have : ((st.count k).since k : Int) = ((st.ops k + 1 : Nat) : Int) - ((st.ops k : Int) - (st.since k : Int)) := by simp [PSt.count, bump]; omega
  rw [this]
theorem due_count (st : PSt) (k k' j : Nat) : (st.count k).due k' j = st.due k' j := by
  unfold PSt.due
  have : ((st.count k).ops k' : Int) - ((st.count k).since k' : Int) = (st.ops k' : Int) - (st.since k' : Int) := by
    simp only [PSt.count, bump]; split <;> omega
  rw [this]
  rfl
theorem ops_count_le (st : PSt) (k k' : Nat) : st.ops k' ≤ (st.count k).ops k' := by simp only [PSt.count, bump]; split <;> omega
theorem wf_i64 {n : Int} (h1 : -9223372036854775808 ≤ n) (h2 : n ≤ 9223372036854775807) : (Lit.int .i64 n).wf = true := by
  simp [Lit.wf, IntKind.min, IntKind.max, IntKind.bits, IntKind.signed]; omega
theorem Wf.count {st : PSt} (h : st.Wf) (k : Nat) : (st.count k).Wf := ⟨h.b, h.c⟩
section
variable {w w' : World} {F G : Nat → Prop} {g : Nat} {st : PSt} {Bv Cv : Value} {bm : Nat} {Pm : Option Nat} {D E : DataW Unit}
/-- A count is written. -/
theorem DevS.counted (h : DevS w F g st Bv Cv bm Pm D E) {k : Nat} (hk : 1 ≤ k ∧ k ≤ 3) : DevS (w.setCell ⟨g, 4 + k, none⟩ (pnum (st.ops k + 1))) F g (st.count k) Bv Cv bm Pm D E := by
  have hB := h.B.ne_ h.blk (by decide)
  have hC := h.C.ne_ h.blk (by decide)
  have hm := ownsMap_ne h.M h.blk
  refine ⟨Wf.count h.wf k, fun b hb => by simpa using h.lt b hb, h.fg, ?_, h.B.set_far hB _, h.C.set_far hC _, h.fm, ownsMap_keep h.M (Below.heap_setCell _ _ _ _ hm), h.last, fun b hb => ⟨(h.P b hb).1, (h.P b hb).2.1, ownsMap_keep (h.P b hb).2.2 (Below.heap_setCell _ _ _ _ (ownsMap_ne (h.P b hb).2.2 h.blk))⟩, ?_⟩
  · have := h.blk.set_ (4 + k) (pnum (st.ops k + 1))
    obtain ⟨h1, h2⟩ := hk
    have hcases : k = 1 ∨ k = 2 ∨ k = 3 := by omega
    rcases hcases with rfl | rfl | rfl <;> exact this
  · intro k' j h1 h2 h3 h4
    rw [due_count]
    exact h.due k' j h1 h2 (Nat.lt_of_le_of_lt (ops_count_le st k k') h3) h4
/-- A planned fault is struck: one that is over. -/
theorem DevS.struck {b : Nat} (h : DevS w F g st Bv Cv bm (some b) D E) {a j : Nat} (ha : a ≤ 3) (hj : j ≤ st.ops a) (hs : st.ops a < 4611686018427387904) (hown : w'.ownsMap Try.prog 100 unitElem b st.plan.length (E.del (fk a j))) (hg : w.grownBy w' (some b)) (hz : w'.heap.size = w.heap.size) :
    DevS w' F g st Bv Cv bm (some b) D (E.del (fk a j)) := by
  obtain ⟨hFb, hnb, hPb⟩ := h.P b rfl
  have far : ∀ i, F i → i ≠ b → w'.heap[i]? = w.heap[i]? := fun i hi hne => hg.block i (h.lt i hi) (fun e => hne (by injection e))
  have hmb : bm ≠ b := hnb.symm
  have hrow : ∀ {e size n : Nat} {v : Value} {xs : List Value}, Row w F e size v n xs → Row w' F e size v n xs := fun hr => hr.keep fun i hi => far i (hr.mem i hi) (fun e => by
    obtain ⟨cur, hc⟩ := hr.blk hi
    exact ownsMap_ne hPb hc e.symm)
  exact ⟨h.wf, fun i hi => by rw [hz]; exact h.lt i hi, h.fg, h.blk.keep (far g h.fg (fun e => ownsMap_ne hPb h.blk e.symm)), hrow h.B, hrow h.C, h.fm, ownsMap_keep h.M (far bm h.fm hmb), h.last, fun i hi => by injection hi with hi; subst hi; exact ⟨hFb, hnb, hown⟩, fun k' j' h1 h2 h3 h4 => by
    rw [← h.due k' j' h1 h2 h3 h4, has_del_other]
    intro e
    obtain ⟨e1, e2⟩ := fk_inj (wf_i64 (by omega) (by omega)) (wf_i64 (by omega) (by omega)) (wf_i64 (by omega) (by omega)) (wf_i64 (by omega) (by omega)) e
    have : k' = a := by omega
    subst this
    omega⟩
end
end Go.Proofs.Ytaainefdjbmekaa
