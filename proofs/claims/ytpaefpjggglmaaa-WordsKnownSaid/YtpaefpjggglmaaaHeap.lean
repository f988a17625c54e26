/- What a structure in memory holds (a set of blocks), and what a call may have changed: words for contracts of functions on structures. -/
import Derived.Test.YtpaefpjggglmaaaApp
import Derived.OwnWalk
import Derived.Deep.QuietTactic
namespace Go.Proofs.Ytpaefpjggglmaaa
open Go.RowKit

/-- The blocks F, and all that are new since w. -/
def Ext (F : Nat → Prop) (w w' : World) : Nat → Prop := fun b => F b ∨ (w.heap.size ≤ b ∧ b < w'.heap.size)

/-- From w to w' only blocks of F have changed; new ones may have come. -/
structure Chg (F : Nat → Prop) (w w' : World) : Prop where
  os : w'.os = w.os
  tape : w'.tape = w.tape
  output : w'.output = w.output
  size : w.heap.size ≤ w'.heap.size
  block : ∀ b, b < w.heap.size → ¬ F b → w'.heap[b]? = w.heap[b]?

theorem Chg.refl (F : Nat → Prop) (w : World) : Chg F w w := ⟨rfl, rfl, rfl, Nat.le_refl _, fun _ _ _ => rfl⟩
theorem Chg.trans {F : Nat → Prop} {a b c : World} (h : Chg F a b) (k : Chg (Ext F a b) b c) : Chg F a c :=
  ⟨k.os.trans h.os, k.tape.trans h.tape, k.output.trans h.output, Nat.le_trans h.size k.size, fun i hi hF => (k.block i (Nat.lt_of_lt_of_le hi h.size) (fun e => e.elim hF (fun e => by omega))).trans (h.block i hi hF)⟩
theorem Chg.then_ {F : Nat → Prop} {a b c : World} (h : Chg F a b) (k : Chg F b c) : Chg F a c :=
  ⟨k.os.trans h.os, k.tape.trans h.tape, k.output.trans h.output, Nat.le_trans h.size k.size, fun i hi hF => (k.block i (Nat.lt_of_lt_of_le hi h.size) hF).trans (h.block i hi hF)⟩
theorem Chg.mono {F G : Nat → Prop} {a b : World} (h : Chg F a b) (hFG : ∀ i, F i → G i) : Chg G a b :=
  ⟨h.os, h.tape, h.output, h.size, fun i hi hG => h.block i hi fun hF => hG (hFG i hF)⟩
theorem Chg.drew {F : Nat → Prop} {a b : World} (h : Chg F a b) : Chg F a b.drew := ⟨h.os, h.tape, h.output, h.size, h.block⟩
theorem Chg.drewN {F : Nat → Prop} {a b : World} (h : Chg F a b) (n : Nat) : Chg F a (b.drewN n) := ⟨h.os, h.tape, h.output, h.size, h.block⟩
theorem Chg.alloc {F : Nat → Prop} {a b : World} (h : Chg F a b) (o : Obj) : Chg F a (b.alloc o) :=
  ⟨h.os, h.tape, h.output, Nat.le_trans h.size (by simp), fun i hi hF => (Below.heap_alloc _ _ _ (Nat.lt_of_lt_of_le hi h.size)).trans (h.block i hi hF)⟩
theorem Chg.setCell {F : Nat → Prop} {a b : World} (h : Chg F a b) {p : Addr} (hp : F p.block ∨ a.heap.size ≤ p.block) (u : Value) : Chg F a (b.setCell p u) :=
  ⟨h.os, h.tape, h.output, by simpa [World.setCell] using h.size, fun i hi hF => (Below.heap_setCell b p u i (by rintro rfl; exact hp.elim hF (fun hp => by omega))).trans (h.block i hi hF)⟩
theorem Chg.grown {F : Nat → Prop} {a b c : World} {row : Option Nat} (h : Chg F a b) (hg : b.grownBy c row) (hr : ∀ k, row = some k → F k ∨ a.heap.size ≤ k) : Chg F a c :=
  ⟨hg.os.trans h.os, hg.tape.trans h.tape, hg.output.trans h.output, Nat.le_trans h.size hg.size, fun i hi hF => (hg.block i (Nat.lt_of_lt_of_le hi h.size) (fun e => (hr i e.symm).elim hF (fun e => by omega))).trans (h.block i hi hF)⟩
theorem Chg.below {F : Nat → Prop} {a b : World} (h : Chg F a b) {B : Nat} (hB : B ≤ a.heap.size) (hF : ∀ i, F i → B ≤ i) : Below B a b :=
  ⟨h.os, h.tape, h.output, h.size, fun i hi => h.block i (Nat.lt_of_lt_of_le hi hB) (fun e => by have := hF i e; omega)⟩
theorem Chg.of_below {w w' : World} (F : Nat → Prop) (h : Below w.heap.size w w') : Chg F w w' := ⟨h.os, h.tape, h.output, h.size, fun i hi _ => h.block i hi⟩

/-- A block of cells, known whole, none of it frozen. -/
def Blk (w : World) (g : Nat) (t : TypeId) (cs : Array Value) : Prop := w.heap[g]? = some (.cells cs t (0, 0))
section
variable {w w' : World} {g : Nat} {t : TypeId} {cs : Array Value}
theorem Blk.lt (h : Blk w g t cs) : g < w.heap.size := by
  rcases Nat.lt_or_ge g w.heap.size with hlt | hge
  · exact hlt
  · unfold Blk at h; rw [Array.getElem?_eq_none hge] at h; cases h
theorem Blk.cell (h : Blk w g t cs) (i : Nat) : w.cell? ⟨g, i, none⟩ = cs[i]? := cell_of_row w g i cs t (0, 0) h
theorem Blk.frozen (h : Blk w g t cs) (i : Nat) : w.frozen? ⟨g, i, none⟩ = false := frozen_of_row w g i cs t h
theorem Blk.keep (h : Blk w g t cs) (hk : w'.heap[g]? = w.heap[g]?) : Blk w' g t cs := hk.trans h
theorem Blk.set_ (h : Blk w g t cs) (i : Nat) (u : Value) : Blk (w.setCell ⟨g, i, none⟩ u) g t (cs.setIfInBounds i u) := heap_setCell_same w g i cs t u h
theorem Blk.far (h : Blk w g t cs) {p : Addr} (hp : p.block ≠ g) (u : Value) : Blk (w.setCell p u) g t cs := (Below.heap_setCell w p u g (Ne.symm hp)).trans h
theorem Blk.new (w : World) (t : TypeId) (cs : Array Value) : Blk (w.alloc (.cells cs t)) w.heap.size t cs := heap_alloc_new w _
theorem Blk.alloc (h : Blk w g t cs) (o : Obj) : Blk (w.alloc o) g t cs := (Below.heap_alloc w o g h.lt).trans h
theorem Blk.grown {row : Option Nat} (h : Blk w g t cs) (hg : w.grownBy w' row) (hr : row ≠ some g) : Blk w' g t cs := h.keep (hg.block g h.lt (Ne.symm hr))
theorem Blk.ne_ {g' : Nat} {t' : TypeId} {cs' : Array Value} (h : Blk w g t cs) (h' : Blk w g' t' cs') (hne : t ≠ t') : g ≠ g' := by
  rintro rfl
  unfold Blk at h h'
  rw [h] at h'
  injection h' with h'
  injection h' with _ ht
  exact hne ht
end

/-- A row of the program's own, its block among F. -/
structure Row (w : World) (F : Nat → Prop) (e : TypeId) (size : Nat) (v : Value) (n : Nat) (xs : List Value) : Prop where
  own : w.ownsRow 0 e size v n xs
  mem : ∀ k, v.ownBlock = some k → F k

section
variable {w w' : World} {F G : Nat → Prop} {e : TypeId} {size n : Nat} {v : Value} {xs : List Value}
theorem Row.mono (h : Row w F e size v n xs) (hFG : ∀ i, F i → G i) : Row w G e size v n xs := ⟨h.own, fun k hk => hFG k (h.mem k hk)⟩
theorem Row.keep (h : Row w F e size v n xs) (hk : ∀ b, v.ownBlock = some b → w'.heap[b]? = w.heap[b]?) : Row w' F e size v n xs := by
  refine ⟨⟨h.own.1, ?_⟩, h.mem⟩
  rcases h.own.2 with h0 | ⟨g, cap, cur, hv, hb, hg, rest⟩
  · exact .inl h0
  · refine .inr ⟨g, cap, cur, hv, hb, ?_, rest⟩
    rw [hk g (by rw [hv]; rfl)]; exact hg
theorem Row.blk (h : Row w F e size v n xs) {k : Nat} (hk : v.ownBlock = some k) : ∃ cur, Blk w k e cur := by
  rcases h.own.2 with ⟨rfl, _⟩ | ⟨g, cap, cur, rfl, _, hg, _⟩
  · simp [Value.ownBlock] at hk
  · have : g = k := by simpa [Value.ownBlock] using hk
    subst this
    exact ⟨cur, hg⟩
theorem Row.lt (h : Row w F e size v n xs) {k : Nat} (hk : v.ownBlock = some k) : k < w.heap.size := by
  obtain ⟨cur, hb⟩ := h.blk hk
  exact hb.lt
/-- A block of another element type is another block. -/
theorem Row.ne_ (h : Row w F e size v n xs) {g : Nat} {t : TypeId} {cs : Array Value} (hg : Blk w g t cs) (hne : e ≠ t) : v.ownBlock ≠ some g := fun hk => by
  obtain ⟨cur, hb⟩ := h.blk hk
  exact Blk.ne_ hb hg hne rfl
theorem Row.other {F' : Nat → Prop} {e' : TypeId} {size' n' : Nat} {v' : Value} {xs' : List Value} (h : Row w F e size v n xs) (h' : Row w F' e' size' v' n' xs') (hne : e ≠ e') {k : Nat} (hk : v'.ownBlock = some k) : v.ownBlock ≠ some k := by
  obtain ⟨cur, hb⟩ := h'.blk hk
  exact h.ne_ hb hne
theorem Row.set_far (h : Row w F e size v n xs) {p : Addr} (hp : v.ownBlock ≠ some p.block) (u : Value) : Row (w.setCell p u) F e size v n xs :=
  h.keep fun b hb => Below.heap_setCell w p u b (fun e => hp (by rw [hb, e]))
theorem Row.drew (h : Row w F e size v n xs) : Row w.drew F e size v n xs := ⟨h.own, h.mem⟩
theorem Row.drewN (h : Row w F e size v n xs) (k : Nat) : Row (w.drewN k) F e size v n xs := ⟨h.own, h.mem⟩
theorem Row.alloc (h : Row w F e size v n xs) (o : Obj) : Row (w.alloc o) F e size v n xs := h.keep fun _ hb => Below.heap_alloc w o _ (h.lt hb)
theorem Row.chg (h : Row w F e size v n xs) (hc : Chg G w w') (hd : ∀ b, F b → ¬ G b) : Row w' F e size v n xs := h.keep fun b hb => hc.block b (h.lt hb) (hd b (h.mem b hb))
theorem Row.grown {row : Option Nat} (h : Row w F e size v n xs) (hg : w.grownBy w' row) (hr : ∀ k, v.ownBlock = some k → row ≠ some k) : Row w' F e size v n xs :=
  h.keep fun b hb => hg.block b (h.lt hb) (fun e => hr b hb e.symm)
theorem Row.below {B : Nat} (h : Row w F e size v n xs) (hc : Below B w w') (hF : ∀ b, F b → b < B) : Row w' F e size v n xs := h.keep fun b hb => hc.block b (hF b (h.mem b hb))
theorem Row.nil (w : World) (F : Nat → Prop) (e : TypeId) (size : Nat) : Row w F e size (.slice none 0 0) 0 [] := ⟨World.ownsRow_nil w 0 e size, fun k hk => by simp [Value.ownBlock] at hk⟩
theorem Row.form (h : Row w F e size v n xs) : ∃ A c, v = .slice A n c ∧ n ≤ c ∧ (A = none → c = 0) := by
  rcases h.own.2 with ⟨rfl, rfl⟩ | ⟨g, cap, cur, rfl, _, _, hnc, _⟩
  · exact ⟨none, 0, rfl, Nat.le_refl _, fun _ => rfl⟩
  · exact ⟨_, cap, rfl, hnc, by simp⟩
theorem Row.sl {A : Option Addr} {c : Nat} (h : Row w F e 1 (.slice A n c) n xs) : Sl w w.heap.size A xs := Sl.of_own h.own
theorem Row.at_ {A : Option Addr} {c : Nat} (h : Row w F e size (.slice A n c) n xs) (hn : 0 < n) : ∃ b, A = some ⟨b, 0, none⟩ ∧ F b ∧ b < w.heap.size ∧ (∀ i, i < n * size → w.cell? ⟨b, i, none⟩ = xs[i]?) ∧ ∀ i, w.frozen? ⟨b, i, none⟩ = false := by
  rcases h.own.2 with ⟨h', h0⟩ | ⟨g, cap, cur, h', _⟩
  · omega
  · injection h' with hA _ _
    subst hA
    exact ⟨g, rfl, h.mem g rfl, h.lt rfl, fun i hi => h.own.cellAt i hi, fun i => h.own.frozenAt i⟩
/-- A cell of the row stored into. -/
theorem Row.stored {b c : Nat} (h : Row w F e size (.slice (some ⟨b, 0, none⟩) n c) n xs) (j : Nat) (u : Value) : Row (w.setCell ⟨b, j, none⟩ u) F e size (.slice (some ⟨b, 0, none⟩) n c) n (xs.set j u) :=
  ⟨(h.own.stored j u).1, fun k hk => h.mem k hk⟩
end

end Go.Proofs.Ytpaefpjggglmaaa
