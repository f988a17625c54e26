/- The program's writer in a statement's walk: what it leaves alone is told by the kinds of blocks. -/
import Derived.Test.YtdfelkkibolheaaWr
namespace Go.Proofs.Ytdfelkkibolheaa
open Go.RowKit Vint

/-- Block g, not older than B, is a writer that holds the bytes l. -/
structure Wn (w : World) (B g : Nat) (l : List Nat) : Prop where
  bg : B ≤ g
  ex : ∃ v, Blk w g 26 #[v] ∧ w.ownsRow B 5 1 v l.length (byts l)
/-- Blocks older than B, and those that hold neither a writer nor bytes, are as they were. -/
structure Oth (B : Nat) (w w' : World) : Prop where
  os : w'.os = w.os
  tape : w'.tape = w.tape
  output : w'.output = w.output
  size : w.heap.size ≤ w'.heap.size
  old : ∀ b, b < w.heap.size → b < B → w'.heap[b]? = w.heap[b]?
  kind : ∀ b t cs, Blk w b t cs → t ≠ 26 → t ≠ 5 → Blk w' b t cs

theorem Oth.below {B : Nat} {w w' : World} (h : Oth B w w') (hB : B ≤ w.heap.size) : Below B w w' := ⟨h.os, h.tape, h.output, h.size, fun i hi => h.old i (Nat.lt_of_lt_of_le hi hB) hi⟩
theorem oth_of {B : Nat} {w w' : World} (h : Below w.heap.size w w') : Oth B w w' := ⟨h.os, h.tape, h.output, h.size, fun i hi _ => h.block i hi, fun b _ _ hb _ _ => hb.keep (h.block b hb.lt)⟩
theorem Oth.trans {B : Nat} {a b c : World} (h : Oth B a b) (k : Oth B b c) : Oth B a c :=
  ⟨k.os.trans h.os, k.tape.trans h.tape, k.output.trans h.output, Nat.le_trans h.size k.size, fun i hi hB => (k.old i (Nat.lt_of_lt_of_le hi h.size) hB).trans (h.old i hi hB), fun i t cs hb h1 h2 => k.kind i t cs (h.kind i t cs hb h1 h2) h1 h2⟩
theorem own_base {w : World} {B : Nat} {e : TypeId} {size n : Nat} {v : Value} {xs : List Value} (h : w.ownsRow 0 e size v n xs) (hb : ∀ k, v.ownBlock = some k → B ≤ k) : w.ownsRow B e size v n xs := by
  refine ⟨h.1, ?_⟩
  rcases h.2 with h0 | ⟨g, cap, cur, hv, _, rest⟩
  · exact .inl h0
  · exact .inr ⟨g, cap, cur, hv, hb g (by rw [hv]; rfl), rest⟩
theorem own_zero {w : World} {B : Nat} {e : TypeId} {size n : Nat} {v : Value} {xs : List Value} (h : w.ownsRow B e size v n xs) : w.ownsRow 0 e size v n xs := by
  refine ⟨h.1, ?_⟩
  rcases h.2 with h0 | ⟨g, cap, cur, hv, _, rest⟩
  · exact .inl h0
  · exact .inr ⟨g, cap, cur, hv, Nat.zero_le _, rest⟩

section
variable {w w' : World} {B g : Nat} {l l' : List Nat}
theorem Wn.lt (h : Wn w B g l) : g < w.heap.size := by obtain ⟨_, v, hb, _⟩ := h; exact hb.lt
theorem wn_open (h : Wn w B g l) : ∃ F : Nat → Prop, Wr w F g l ∧ (∀ i, F i → B ≤ i) ∧ ∀ b t cs, Blk w b t cs → t ≠ 26 → t ≠ 5 → ¬ F b := by
  obtain ⟨hg, v, hb, hown⟩ := h
  have hrow : Row w (fun b => b = g ∨ v.ownBlock = some b) 5 1 v l.length (byts l) := ⟨own_zero hown, fun k hk => .inr hk⟩
  refine ⟨fun b => b = g ∨ v.ownBlock = some b, ⟨fun b hF => ?_, .inl rfl, v, hb, hrow⟩, fun i hi => ?_, fun b t cs hbt h1 h2 => ?_⟩
  · rcases hF with rfl | hF
    · exact hb.lt
    · exact hrow.lt hF
  · rcases hi with rfl | hi
    · exact hg
    · exact (hown.lt i hi).1
  · rintro (rfl | h)
    · exact Blk.ne_ hbt hb h1 rfl
    · exact hrow.ne_ hbt (Ne.symm h2) h
theorem wn_shut {F : Nat → Prop} (h : Wn w B g l) (hF : ∀ i, F i → B ≤ i) (hk : ∀ b t cs, Blk w b t cs → t ≠ 26 → t ≠ 5 → ¬ F b) (hW : Wr w' (Ext F w w') g l') (hc : Chg F w w') : Wn w' B g l' ∧ Oth B w w' := by
  have hlt := h.lt
  obtain ⟨hg, _⟩ := h
  obtain ⟨_, _, v, hb, hrow⟩ := hW
  refine ⟨⟨hg, v, hb, own_base hrow.own fun k hk => ?_⟩, hc.os, hc.tape, hc.output, hc.size, fun b hb hB => hc.block b hb fun h => by have := hF b h; omega, fun b t cs hb h1 h2 => hb.keep (hc.block b hb.lt (hk b t cs hb h1 h2))⟩
  rcases hrow.mem k hk with h | h
  · exact hF k h
  · omega
theorem wn_new (w : World) {B : Nat} (hB : B ≤ w.heap.size) : Wn (w.alloc (.cells #[.slice none 0 0] 26)) B w.heap.size [] := ⟨hB, _, Blk.new _ _ _, World.ownsRow_nil _ _ _ _⟩
theorem Wn.keep (h : Wn w B g l) (hk : ∀ b, b < w.heap.size → B ≤ b → w'.heap[b]? = w.heap[b]?) : Wn w' B g l := by
  obtain ⟨hg, v, hb, hown⟩ := h
  exact ⟨hg, v, hb.keep (hk g hb.lt hg), own_keep hown fun b hb hlt => hk b hlt (hown.lt b hb).1⟩
theorem Wn.below (h : Wn w B g l) (hb : Below w.heap.size w w') : Wn w' B g l := h.keep fun b hlt _ => hb.block b hlt
/-- A store into a cell of another kind. -/
theorem Wn.set (h : Wn w B g l) {p : Addr} {t : TypeId} {cs : Array Value} (hp : Blk w p.block t cs) (h1 : t ≠ 26) (h2 : t ≠ 5) (v : Value) : Wn (w.setCell p v) B g l := by
  obtain ⟨hg, u, hb, hown⟩ := h
  have hrow : Row w (fun _ => True) 5 1 u l.length (byts l) := ⟨own_zero hown, fun k hk => trivial⟩
  exact ⟨hg, u, hb.far (Blk.ne_ hp hb h1) _, own_far hown (fun hk => hrow.ne_ hp (Ne.symm h2) hk) _⟩
theorem wn_num (h : Wn w B g l) (x : Nat) (hx : x < 268435456) (hl : l.length ≤ 1000000000) :
    Calls Try.prog 20 #[.pointer (some ⟨g, 0, none⟩), .int .i64 (x : Int)] w fun e w' => e = .returned (.tuple #[]) ∧ Wn w' B g (l ++ vint x) ∧ Oth B w w' := by
  obtain ⟨F, hW, hF, hk⟩ := wn_open h
  refine (wnum_any g x hx F l hl w hW).mono ?_
  rintro e w' ⟨rfl, hW', hc⟩
  exact ⟨rfl, wn_shut h hF hk hW' hc⟩
theorem wn_bytes (h : Wn w B g l) (hl : l.length ≤ 999000000) {A : Option Addr} {cap B' : Nat} {b : List Nat} (hsl : Sl w B' A (byts b)) (hB : B' ≤ w.heap.size) (hd : byts b ≠ [] → ∀ i o, A = some ⟨i, o, none⟩ → i < B ∨ ∃ v, Blk w g 26 #[v] ∧ i ≠ g ∧ v.ownBlock ≠ some i) (hcap : b.length ≤ cap) (hA : A = none → cap = 0) (hb : b.length ≤ 10000) :
    Calls Try.prog 17 #[.pointer (some ⟨g, 0, none⟩), .slice A b.length cap] w fun e w' => e = .returned (.tuple #[]) ∧ Wn w' B g (l ++ vint b.length ++ b) ∧ Oth B w w' := by
  have h' := h
  obtain ⟨hg, v, hbk, hown⟩ := h
  have hrow : Row w (fun b => b = g ∨ v.ownBlock = some b) 5 1 v l.length (byts l) := ⟨own_zero hown, fun k hk => .inr hk⟩
  have hF : ∀ i, (i = g ∨ v.ownBlock = some i) → B ≤ i := fun i hi => by
    rcases hi with rfl | hi
    · exact hg
    · exact (hown.lt i hi).1
  have hW : Wr w (fun b => b = g ∨ v.ownBlock = some b) g l := ⟨fun b hF => by
    rcases hF with rfl | hF
    · exact hbk.lt
    · exact hrow.lt hF, .inl rfl, v, hbk, hrow⟩
  refine (wbytes_any g _ l hl w hW A cap b hsl hB (fun hne i o e hF' => ?_) hcap hA hb).mono ?_
  · rcases hd hne i o e with hlt | ⟨v', hb', h1, h2⟩
    · have := hF i hF'; omega
    · have : v' = v := by
        have e1 := hb'.cell 0
        have e2 := hbk.cell 0
        rw [e1] at e2
        simpa using e2
      subst this
      rcases hF' with h | h
      · exact h1 h
      · exact h2 h
  rintro e w' ⟨rfl, hW', hc⟩
  exact ⟨rfl, wn_shut h' hF (fun b t cs hbt h1 h2 hF => hF.elim (fun e => Blk.ne_ hbt hbk h1 (by rw [e])) (fun e => hrow.ne_ hbt (Ne.symm h2) e)) hW' hc⟩
/-- A block that was just made is none of the writer's. -/
theorem wn_fresh (h : Wn w B g l) (o : Obj) : ∃ v, Blk (w.alloc o) g 26 #[v] ∧ w.heap.size ≠ g ∧ v.ownBlock ≠ some w.heap.size := by
  obtain ⟨hg, v, hb, hown⟩ := h
  exact ⟨v, hb.alloc o, by have := hb.lt; omega, fun hk => by have := (hown.lt _ hk).2; omega⟩
theorem Wn.alloc (h : Wn w B g l) (o : Obj) : Wn (w.alloc o) B g l := h.keep fun b hb _ => Below.heap_alloc w o b hb
theorem Wn.chg (h : Wn w B g l) {X : Nat → Prop} (hc : Chg X w w') (hX : ∀ b, X b → ∃ t cs, Blk w b t cs ∧ t ≠ 26 ∧ t ≠ 5) : Wn w' B g l := by
  obtain ⟨hg, u, hb, hown⟩ := h
  have hrow : Row w (fun _ => True) 5 1 u l.length (byts l) := ⟨own_zero hown, fun k hk => trivial⟩
  refine ⟨hg, u, hb.keep (hc.block g hb.lt fun hx => ?_), own_keep hown fun b hb hlt => hc.block b hlt fun hx => ?_⟩
  · obtain ⟨t, cs, h0, h1, _⟩ := hX g hx
    exact Blk.ne_ h0 hb h1 rfl
  · obtain ⟨t, cs, h0, _, h2⟩ := hX b hx
    exact hrow.ne_ h0 (Ne.symm h2) hb
theorem wn_out (h : Wn w B g l) (hl : l.length ≤ 1000000000) : Calls Try.prog 21 #[.pointer (some ⟨g, 0, none⟩)] w (NewBytes w l) := by
  obtain ⟨F, hW, _, _⟩ := wn_open h
  exact wout_any g F l hl w hW
end
end Go.Proofs.Ytdfelkkibolheaa
