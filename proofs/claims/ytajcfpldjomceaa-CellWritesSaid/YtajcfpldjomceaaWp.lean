/- A writer beside the bytes that are wanted of it. -/
import Derived.Test.YtajcfpldjomceaaWr
import Derived.Test.YtajcfpldjomceaaRefnum
import Derived.Test.YtajcfpldjomceaaPenc
namespace Go.Proofs.Ytajcfpldjomceaa
open Go.RowKit Vint

/-- Block g is a writer that holds l, its own blocks F; the slice v holds m, its blocks G; all new since w0, and apart. -/
structure Wp (w0 w : World) (F G : Nat → Prop) (g : Nat) (v : Value) (l m : List Nat) : Prop where
  wr : Wr w F g l
  row : Row w G 5 1 v m.length (byts m)
  dis : ∀ i, F i → ¬ G i
  new : ∀ i, F i ∨ G i → w0.heap.size ≤ i
  lt : ∀ i, G i → i < w.heap.size
  bel : Below w0.heap.size w0 w
section
variable {w0 w w' : World} {F G : Nat → Prop} {g : Nat} {v : Value} {l m : List Nat}
theorem Wp.step (h : Wp w0 w F G g v l m) (hb : Below w.heap.size w w') : Wp w0 w' F G g v l m :=
  ⟨h.wr.below hb, h.row.below hb h.lt, h.dis, h.new, fun i hi => Nat.lt_of_lt_of_le (h.lt i hi) hb.size, h.bel.trans (hb.mono h.bel.size)⟩
theorem Wp.flt (h : Wp w0 w F G g v l m) : ∀ i, F i ∨ G i → i < w.heap.size := fun i hi => hi.elim (h.wr.lt i) (h.lt i)
/-- A store into a block that is neither's. -/
theorem Wp.set (h : Wp w0 w F G g v l m) {p : Addr} (hp : ∀ i, F i ∨ G i → i ≠ p.block) (hn : w0.heap.size ≤ p.block) (u : Value) : Wp w0 (w.setCell p u) F G g v l m := by
  have hs : (w.setCell p u).heap.size = w.heap.size := by simp
  refine ⟨h.wr.keep (by rw [hs]; exact Nat.le_refl _) fun b hb => Below.heap_setCell w p u b (hp b (.inl hb)), h.row.keep fun b hb => Below.heap_setCell w p u b (hp b (.inr (h.row.mem b hb))), h.dis, h.new, fun i hi => by rw [hs]; exact h.lt i hi, h.bel.setCell hn u⟩
theorem wp_new (w0 : World) {w : World} (hb : Below w0.heap.size w0 w) : Wp w0 (w.alloc (.cells #[.slice none 0 0] 26)) (fun b => b = w.heap.size) (fun _ => False) w.heap.size (.slice none 0 0) [] [] := by
  have hz := hb.size
  refine ⟨⟨fun b hb => by simp [hb], rfl, _, Blk.new _ _ _, Row.nil _ _ _ _⟩, Row.nil _ _ _ _, fun _ _ h => h, fun i hi => ?_, fun _ h => h.elim, hb.alloc hz _⟩
  rcases hi with rfl | h
  · exact hz
  · exact h.elim
/-- Behind a call of the writer. -/
theorem Wp.wrote (h : Wp w0 w F G g v l m) {l' : List Nat} (hW : Wr w' (Ext F w w') g l') (hc : Chg F w w') : Wp w0 w' (Ext F w w') G g v l' m := by
  have hz := h.bel.size
  refine ⟨hW, h.row.chg hc fun b hb hF' => h.dis b hF' hb, fun i hi hg => ?_, fun i hi => ?_, fun i hi => Nat.lt_of_lt_of_le (h.lt i hi) hc.size, h.bel.trans (hc.below hz fun i hi => h.new i (.inl hi))⟩
  · rcases hi with hi | hi
    · exact h.dis i hi hg
    · have := h.lt i hg; omega
  · rcases hi with (hi | hi) | hi
    · exact h.new i (.inl hi)
    · omega
    · exact h.new i (.inr hi)
theorem wp_num (h : Wp w0 w F G g v l m) (x : Nat) (hx : x < 268435456) (hl : l.length ≤ 1000000000) :
    Calls Try.prog 14 #[.pointer (some ⟨g, 0, none⟩), .int .i64 (x : Int)] w fun e w' => e = .returned (.tuple #[]) ∧ Wp w0 w' (Ext F w w') G g v (l ++ vint x) m ∧ Chg F w w' := by
  refine (wnum_any g x hx F l hl w h.wr).mono ?_
  rintro e w' ⟨rfl, hW, hc⟩
  exact ⟨rfl, h.wrote hW hc, hc⟩
theorem wp_bytes (h : Wp w0 w F G g v l m) (hl : l.length ≤ 999000000) {A : Option Addr} {cap : Nat} {b : List Nat} (hsl : Sl w w0.heap.size A (byts b)) (hcap : b.length ≤ cap) (hA : A = none → cap = 0) (hb : b.length ≤ 10000) :
    Calls Try.prog 11 #[.pointer (some ⟨g, 0, none⟩), .slice A b.length cap] w fun e w' => e = .returned (.tuple #[]) ∧ Wp w0 w' (Ext F w w') G g v (l ++ vint b.length ++ b) m ∧ Chg F w w' := by
  refine (wbytes_any g F l hl w h.wr A cap b hsl h.bel.size (fun hne i o e hF => ?_) hcap hA hb).mono ?_
  · rcases hsl with h0 | ⟨b', o', e', hlt, _⟩
    · exact hne h0
    · rw [e'] at e
      injection e with e
      injection e with e _
      subst e
      have := h.new _ (.inl hF)
      omega
  · rintro e w' ⟨rfl, hW, hc⟩
    exact ⟨rfl, h.wrote hW hc, hc⟩
/-- Behind an append to what is wanted. -/
theorem Wp.appended (h : Wp w0 w F G g v l m) {v2 : Value} {n2 : Nat} {m2 : List Nat} (hown : w'.ownsRow 0 5 1 v2 n2 (byts m2)) (hn : n2 = m2.length) (hgr : w.grownBy w' v.ownBlock) (hbl : v2.ownBlock = v.ownBlock ∨ v2.ownBlock = some w.heap.size) : Wp w0 w' F (Ext G w w') g v2 l m2 := by
  subst hn
  have hz := h.bel.size
  have hzz := hgr.size
  have hrow : Row w' (fun _ => True) 5 1 v2 m2.length (byts m2) := ⟨hown, fun _ _ => trivial⟩
  refine ⟨h.wr.keep hgr.size fun b hb => hgr.block b (h.wr.lt b hb) fun e => h.dis b hb (h.row.mem b e.symm), ⟨hown, fun k hk => ?_⟩, fun i hi hg => ?_, fun i hi => ?_, fun i hi => ?_, h.bel.grown hgr hz fun k hk => h.new k (.inr (h.row.mem k hk))⟩
  · rcases hbl with e | e
    · exact .inl (h.row.mem k (by rw [← e]; exact hk))
    · rw [e] at hk
      injection hk with hk
      exact .inr ⟨by omega, hrow.lt (by rw [e, hk])⟩
  · rcases hg with hg | hg
    · exact h.dis i hi hg
    · have := h.wr.lt i hi; omega
  · rcases hi with hi | hi | hi
    · exact h.new i (.inl hi)
    · exact h.new i (.inr hi)
    · omega
  · rcases hi with hi | hi
    · have := h.lt i hi; omega
    · exact hi.2
end
end Go.Proofs.Ytajcfpldjomceaa
