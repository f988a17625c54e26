/- Where TreeSame stands: two memories, two boxes of roots, the document's map. -/
import Derived.Test.YtlcchefiicalpaaTtw
namespace Go.Proofs.Ytlcchefiicalpaa
open Go.RowKit
/-- What TreeSame has beside its two memories. -/
structure Sm (B : Nat) (w0 : World) (p q : Nat) (w : World) (X Y : Nat → Prop) (st su : Tr.MSt) (xb yb mb : Nat) (cx cy : Array Value) (D : Option Addr) (n d : Nat) (xs : List Value) : Prop where
  lv : LV B w0 p q w X Y st su fun _ => True
  bx : Blk w xb 66 cx
  bz : Blk w yb 66 cy
  bm : Blk w mb 71 #[.slice D n d]
  sl : SlC w w.heap.size D d n xs
  fx : ¬ (X xb ∨ Y xb)
  fy : ¬ (X yb ∨ Y yb)
  fm : ¬ (X mb ∨ Y mb)
  fd : xs = [] ∨ ∀ a, D = some a → ¬ (X a.block ∨ Y a.block) ∧ a.block ≠ xb ∧ a.block ≠ yb
  nxy : xb ≠ yb
  nmx : mb ≠ xb
  nmy : mb ≠ yb
  gx : B ≤ xb
  gy : B ≤ yb
section
variable {B p q xb yb mb n d : Nat} {w0 w w' : World} {X Y X' Y' : Nat → Prop} {st su st' su' : Tr.MSt} {cx cy cx' cy' : Array Value} {D : Option Addr} {xs : List Value}
theorem Sm.swap (h : Sm B w0 p q w X Y st su xb yb mb cx cy D n d xs) : Sm B w0 q p w Y X su st yb xb mb cy cx D n d xs :=
  ⟨h.lv.swap, h.bz, h.bx, h.bm, h.sl, fun e => h.fy e.symm, fun e => h.fx e.symm, fun e => h.fm e.symm, h.fd.imp id fun g a ha => ⟨fun e => (g a ha).1 e.symm, (g a ha).2.2, (g a ha).2.1⟩, h.nxy.symm, h.nmy, h.nmx, h.gy, h.gx⟩
theorem slc_keep {w w' : World} {D : Option Addr} {n d : Nat} {xs : List Value} (h : SlC w w.heap.size D d n xs) (hs : w.heap.size ≤ w'.heap.size) (hk : xs = [] ∨ ∀ a, D = some a → a.block < w.heap.size → w'.heap[a.block]? = w.heap[a.block]?) : SlC w' w'.heap.size D d n xs := by
  refine ⟨h.le, h.nil, ?_⟩
  rcases h.sl with h0 | ⟨b, o, e, hb, hc⟩
  · exact .inl h0
  · rcases hk with h0 | hk
    · exact .inl h0
    · refine .inr ⟨b, o, e, Nat.lt_of_lt_of_le hb hs, fun i hi => ?_⟩
      rw [← hc i hi]
      exact cell_heap (hk _ e hb)
theorem Sm.stp (h : Sm B w0 p q w X Y st su xb yb mb cx cy D n d xs) (hr : MRep p w' X' st') (hs : Stp w X w' X') : Sm B w0 p q w' X' Y st' su xb yb mb cx cy D n d xs := by
  have far : ∀ b, b < w.heap.size → ¬ (X b ∨ Y b) → ¬ (X' b ∨ Y b) := fun b hb hn e => e.elim (hs.far hb fun hx => hn (.inl hx)) fun hy => hn (.inr hy)
  have kp : ∀ b, b < w.heap.size → ¬ (X b ∨ Y b) → w'.heap[b]? = w.heap[b]? := fun b hb hn => hs.chg.block b hb fun hx => hn (.inl hx)
  refine ⟨h.lv.stp hr hs, h.bx.keep (kp _ h.bx.lt h.fx), h.bz.keep (kp _ h.bz.lt h.fy), h.bm.keep (kp _ h.bm.lt h.fm), slc_keep h.sl hs.chg.size (h.fd.imp id fun g a ha hl => kp _ hl (g a ha).1), far _ h.bx.lt h.fx, far _ h.bz.lt h.fy, far _ h.bm.lt h.fm, ?_, h.nxy, h.nmx, h.nmy, h.gx, h.gy⟩
  rcases h.sl.sl with h0 | ⟨b, o, e, hb, hc⟩
  · exact .inl h0
  · refine h.fd.imp id fun g a ha => ⟨far _ ?_ (g a ha).1, (g a ha).2⟩
    rw [e] at ha
    injection ha with ha
    subst ha
    exact hb
theorem Sm.stp2 (h : Sm B w0 p q w X Y st su xb yb mb cx cy D n d xs) (hra : MRep p w' X' st') (hrb : MRep q w' Y' su') (hd : ∀ b, X' b → ¬ Y' b) (hs : Stp w (fun b => X b ∨ Y b) w' (fun b => X' b ∨ Y' b)) : Sm B w0 p q w' X' Y' st' su' xb yb mb cx cy D n d xs := by
  have far : ∀ b, b < w.heap.size → ¬ (X b ∨ Y b) → ¬ (X' b ∨ Y' b) := fun b hb hn => hs.far hb hn
  have kp : ∀ b, b < w.heap.size → ¬ (X b ∨ Y b) → w'.heap[b]? = w.heap[b]? := fun b hb hn => hs.chg.block b hb hn
  refine ⟨h.lv.stp2 hra hrb hd hs, h.bx.keep (kp _ h.bx.lt h.fx), h.bz.keep (kp _ h.bz.lt h.fy), h.bm.keep (kp _ h.bm.lt h.fm), slc_keep h.sl hs.chg.size (h.fd.imp id fun g a ha hl => kp _ hl (g a ha).1), far _ h.bx.lt h.fx, far _ h.bz.lt h.fy, far _ h.bm.lt h.fm, ?_, h.nxy, h.nmx, h.nmy, h.gx, h.gy⟩
  rcases h.sl.sl with h0 | ⟨b, o, e, hb, hc⟩
  · exact .inl h0
  · refine h.fd.imp id fun g a ha => ⟨far _ ?_ (g a ha).1, (g a ha).2⟩
    rw [e] at ha
    injection ha with ha
    subst ha
    exact hb
theorem Sm.below (h : Sm B w0 p q w X Y st su xb yb mb cx cy D n d xs) (hb : Below w.heap.size w w') : Sm B w0 p q w' X Y st su xb yb mb cx cy D n d xs :=
  h.stp (h.lv.ra.keep (G := fun _ => False) (.of_below _ hb) fun _ _ h => h) (.of_below X hb)
theorem Sm.store (h : Sm B w0 p q w X Y st su xb yb mb cx cy D n d xs) (hc : Chg (fun b => b = xb) w w') (hb : Blk w' xb 66 cx') : Sm B w0 p q w' X Y st su xb yb mb cx' cy D n d xs := by
  have kp : ∀ b, b < w.heap.size → b ≠ xb → w'.heap[b]? = w.heap[b]? := fun b hl hn => hc.block b hl hn
  exact ⟨h.lv.chg hc h.fx h.gx fun _ _ => trivial, hb, h.bz.keep (kp _ h.bz.lt h.nxy.symm), h.bm.keep (kp _ h.bm.lt h.nmx), slc_keep h.sl hc.size (h.fd.imp id fun g a ha hl => kp _ hl (g a ha).2.1), h.fx, h.fy, h.fm, h.fd, h.nxy, h.nmx, h.nmy, h.gx, h.gy⟩
end
end Go.Proofs.Ytlcchefiicalpaa
