/- A node that is being read: its block and its four rows. bytes.Clone: the same bytes in new memory. The program's number: it reads as the document says. The program's reader: what its methods do. -/
import Derived.Test.YtaainefdjbmekaaSba
import Derived.Test.YtaainefdjbmekaaSbch
import Derived.Test.YtaainefdjbmekaaSbda
import Derived.Lib.LazyBuf
import Derived.Test.YtaainefdjbmekaaChecked
import Derived.WalkKit
import Derived.Lib.Hide
import Derived.LoopTactic
import Derived.Laws.BitsAllLaws
import Derived.Recover
import Derived.Laws.Pointers
namespace Go.Proofs.Ytaainefdjbmekaa
open Go.RowKit
theorem own_blk {X : World} {base : Nat} {e : TypeId} {size n : Nat} {v : Value} {xs : List Value} (h : X.ownsRow base e size v n xs) {g : Nat} (hg : v.ownBlock = some g) : ∃ cs, Blk X g e cs :=
  Row.blk (F := fun _ => True) ⟨own_zero' h, fun _ _ => trivial⟩ hg
theorem own_other {X : World} {base base' : Nat} {e e' : TypeId} {size size' n n' : Nat} {v v' : Value} {xs xs' : List Value} (h : X.ownsRow base e size v n xs) (h' : X.ownsRow base' e' size' v' n' xs') (hne : e ≠ e') : ∀ g, v'.ownBlock = some g → v.ownBlock ≠ some g := fun g hg hv => by
  obtain ⟨cs, hb⟩ := own_blk h' hg
  exact own_ne h hb hne g hv rfl
/-- Block xb, older than H, holds a node's five cells; the rows u1 to u4, not older than H, hold the lists. -/
structure NX (w : World) (xb H : Nat) (T TK : TypeId) (hh : Int) (ks : List Int) (ps : List Nd.T3) (gs : List Int) (cs : List Nd.T3) (v1 v2 v3 v4 u1 u2 u3 u4 : Value) : Prop where
  blk : Blk w xb T #[.int .i64 hh, v1, v2, v3, v4]
  o1 : w.ownsRow H 3 1 u1 ks.length (ivs ks)
  o2 : w.ownsRow H 51 3 u2 ps.length (tcs ps)
  o3 : w.ownsRow H 3 1 u3 gs.length (ivs gs)
  o4 : w.ownsRow H TK 3 u4 cs.length (tcs cs)
  dis : ∀ g, u1.ownBlock = some g → u3.ownBlock ≠ some g
  hx : xb < H
  hz : H ≤ w.heap.size
  t1 : TK ≠ 3
  t2 : TK ≠ 51
section
variable {w w' w6 : World} {xb H : Nat} {T TK : TypeId} {hh : Int} {ks gs : List Int} {ps cs : List Nd.T3} {v1 v2 v3 v4 u1 u2 u3 u4 u v : Value}
theorem NX.keep (h : NX w xb H T TK hh ks ps gs cs v1 v2 v3 v4 u1 u2 u3 u4) (hk : ∀ b, b < w.heap.size → b = xb ∨ H ≤ b → w'.heap[b]? = w.heap[b]?) (hs : w.heap.size ≤ w'.heap.size) : NX w' xb H T TK hh ks ps gs cs v1 v2 v3 v4 u1 u2 u3 u4 :=
  ⟨h.blk.keep (hk xb h.blk.lt (.inl rfl)), own_keep h.o1 fun b hb hlt => hk b hlt (.inr (h.o1.lt b hb).1), own_keep h.o2 fun b hb hlt => hk b hlt (.inr (h.o2.lt b hb).1), own_keep h.o3 fun b hb hlt => hk b hlt (.inr (h.o3.lt b hb).1), own_keep h.o4 fun b hb hlt => hk b hlt (.inr (h.o4.lt b hb).1), h.dis, h.hx, Nat.le_trans h.hz hs, h.t1, h.t2⟩
theorem NX.drew (h : NX w xb H T TK hh ks ps gs cs v1 v2 v3 v4 u1 u2 u3 u4) : NX w.drew xb H T TK hh ks ps gs cs v1 v2 v3 v4 u1 u2 u3 u4 := h.keep (fun _ _ _ => rfl) (Nat.le_refl _)
theorem NX.alloc (h : NX w xb H T TK hh ks ps gs cs v1 v2 v3 v4 u1 u2 u3 u4) (o : Obj) : NX (w.alloc o) xb H T TK hh ks ps gs cs v1 v2 v3 v4 u1 u2 u3 u4 := h.keep (fun b hb _ => Below.heap_alloc w o b hb) (by simp)
theorem NX.below (h : NX w xb H T TK hh ks ps gs cs v1 v2 v3 v4 u1 u2 u3 u4) (hb : Below w.heap.size w w') : NX w' xb H T TK hh ks ps gs cs v1 v2 v3 v4 u1 u2 u3 u4 := h.keep (fun b hlt _ => hb.block b hlt) hb.size
theorem NX.chg {F : Nat → Prop} (h : NX w xb H T TK hh ks ps gs cs v1 v2 v3 v4 u1 u2 u3 u4) (hc : Chg F w w') (hF : ∀ b, F b → b ≠ xb ∧ b < H) : NX w' xb H T TK hh ks ps gs cs v1 v2 v3 v4 u1 u2 u3 u4 := h.keep (fun b hlt hb => hc.block b hlt fun hf => by have := hF b hf; omega) hc.size
/-- A store into other memory. -/
theorem NX.far (h : NX w xb H T TK hh ks ps gs cs v1 v2 v3 v4 u1 u2 u3 u4) {q : Addr} (hq : q.block ≠ xb) (h1 : u1.ownBlock ≠ some q.block) (h2 : u2.ownBlock ≠ some q.block) (h3 : u3.ownBlock ≠ some q.block) (h4 : u4.ownBlock ≠ some q.block) (x : Value) : NX (w.setCell q x) xb H T TK hh ks ps gs cs v1 v2 v3 v4 u1 u2 u3 u4 :=
  ⟨h.blk.far hq x, own_far h.o1 h1 x, own_far h.o2 h2 x, own_far h.o3 h3 x, own_far h.o4 h4 x, h.dis, h.hx, by simpa using h.hz, h.t1, h.t2⟩
/-- A block that is newer than all rows. -/
theorem NX.new_ (h : NX w xb H T TK hh ks ps gs cs v1 v2 v3 v4 u1 u2 u3 u4) : u1.ownBlock ≠ some w.heap.size ∧ u2.ownBlock ≠ some w.heap.size ∧ u3.ownBlock ≠ some w.heap.size ∧ u4.ownBlock ≠ some w.heap.size :=
  ⟨fun e => Nat.lt_irrefl _ (h.o1.lt _ e).2, fun e => Nat.lt_irrefl _ (h.o2.lt _ e).2, fun e => Nat.lt_irrefl _ (h.o3.lt _ e).2, fun e => Nat.lt_irrefl _ (h.o4.lt _ e).2⟩
theorem NX.set0 (h : NX w xb H T TK hh ks ps gs cs v1 v2 v3 v4 u1 u2 u3 u4) (hh' : Int) : NX (w.setCell ⟨xb, 0, none⟩ (.int .i64 hh')) xb H T TK hh' ks ps gs cs v1 v2 v3 v4 u1 u2 u3 u4 :=
  ⟨h.blk.set_ 0 _, own_far h.o1 (fun e => Nat.lt_irrefl xb (Nat.lt_of_lt_of_le h.hx (h.o1.lt xb e).1)) _, own_far h.o2 (fun e => Nat.lt_irrefl xb (Nat.lt_of_lt_of_le h.hx (h.o2.lt xb e).1)) _, own_far h.o3 (fun e => Nat.lt_irrefl xb (Nat.lt_of_lt_of_le h.hx (h.o3.lt xb e).1)) _, own_far h.o4 (fun e => Nat.lt_irrefl xb (Nat.lt_of_lt_of_le h.hx (h.o4.lt xb e).1)) _, h.dis, h.hx, by simpa using h.hz, h.t1, h.t2⟩
theorem NX.set1 (h : NX w xb H T TK hh ks ps gs cs v1 v2 v3 v4 u1 u2 u3 u4) (v : Value) : NX (w.setCell ⟨xb, 1, none⟩ v) xb H T TK hh ks ps gs cs v v2 v3 v4 u1 u2 u3 u4 :=
  ⟨h.blk.set_ 1 _, own_far h.o1 (fun e => Nat.lt_irrefl xb (Nat.lt_of_lt_of_le h.hx (h.o1.lt xb e).1)) _, own_far h.o2 (fun e => Nat.lt_irrefl xb (Nat.lt_of_lt_of_le h.hx (h.o2.lt xb e).1)) _, own_far h.o3 (fun e => Nat.lt_irrefl xb (Nat.lt_of_lt_of_le h.hx (h.o3.lt xb e).1)) _, own_far h.o4 (fun e => Nat.lt_irrefl xb (Nat.lt_of_lt_of_le h.hx (h.o4.lt xb e).1)) _, h.dis, h.hx, by simpa using h.hz, h.t1, h.t2⟩
theorem NX.set2 (h : NX w xb H T TK hh ks ps gs cs v1 v2 v3 v4 u1 u2 u3 u4) (v : Value) : NX (w.setCell ⟨xb, 2, none⟩ v) xb H T TK hh ks ps gs cs v1 v v3 v4 u1 u2 u3 u4 :=
  ⟨h.blk.set_ 2 _, own_far h.o1 (fun e => Nat.lt_irrefl xb (Nat.lt_of_lt_of_le h.hx (h.o1.lt xb e).1)) _, own_far h.o2 (fun e => Nat.lt_irrefl xb (Nat.lt_of_lt_of_le h.hx (h.o2.lt xb e).1)) _, own_far h.o3 (fun e => Nat.lt_irrefl xb (Nat.lt_of_lt_of_le h.hx (h.o3.lt xb e).1)) _, own_far h.o4 (fun e => Nat.lt_irrefl xb (Nat.lt_of_lt_of_le h.hx (h.o4.lt xb e).1)) _, h.dis, h.hx, by simpa using h.hz, h.t1, h.t2⟩
theorem NX.set3 (h : NX w xb H T TK hh ks ps gs cs v1 v2 v3 v4 u1 u2 u3 u4) (v : Value) : NX (w.setCell ⟨xb, 3, none⟩ v) xb H T TK hh ks ps gs cs v1 v2 v v4 u1 u2 u3 u4 :=
  ⟨h.blk.set_ 3 _, own_far h.o1 (fun e => Nat.lt_irrefl xb (Nat.lt_of_lt_of_le h.hx (h.o1.lt xb e).1)) _, own_far h.o2 (fun e => Nat.lt_irrefl xb (Nat.lt_of_lt_of_le h.hx (h.o2.lt xb e).1)) _, own_far h.o3 (fun e => Nat.lt_irrefl xb (Nat.lt_of_lt_of_le h.hx (h.o3.lt xb e).1)) _, own_far h.o4 (fun e => Nat.lt_irrefl xb (Nat.lt_of_lt_of_le h.hx (h.o4.lt xb e).1)) _, h.dis, h.hx, by simpa using h.hz, h.t1, h.t2⟩
theorem NX.set4 (h : NX w xb H T TK hh ks ps gs cs v1 v2 v3 v4 u1 u2 u3 u4) (v : Value) : NX (w.setCell ⟨xb, 4, none⟩ v) xb H T TK hh ks ps gs cs v1 v2 v3 v u1 u2 u3 u4 :=
  ⟨h.blk.set_ 4 _, own_far h.o1 (fun e => Nat.lt_irrefl xb (Nat.lt_of_lt_of_le h.hx (h.o1.lt xb e).1)) _, own_far h.o2 (fun e => Nat.lt_irrefl xb (Nat.lt_of_lt_of_le h.hx (h.o2.lt xb e).1)) _, own_far h.o3 (fun e => Nat.lt_irrefl xb (Nat.lt_of_lt_of_le h.hx (h.o3.lt xb e).1)) _, own_far h.o4 (fun e => Nat.lt_irrefl xb (Nat.lt_of_lt_of_le h.hx (h.o4.lt xb e).1)) _, h.dis, h.hx, by simpa using h.hz, h.t1, h.t2⟩
theorem NX.app1 (h : NX w xb H T TK hh ks ps gs cs v1 v2 v3 v4 u1 u2 u3 u4) (x : Int) {k : Nat} (hk : k = ks.length) (hown : w6.ownsRow H 3 1 u (k + 1) (ivs ks ++ [.int .i64 x])) (hg : w.grownBy w6 u1.ownBlock) (hb : u.ownBlock = u1.ownBlock ∨ u.ownBlock = some w.heap.size) : NX w6 xb H T TK hh (ks ++ [x]) ps gs cs v1 v2 v3 v4 u u2 u3 u4 ∧ Below xb w w6 := by
  subst hk
  have hrow : ∀ g, u1.ownBlock = some g → H ≤ g := fun g e => (h.o1.lt g e).1
  have hxr : u1.ownBlock ≠ some xb := fun e => by have := hrow xb e; have := h.hx; omega
  have hnew := h.new_
  refine ⟨⟨h.blk.grown hg hxr, ?_, own_keep h.o2 fun b hb hlt => hg.block b hlt (fun e => (own_other h.o1 h.o2 (by decide)) b hb e.symm), own_keep h.o3 fun b hb hlt => hg.block b hlt (fun e => (fun g e3 e1 => h.dis g e1 e3) b hb e.symm), own_keep h.o4 fun b hb hlt => hg.block b hlt (fun e => (own_other h.o1 h.o4 (Ne.symm h.t1)) b hb e.symm), ?_, h.hx, Nat.le_trans h.hz hg.size, h.t1, h.t2⟩, ?_⟩
  · rw [List.length_append, ivs_app]; exact hown
  · intro g e1 e3
    rcases hb with e | e
    · rw [e] at e1; exact h.dis g e1 e3
    · rw [e] at e1; injection e1 with e1; rw [← e1] at e3; exact hnew.2.2.1 e3
  · exact (Below.refl _ _).grown hg (Nat.le_of_lt h.blk.lt) (fun g e => by have := hrow g e; have := h.hx; omega)
theorem NX.app2 (h : NX w xb H T TK hh ks ps gs cs v1 v2 v3 v4 u1 u2 u3 u4) (x : Nd.T3) {k : Nat} (hk : k = ps.length) (hown : w6.ownsRow H 51 3 u (k + 1) (tcs ps ++ [.int .i64 x.1, .int .i64 x.2.1, .int .i64 x.2.2])) (hg : w.grownBy w6 u2.ownBlock) (_hb : u.ownBlock = u2.ownBlock ∨ u.ownBlock = some w.heap.size) : NX w6 xb H T TK hh ks (ps ++ [x]) gs cs v1 v2 v3 v4 u1 u u3 u4 ∧ Below xb w w6 := by
  subst hk
  have hrow : ∀ g, u2.ownBlock = some g → H ≤ g := fun g e => (h.o2.lt g e).1
  have hxr : u2.ownBlock ≠ some xb := fun e => by have := hrow xb e; have := h.hx; omega
  have hnew := h.new_
  refine ⟨⟨h.blk.grown hg hxr, own_keep h.o1 fun b hb hlt => hg.block b hlt (fun e => (own_other h.o2 h.o1 (by decide)) b hb e.symm), ?_, own_keep h.o3 fun b hb hlt => hg.block b hlt (fun e => (own_other h.o2 h.o3 (by decide)) b hb e.symm), own_keep h.o4 fun b hb hlt => hg.block b hlt (fun e => (own_other h.o2 h.o4 (Ne.symm h.t2)) b hb e.symm), ?_, h.hx, Nat.le_trans h.hz hg.size, h.t1, h.t2⟩, ?_⟩
  · rw [List.length_append, tcs_app]; exact hown
  · exact h.dis
  · exact (Below.refl _ _).grown hg (Nat.le_of_lt h.blk.lt) (fun g e => by have := hrow g e; have := h.hx; omega)
theorem NX.app3 (h : NX w xb H T TK hh ks ps gs cs v1 v2 v3 v4 u1 u2 u3 u4) (x : Int) {k : Nat} (hk : k = gs.length) (hown : w6.ownsRow H 3 1 u (k + 1) (ivs gs ++ [.int .i64 x])) (hg : w.grownBy w6 u3.ownBlock) (hb : u.ownBlock = u3.ownBlock ∨ u.ownBlock = some w.heap.size) : NX w6 xb H T TK hh ks ps (gs ++ [x]) cs v1 v2 v3 v4 u1 u2 u u4 ∧ Below xb w w6 := by
  subst hk
  have hrow : ∀ g, u3.ownBlock = some g → H ≤ g := fun g e => (h.o3.lt g e).1
  have hxr : u3.ownBlock ≠ some xb := fun e => by have := hrow xb e; have := h.hx; omega
  have hnew := h.new_
  refine ⟨⟨h.blk.grown hg hxr, own_keep h.o1 fun b hb hlt => hg.block b hlt (fun e => (fun g e1 e3 => h.dis g e1 e3) b hb e.symm), own_keep h.o2 fun b hb hlt => hg.block b hlt (fun e => (own_other h.o3 h.o2 (by decide)) b hb e.symm), ?_, own_keep h.o4 fun b hb hlt => hg.block b hlt (fun e => (own_other h.o3 h.o4 (Ne.symm h.t1)) b hb e.symm), ?_, h.hx, Nat.le_trans h.hz hg.size, h.t1, h.t2⟩, ?_⟩
  · rw [List.length_append, ivs_app]; exact hown
  · intro g e1 e3
    rcases hb with e | e
    · rw [e] at e3; exact h.dis g e1 e3
    · rw [e] at e3; injection e3 with e3; rw [← e3] at e1; exact hnew.1 e1
  · exact (Below.refl _ _).grown hg (Nat.le_of_lt h.blk.lt) (fun g e => by have := hrow g e; have := h.hx; omega)
theorem NX.app4 (h : NX w xb H T TK hh ks ps gs cs v1 v2 v3 v4 u1 u2 u3 u4) (x : Nd.T3) {k : Nat} (hk : k = cs.length) (hown : w6.ownsRow H TK 3 u (k + 1) (tcs cs ++ [.int .i64 x.1, .int .i64 x.2.1, .int .i64 x.2.2])) (hg : w.grownBy w6 u4.ownBlock) (_hb : u.ownBlock = u4.ownBlock ∨ u.ownBlock = some w.heap.size) : NX w6 xb H T TK hh ks ps gs (cs ++ [x]) v1 v2 v3 v4 u1 u2 u3 u ∧ Below xb w w6 := by
  subst hk
  have hrow : ∀ g, u4.ownBlock = some g → H ≤ g := fun g e => (h.o4.lt g e).1
  have hxr : u4.ownBlock ≠ some xb := fun e => by have := hrow xb e; have := h.hx; omega
  have hnew := h.new_
  refine ⟨⟨h.blk.grown hg hxr, own_keep h.o1 fun b hb hlt => hg.block b hlt (fun e => (own_other h.o4 h.o1 h.t1) b hb e.symm), own_keep h.o2 fun b hb hlt => hg.block b hlt (fun e => (own_other h.o4 h.o2 h.t2) b hb e.symm), own_keep h.o3 fun b hb hlt => hg.block b hlt (fun e => (own_other h.o4 h.o3 h.t1) b hb e.symm), ?_, ?_, h.hx, Nat.le_trans h.hz hg.size, h.t1, h.t2⟩, ?_⟩
  · rw [List.length_append, tcs_app]; exact hown
  · exact h.dis
  · exact (Below.refl _ _).grown hg (Nat.le_of_lt h.blk.lt) (fun g e => by have := hrow g e; have := h.hx; omega)
end
end Go.Proofs.Ytaainefdjbmekaa
namespace Go.Proofs.Ytaainefdjbmekaa
open Go.RowKit
theorem run_eql_bytes_nil {P : Program} (w : World) (t e : TypeId) (a : Option Addr) (l c : Nat) (h : P.underlying t = some (.slice e)) : (binOp .eql t (.slice a l c) (.slice none 0 0)).run P w = .ok (.bool a.isNone) w := by
  simp only [binOp]
  simp [run_equal_slice_nil w t e a l c h]
/-- New bytes, in memory of the call's own. -/
def NewBytes (w : World) (l : List Nat) (e : Ending) (w' : World) : Prop :=
  ∃ A c, e = .returned (.slice A l.length c) ∧ w'.ownsRow w.heap.size 5 1 (.slice A l.length c) l.length (byts l) ∧ Below w.heap.size w w'
set_option maxHeartbeats 1000000 in
theorem bclone_any (A : Option Addr) (cap : Nat) (l : List Nat) (w : World) {B : Nat} (hsl : Sl w B A (byts l)) (hB : B ≤ w.heap.size) (hcap : l.length ≤ cap) (hA : A = none → cap = 0) (hlen : l.length ≤ 1000000000000) :
    Calls Try.prog 70 #[.slice A l.length cap] w (NewBytes w l) := by
  obtain ⟨i0, hi0, hz0, hs0, hb0⟩ := byte_parts (P := Try.prog) (e := 5) (by kernel_rfl)
  cases A with
  | none =>
    have h0 := hA rfl
    subst h0
    have hl : l = [] := List.eq_nil_of_length_eq_zero (by omega)
    subst hl
    have hq := fun w => run_eql_bytes_nil (P := Try.prog) w 22 5 none 0 0 Try.underlying22
    rw [show (none : Option Addr).isNone = true from rfl] at hq
    go_enter Try.func70, Try.ntmps70
    go_wp2_with fail
    go_ret
    exact ⟨none, 0, rfl, World.ownsRow_nil _ _ _ _, Below.refl _ _⟩
  | some a =>
    have hq := fun w => run_eql_bytes_nil (P := Try.prog) w 22 5 (some a) l.length cap Try.underlying22
    rw [show (some a : Option Addr).isNone = false from rfl] at hq
    have hown := own_empty (e := 5) (size := 1) w
    have hal : Below w.heap.size w (w.alloc (.cells #[] 5)) := (Below.refl _ _).alloc (Nat.le_refl _) _
    have hsl' : Sl (w.alloc (.cells #[] 5)) B (some a) (byts l) := hsl.below (hal.mono hB)
    go_enter Try.func70, Try.ntmps70
    go_wp2_with (at_builtin; refine wpList_append_sl (base := w.heap.size) _ rfl (.tmp 5) (.tmp 6) _ rfl Try.underlying22 hi0 hz0 hs0 hb0 rfl rfl hown rfl (byts_length l).symm hA hsl' (byts_one l) (by rw [byts_length]; exact hcap) (by rw [byts_length]; unfold maxLen; omega) (by rw [byts_length]; omega) hal.size ?_; intro v2 w2 hown2 hgr hbl)
    go_ret
    rw [byts_length, Nat.zero_add, List.nil_append] at hown2
    obtain ⟨A2, c2, rfl⟩ := own_slice hown2
    exact ⟨A2, c2, rfl, hown2, hal.grown hgr hal.size (fun g hg => by injection hg with hg; subst hg; exact Nat.le_refl _)⟩
end Go.Proofs.Ytaainefdjbmekaa
namespace Go.Proofs.Ytaainefdjbmekaa
open Go.RowKit Vint
theorem numF_next {r k x : Nat} {l : List Nat} (h : k < l.length) (hd : 128 ≤ l[k]) : numF (r + 1) k x (l.drop k) = numF r (k + 1) (x + l[k] % 128 * 2 ^ (7 * k)) (l.drop (k + 1)) := by
  rw [List.drop_eq_getElem_cons h, numF, if_pos hd]
theorem numF_last {r k x : Nat} {l : List Nat} (h : k < l.length) (hd : l[k] < 128) (h0 : ¬ (l[k] = 0 ∧ 0 < k)) : numF (r + 1) k x (l.drop k) = (x + l[k] % 128 * 2 ^ (7 * k), k + 1, 0) := by
  rw [List.drop_eq_getElem_cons h, numF, if_neg (by omega), if_neg h0]
theorem numF_nought {r k x : Nat} {l : List Nat} (h : k < l.length) (h0 : l[k] = 0 ∧ 0 < k) : numF (r + 1) k x (l.drop k) = (0, 0, 4) := by
  rw [List.drop_eq_getElem_cons h, numF, if_neg (by omega), if_pos h0]
theorem numF_short {r k x : Nat} {l : List Nat} (h : k = l.length) : numF (r + 1) k x (l.drop k) = (0, 0, 2) := by
  rw [List.drop_eq_nil_of_le (by omega), numF]
theorem andNot_byte {d : Nat} (h : d < 256) : bits BinOp.andNot IntKind.u8 (d : Int) 128 = ((d % 128 : Nat) : Int) := by
  have h' : ∀ z : Nat, z < 256 → bits BinOp.andNot IntKind.u8 (z : Int) 128 = ((z % 128 : Nat) : Int) := by decide +kernel
  exact h' d h
theorem and_byte_hi {d : Nat} (h : d < 256) (h1 : 128 ≤ d) : bits BinOp.and IntKind.u8 (d : Int) 128 = 128 := by
  have h' : ∀ z : Nat, z < 256 → 128 ≤ z → bits BinOp.and IntKind.u8 (z : Int) 128 = 128 := by decide +kernel
  exact h' d h h1
theorem and_byte_lo {d : Nat} (h1 : d < 128) : bits BinOp.and IntKind.u8 (d : Int) 128 = 0 := by
  have h' : ∀ z : Nat, z < 128 → bits BinOp.and IntKind.u8 (z : Int) 128 = 0 := by decide +kernel
  exact h' d h1
/-- A group is joined to those before it. -/
theorem or_group (k x q : Nat) (hk : k < 4) (hx : x < 2 ^ (7 * k)) (hq : q < 128) : bits BinOp.or IntKind.i64 (x : Int) ((q * 2 ^ (7 * k) : Nat) : Int) = ((x + q * 2 ^ (7 * k) : Nat) : Int) := by
  have hp : 2 ^ (7 * k) ≤ 2 ^ 21 := Nat.pow_le_pow_right (by decide) (by omega)
  have h1 : q * 2 ^ (7 * k) ≤ 127 * 2 ^ 21 := Nat.mul_le_mul (by omega) hp
  rw [i64_or_nat _ _ (by omega) (by omega), Nat.mul_comm q, Nat.or_comm, ← Nat.two_pow_add_eq_or_of_lt hx, Nat.add_comm]
theorem or_groupw (k x q : Nat) (hk : k < 4) (hx : x < 2 ^ (7 * k)) (hq : q < 128) : bits BinOp.or IntKind.i64 (x : Int) (wrap64 ((q : Int) * 2 ^ (7 * k))) = ((x + q * 2 ^ (7 * k) : Nat) : Int) := by
  have hp : 2 ^ (7 * k) ≤ 2 ^ 21 := Nat.pow_le_pow_right (by decide) (by omega)
  have h1 : q * 2 ^ (7 * k) ≤ 127 * 2 ^ 21 := Nat.mul_le_mul (by omega) hp
  have e : (q : Int) * 2 ^ (7 * k) = ((q * 2 ^ (7 * k) : Nat) : Int) := by rw [Int.natCast_mul, Int.natCast_pow]; rfl
  rw [← or_group k x q hk hx hq, e]
  congr 1
  unfold wrap64
  omega
def numV (p : Nat × Nat × Nat) : Value := .tuple #[.int .i64 (p.1 : Int), .int .i64 (p.2.1 : Int), .int .i64 (p.2.2 : Int)]
set_option maxRecDepth 4000 in
set_option maxHeartbeats 4000000 in
theorem number_any (A : Option Addr) (cap : Nat) (l : List Nat) (hl : ∀ x ∈ l, x < 256) (w : World) (hsl : Sl w w.heap.size A (byts l)) (hlen : l.length ≤ 1000000000000) :
    Calls Try.prog 91 #[.slice A l.length cap] w fun e w' => e = .returned (numV (num l)) ∧ w' = w := by
  go_enter Try.func91, Try.ntmps91
  go_wp2_with fail
  go_loop [5, 7] (fun v i => ∃ (k x : Nat), k ≤ 4 ∧ k ≤ l.length ∧ i = .int .i64 k ∧ v = .int .i64 x ∧ x < 2 ^ (7 * k) ∧ num l = numF (4 - k) k x (l.drop k)) (fun _ i => 4 - (intOf i).toNat)
  case atStart => exact ⟨0, 0, by omega, by omega, rfl, rfl, by decide, rfl⟩
  case round =>
    obtain ⟨k, x, hk, hkn, rfl, rfl, hx, he⟩ := hrel
    by_cases h4 : k = 4
    · subst h4
      have Hn : Hid (num l = (0, 0, 4)) := Lib.hid he
      clear he
      go_wp2_with fail
      go_ret3
      rw [Hn.out]
      exact ⟨rfl, rfl⟩
    obtain ⟨r, hr⟩ : ∃ r, 4 - k = r + 1 := ⟨3 - k, by omega⟩
    rw [hr] at he
    have q1 : decide ((k : Int) < 4) = true := by simp; omega
    by_cases hkl : k = l.length
    · have Hn : Hid (num l = (0, 0, 2)) := Lib.hid (he.trans (numF_short hkl))
      have q2 : (k == l.length) = true := by simpa using hkl
      clear he hkl
      go_wp2_with fail
      go_ret3
      rw [Hn.out]
      exact ⟨rfl, rfl⟩
    have hlt : k < l.length := by omega
    obtain ⟨b, o, rfl, hB, hc⟩ := hsl.at_ (i := k) (by simpa [byts] using hlt)
    have hcell : w.cell? ⟨b, o + k, none⟩ = some (.int .u8 (l[k] : Int)) := by
      have := hc k (by simpa [byts] using hlt)
      simpa [byts] using this
    have hd := hl l[k] (List.getElem_mem _)
    have hnx := numF_next (r := r) (x := x) hlt
    have hls := numF_last (r := r) (x := x) hlt
    have hno := numF_nought (r := r) (x := x) hlt
    generalize l[k] = d at *
    have a1 := andNot_byte hd
    have hq : d % 128 < 128 := Nat.mod_lt _ (by decide)
    generalize d % 128 = q at *
    have hX : x + q * 2 ^ (7 * k) < 2 ^ (7 * (k + 1)) := by
      rw [show 7 * (k + 1) = 7 * k + 7 by omega, Nat.pow_add]
      have : q * 2 ^ (7 * k) ≤ 127 * 2 ^ (7 * k) := Nat.mul_le_mul_right _ (by omega)
      omega
    have a2 := or_groupw k x q (by omega) hx hq
    generalize x + q * 2 ^ (7 * k) = X at *
    have q2 : (k == l.length) = false := by simpa using hkl
    have Hnx := Lib.hid hnx
    have Hls := Lib.hid hls
    have Hno := Lib.hid hno
    have He := Lib.hid he
    clear hnx hls hno he hc hsl hkl
    by_cases h128 : 128 ≤ d
    · have b1 := and_byte_hi hd h128
      go_wp2_with fail
      refine ⟨⟨k + 1, X, by omega, by omega, by go_num, rfl, hX, ?_⟩, by simp [intOf]; omega⟩
      rw [He.out, Hnx.out h128, show 4 - (k + 1) = r by omega]
    have b1 := and_byte_lo (d := d) (by omega)
    by_cases h0 : d = 0 ∧ 0 < k
    · obtain ⟨h0, h00⟩ := h0
      have Hn : Hid (num l = (0, 0, 4)) := Lib.hid (He.out.trans (Hno.out ⟨h0, h00⟩))
      subst h0
      clear Hno Hls Hnx He
      go_wp2_with fail
      go_ret3
      rw [Hn.out]
      exact ⟨rfl, rfl⟩
    · have Hn : Hid (num l = (X, k + 1, 0)) := Lib.hid (He.out.trans (Hls.out (by omega) h0))
      clear Hno Hls Hnx He
      have e3 : Hid (((k + 1 : Nat) : Int) = (k : Int) + 1) := Lib.hid (by omega)
      by_cases hd0 : d = 0
      · have hk0 : ¬ 0 < k := fun h => h0 ⟨hd0, h⟩
        have z1 : ((d : Int) == 0) = true := by rw [hd0]; rfl
        have z2 : decide (0 < k) = false := by simpa using hk0
        clear hd0 hk0 h0
        go_wp2_with fail
        go_ret3
        rw [Hn.out]
        exact ⟨by unfold numV; rw [e3.out]; rfl, rfl⟩
      · have z1 : ((d : Int) == 0) = false := by simp; omega
        clear hd0 h0
        go_wp2_with fail
        go_ret3
        rw [Hn.out]
        exact ⟨by unfold numV; rw [e3.out]; rfl, rfl⟩
end Go.Proofs.Ytaainefdjbmekaa
namespace Go.Proofs.Ytaainefdjbmekaa
open Go.RowKit Vint
/-- Bytes in a block that is no older than B. -/
def Data (w : World) (B : Nat) (A : Option Addr) (l : List Nat) : Prop :=
  l = [] ∨ ∃ b o cur, A = some ⟨b, o, none⟩ ∧ B ≤ b ∧ Blk w b 5 cur ∧ ∀ i (h : i < l.length), cur[o + i]? = some (.int .u8 (l[i] : Int))
section
variable {w w' : World} {B : Nat} {A : Option Addr} {l : List Nat}
theorem Data.sl (h : Data w B A l) : Sl w w.heap.size A (byts l) := by
  rcases h with rfl | ⟨b, o, cur, e, hB, hblk, hc⟩
  · exact .inl rfl
  · refine .inr ⟨b, o, e, hblk.lt, fun i hi => ?_⟩
    have hi' : i < l.length := by simpa [byts] using hi
    rw [hblk.cell, hc i hi']
    simp [byts]
theorem Data.of_own {c n : Nat} (h : w.ownsRow B 5 1 (.slice A n c) n (byts l)) (hn : n = l.length) : Data w B A l := by
  rcases h.2 with ⟨h', h0⟩ | ⟨g, cap, cur, h', hB, hg, hnc, _, hcs, htake⟩
  · exact .inl (List.eq_nil_of_length_eq_zero (by omega))
  · injection h' with hA _ _
    refine .inr ⟨g, 0, cur, hA, hB, hg, fun i hi => ?_⟩
    have : (cur.toList.take (n * 1))[i]? = some (.int .u8 (l[i] : Int)) := by rw [htake]; simp [byts, List.getElem?_eq_getElem hi]
    rw [List.getElem?_take, if_pos (by omega)] at this
    simpa using this
theorem Data.drop (h : Data w B A l) {c k : Nat} (hc : l.length ≤ c) : Data w B (cutA A c k) (l.drop k) := by
  rcases h with rfl | ⟨b, o, cur, e, hB, hblk, hcell⟩
  · exact .inl (by simp)
  · by_cases hk : l.length ≤ k
    · exact .inl (List.drop_eq_nil_of_le hk)
    · refine .inr ⟨b, o + k, cur, ?_, hB, hblk, fun i hi => ?_⟩
      · unfold cutA
        rw [if_neg (by omega), e]
        simp [Addr.add_lit]
      · have : k + i < l.length := by simp at hi; omega
        have := hcell (k + i) this
        rw [Nat.add_assoc, this]; simp
theorem Data.keep (h : Data w B A l) (hk : ∀ b, b < w.heap.size → (∀ cur, Blk w b 5 cur → w'.heap[b]? = w.heap[b]?)) : Data w' B A l := by
  rcases h with rfl | ⟨b, o, cur, e, hB, hblk, hcell⟩
  · exact .inl rfl
  · exact .inr ⟨b, o, cur, e, hB, hblk.keep (hk b hblk.lt cur hblk), hcell⟩
end
/-- Block R is a reader in front of the bytes l, block L is where it tells how its last call ended; all is no older than B. -/
structure Rd (w : World) (B R L : Nat) (l : List Nat) (e : Int) : Prop where
  bR : B ≤ R
  bL : B ≤ L
  byte : ∀ x ∈ l, x < 256
  len : l.length ≤ 1000000000
  last : Blk w L 34 #[.int .i64 e]
  ex : ∃ A c, Blk w R 151 #[.slice A l.length c, .pointer (some ⟨L, 0, none⟩)] ∧ l.length ≤ c ∧ (A = none → c = 0) ∧ Data w B A l
/-- The blocks that a reader's methods store into. -/
def RL (R L : Nat) : Nat → Prop := fun b => b = R ∨ b = L
section
variable {w w' : World} {B R L : Nat} {l : List Nat} {e : Int}
theorem Rd.keep (h : Rd w B R L l e) {F : Nat → Prop} (hc : Chg F w w') (hF : ∀ b, F b → b < B) : Rd w' B R L l e := by
  obtain ⟨bR, bL, hb, hl, hlast, A, c, hblk, hlc, hA, hd⟩ := h
  refine ⟨bR, bL, hb, hl, hlast.keep (hc.block L hlast.lt fun h => ?_), A, c, hblk.keep (hc.block R hblk.lt fun h => ?_), hlc, hA, ?_⟩
  · have := hF L h; omega
  · have := hF R h; omega
  · rcases hd with rfl | ⟨b, o, cur, e, hB, hbb, hcell⟩
    · exact .inl rfl
    · exact .inr ⟨b, o, cur, e, hB, hbb.keep (hc.block b hbb.lt fun h => by have := hF b h; omega), hcell⟩
theorem Rd.ne_ (h : Rd w B R L l e) : R ≠ L := by
  obtain ⟨_, _, _, _, hlast, A, c, hblk, _⟩ := h
  exact Blk.ne_ hblk hlast (by decide)
/-- The store of how a call ended. -/
theorem Rd.end_ (h : Rd w B R L l e) (e' : Int) : Rd (w.setCell ⟨L, 0, none⟩ (.int .i64 e')) B R L l e' := by
  have hne := h.ne_
  obtain ⟨bR, bL, hb, hl, hlast, A, c, hblk, hlc, hA, hd⟩ := h
  refine ⟨bR, bL, hb, hl, ?_, A, c, hblk.far (by simpa using hne.symm) _, hlc, hA, hd.keep fun b _ cur hb => ?_⟩
  · have := hlast.set_ 0 (.int .i64 e')
    simpa using this
  · exact Below.heap_setCell _ _ _ _ (by simpa using Blk.ne_ hb hlast (by decide))
/-- The store of what is left. -/
theorem Rd.cut (h : Rd w B R L l e) {k c : Nat} {A : Option Addr} (hA : A = none → c = 0) (hc : (l.drop k).length ≤ c) (hd : Data w B A (l.drop k)) : Rd (w.setCell ⟨R, 0, none⟩ (.slice A (l.drop k).length c)) B R L (l.drop k) e := by
  have hne := h.ne_
  obtain ⟨bR, bL, hb, hl, hlast, A0, c0, hblk, _⟩ := h
  refine ⟨bR, bL, fun x hx => hb x (List.mem_of_mem_drop hx), by rw [List.length_drop]; omega, hlast.far (by simpa using hne) _, A, c, ?_, hc, hA, hd.keep fun b _ cur hb => ?_⟩
  · have := hblk.set_ 0 (.slice A (l.drop k).length c)
    simpa using this
  · exact Below.heap_setCell _ _ _ _ (by simpa using Blk.ne_ hb hblk (by decide))
end
set_option maxHeartbeats 400000 in
theorem rend_ok {w : World} {B R L : Nat} {l : List Nat} {e : Int} (h : Rd w B R L l e) :
    Calls Try.prog 92 #[.pointer (some ⟨R, 0, none⟩), .int .i64 0] w fun e' w' => e' = .returned (.tuple #[]) ∧ w' = w.setCell ⟨L, 0, none⟩ (.int .i64 0) := by
  obtain ⟨_, _, _, _, hlast, A, c, hblk, _⟩ := h
  have c1 : w.cell? ⟨R, 1, none⟩ = some (.pointer (some ⟨L, 0, none⟩)) := hblk.cell 1
  have c2 : w.cell? ⟨L, 0, none⟩ = some (.int .i64 e) := hlast.cell 0
  have f2 := hlast.frozen 0
  clear hlast hblk
  go_enter Try.func92, Try.ntmps92
  go_wp2_with fail
  refine bodyPost_end (results_none rfl _ _ _) rfl ?_
  exact ⟨rfl, rfl⟩
set_option maxHeartbeats 400000 in
theorem rend_bad {w : World} {B R L : Nat} {l : List Nat} {e : Int} (h : Rd w B R L l e) (k : Int) (hk : k ≠ 0) :
    Calls Try.prog 92 #[.pointer (some ⟨R, 0, none⟩), .int .i64 k] w fun e' w' => e' = .panicked [{ v := .iface 34 (.int .i64 k), recovered := false }] ∧ w' = w.setCell ⟨L, 0, none⟩ (.int .i64 k) := by
  obtain ⟨_, _, _, _, hlast, A, c, hblk, _⟩ := h
  have c1 : w.cell? ⟨R, 1, none⟩ = some (.pointer (some ⟨L, 0, none⟩)) := hblk.cell 1
  have c2 : w.cell? ⟨L, 0, none⟩ = some (.int .i64 e) := hlast.cell 0
  have f2 := hlast.frozen 0
  have q : (k != 0) = true := by simpa using hk
  clear hlast hblk hk
  go_enter Try.func92, Try.ntmps92
  go_wp2_with fail
  exact ⟨rfl, rfl, rfl⟩
theorem rl_L {w : World} {B R L : Nat} {l : List Nat} {e : Int} (_ : Rd w B R L l e) (v : Value) : Chg (RL R L) w (w.setCell ⟨L, 0, none⟩ v) := (Chg.refl _ w).setCell (.inl (.inr rfl)) v
theorem num_size {l : List Nat} (h0 : (num l).2.2 = 0) : 0 < (num l).2.1 ∧ (num l).2.1 ≤ l.length := by
  have h := numF_size (r := 4) (k := 0) (x := 0) (l := l) h0
  rw [Nat.zero_add] at h
  exact ⟨h.1, h.2.1⟩
set_option maxHeartbeats 1000000 in
theorem rnum_ok {w : World} {B R L : Nat} {l : List Nat} {e : Int} (h : Rd w B R L l e) (h0 : (num l).2.2 = 0) :
    Calls Try.prog 73 #[.pointer (some ⟨R, 0, none⟩)] w fun e' w' => e' = .returned (.int .i64 ((num l).1 : Int)) ∧ Rd w' B R L (l.drop (num l).2.1) 0 ∧ Chg (RL R L) w w' := by
  have hk := (num_size h0).2
  have h1 := h.end_ 0
  have hc1 := rl_L h (.int .i64 0)
  have h' := h
  obtain ⟨_, _, hb, hl, hlast, A, c, hblk, hlc, hA, hd⟩ := h'
  have c0 : w.cell? ⟨R, 0, none⟩ = some (.slice A l.length c) := hblk.cell 0
  have cn := Lib.hid (number_any A c l hb w hd.sl (by omega))
  have ce := Lib.hid (rend_ok h)
  have hblk1 : Blk (w.setCell ⟨L, 0, none⟩ (.int .i64 0)) R 151 #[.slice A l.length c, .pointer (some ⟨L, 0, none⟩)] := hblk.far (by simpa using h.ne_.symm) _
  have d0 : (w.setCell ⟨L, 0, none⟩ (.int .i64 0)).cell? ⟨R, 0, none⟩ = some (.slice A l.length c) := hblk1.cell 0
  have f0 := hblk1.frozen 0
  have hd1 : Data (w.setCell ⟨L, 0, none⟩ (.int .i64 0)) B A l := hd.keep fun b _ cur hb => Below.heap_setCell _ _ _ _ (by simpa using Blk.ne_ hb hlast (by decide))
  obtain ⟨i0, hi0, _, hs0, _⟩ := byte_parts (P := Try.prog) (e := 5) (by kernel_rfl)
  have cut := run_slice_from Try.underlying22 hi0 hs0 A l.length c (num l).2.1 hk
  have H1 := Lib.hid h1
  have Hc := Lib.hid hc1
  have Hd := Lib.hid (hd1.drop (k := (num l).2.1) hlc)
  have HA := Lib.hid (show cutA A c (num l).2.1 = none → c - (num l).2.1 = 0 by
    unfold cutA
    by_cases hck : c = (num l).2.1
    · omega
    · rw [if_neg hck]; intro hh; have := hA (by simpa using hh); omega)
  generalize hW : w.setCell ⟨L, 0, none⟩ (.int .i64 0) = W at *
  clear h h1 hc1 hb hlast hblk hblk1 hd hd1 hW
  generalize hn : num l = p at *
  obtain ⟨x, k, z⟩ := p
  simp only at h0 hk cut Hd HA ⊢
  subst h0
  go_enter Try.func73, Try.ntmps73
  go_wp2_with fail
  refine cn.out.mono ?_
  rintro e' w' ⟨rfl, rfl⟩
  unfold numV
  go_wp2_with fail
  refine ce.out.mono ?_
  rintro e' w' ⟨rfl, rfl⟩
  go_wp2_with fail
  go_ret
  have hcut := H1.out.cut (k := k) HA.out (by rw [List.length_drop]; omega) Hd.out
  rw [List.length_drop] at hcut
  exact ⟨rfl, hcut, Hc.out.setCell (.inl (.inl rfl)) _⟩
set_option maxHeartbeats 1000000 in
theorem rnum_bad {w : World} {B R L : Nat} {l : List Nat} {e : Int} (h : Rd w B R L l e) (h0 : (num l).2.2 ≠ 0) :
    Calls Try.prog 73 #[.pointer (some ⟨R, 0, none⟩)] w fun e' w' => e' = .panicked [{ v := .iface 34 (.int .i64 ((num l).2.2 : Int)), recovered := false }] ∧ Rd w' B R L l ((num l).2.2 : Int) ∧ Chg (RL R L) w w' := by
  have H1 := Lib.hid (h.end_ ((num l).2.2 : Int))
  have Hc := Lib.hid (rl_L h (.int .i64 ((num l).2.2 : Int)))
  have h' := h
  obtain ⟨_, _, hb, hl, hlast, A, c, hblk, hlc, hA, hd⟩ := h'
  have c0 : w.cell? ⟨R, 0, none⟩ = some (.slice A l.length c) := hblk.cell 0
  have cn := Lib.hid (number_any A c l hb w hd.sl (by omega))
  have ce := Lib.hid (rend_bad h ((num l).2.2 : Int) (by omega))
  clear h hb hlast hblk hd
  generalize num l = p at *
  obtain ⟨x, k, z⟩ := p
  simp only at h0 H1 Hc ce ⊢
  go_enter Try.func73, Try.ntmps73
  go_wp2_with fail
  refine cn.out.mono ?_
  rintro e' w' ⟨rfl, rfl⟩
  unfold numV
  go_wp2_with fail
  refine ce.out.mono ?_
  rintro e' w' ⟨rfl, rfl⟩
  go_wp2_with fail
  exact ⟨rfl, rfl, H1.out, Hc.out⟩
set_option maxHeartbeats 400000 in
theorem rleft_any {w : World} {B R L : Nat} {l : List Nat} {e : Int} (h : Rd w B R L l e) :
    Calls Try.prog 90 #[.pointer (some ⟨R, 0, none⟩)] w fun e' w' => e' = .returned (.int .i64 (l.length : Int)) ∧ w' = w := by
  obtain ⟨_, _, _, _, hlast, A, c, hblk, _⟩ := h
  have c0 : w.cell? ⟨R, 0, none⟩ = some (.slice A l.length c) := hblk.cell 0
  clear hlast hblk
  go_enter Try.func90, Try.ntmps90
  go_wp2_with fail
  go_ret
  exact ⟨rfl, rfl⟩
end Go.Proofs.Ytaainefdjbmekaa
