/- Map and counts beside foreign blocks; runs of three blocks each. -/
import Derived.Test.YtfiafgmlbejboaaShad
namespace Go.Proofs.Ytfiafgmlbejboaa
open Go.RowKit

/-- A map and counts beside the foreign blocks O. -/
structure FarS (RepB : World → Nat → Nat → (Nat → Prop) → List Bool → List Sh.U → List Sh.U → Prop) (B : Nat) (O : Nat → Prop) (g gs : Nat) (F : List Bool) (now was : List Sh.U) (w0 w : World) : Prop where
  has : ∃ X, RepB w g gs X F now was ∧ ∀ b, X b → ¬ O b
  old : ∀ b, O b → b < w.heap.size
  low : ∀ b, b < B → O b
  st : ShSt F now was
  bel : Below B w0 w
  few : B ≤ w.heap.size
section
variable {Rep : World → Nat → (Nat → Prop) → List Bool → Prop} {RepB : World → Nat → Nat → (Nat → Prop) → List Bool → List Sh.U → List Sh.U → Prop} {w0 w w' : World} {B g gs : Nat} {O O' : Nat → Prop} {F F' : List Bool} {now now' was was' : List Sh.U}
theorem MineS.far (h : MineS RepB B g gs F now was w0 w) : FarS RepB B (fun b => b < B) g gs F now was w0 w := by
  obtain ⟨X, hr, hx⟩ := h.has
  exact ⟨⟨X, hr, fun b hb ho => by have := hx b hb; omega⟩, fun b hb => Nat.lt_of_lt_of_le hb h.few, fun _ h => h, h.st, h.bel, h.few⟩
theorem FarS.mine (h : FarS RepB B O g gs F now was w0 w) : MineS RepB B g gs F now was w0 w := by
  obtain ⟨X, hr, hx⟩ := h.has
  exact ⟨⟨X, hr, fun b hb => Nat.le_of_not_lt fun e => hx b hb (h.low b e)⟩, h.st, h.bel, h.few⟩
theorem FarS.op (h : FarS RepB B O g gs F now was w0 w) (hs : ShSt F' now' was') {f : Nat} {args : Array Value} {Q : Ending → Prop} (P : ∀ X, RepB w g gs X F now was → Calls Try.prog f args w fun e w' => Q e ∧ OpS RepB g gs X F' now' was' w w') :
    Calls Try.prog f args w fun e w' => Q e ∧ FarS RepB B O g gs F' now' was' w0 w' ∧ Chg (fun b => ¬ O b) w w' := by
  obtain ⟨X, hr, hx⟩ := h.has
  refine (P X hr).mono ?_
  rintro e w' ⟨hq, X', h1, h2, h3⟩
  have hc := h3.mono hx
  refine ⟨hq, ⟨⟨X', h1, fun b hb ho => (h2 b hb).elim (fun e => hx b e ho) (fun e => by have := h.old b ho; omega)⟩, fun b hb => Nat.lt_of_lt_of_le (h.old b hb) h3.size, h.low, hs, ?_, Nat.le_trans h.few h3.size⟩, hc⟩
  exact h.bel.trans (hc.below h.few fun b hb => Nat.le_of_not_lt fun e => hb (h.low b e))
/-- Foreign blocks change, and new ones become foreign. -/
theorem FarS.step (hS : ShC Rep RepB) (h : FarS RepB B O g gs F now was w0 w) (hc : Chg O w w') (hO : ∀ b, O' b → (O b ∨ w.heap.size ≤ b) ∧ b < w'.heap.size) (hl : ∀ b, b < B → O' b) (hb : Below B w0 w') : FarS RepB B O' g gs F now was w0 w' := by
  obtain ⟨X, hr, hx⟩ := h.has
  refine ⟨⟨X, hS.keep hr fun b hX => hc.block b (hS.lt hr b hX) (hx b hX), fun b hX ho => ?_⟩, fun b hb => (hO b hb).2, hl, h.st, hb, Nat.le_trans h.few hc.size⟩
  rcases (hO b ho).1 with e | e
  · exact hx b hX e
  · have := hS.lt hr b hX; omega
theorem FarS.below (hS : ShC Rep RepB) (h : FarS RepB B O g gs F now was w0 w) (hb : Below w.heap.size w w') : FarS RepB B O g gs F now was w0 w' :=
  h.step hS (Chg.of_below O hb) (fun b ho => ⟨.inl ho, Nat.lt_of_lt_of_le (h.old b ho) hb.size⟩) h.low (h.bel.trans (hb.mono h.few))
theorem FarS.mapOp (hS : ShC Rep RepB) (h : FarS RepB B O g gs F now was w0 w) (hs : ShSt F' now was) {f : Nat} {args : Array Value} {Q : Ending → Prop} (P : ∀ X, Rep w g X F → Calls Try.prog f args w fun e w' => Q e ∧ OpR Rep g X F' w w') :
    Calls Try.prog f args w fun e w' => Q e ∧ FarS RepB B O g gs F' now was w0 w' ∧ Chg (fun b => ¬ O b) w w' :=
  h.op hs fun _ hr => by
    obtain ⟨Xr, h1, _, h3⟩ := hS.map hr
    exact (P Xr h1).mono fun _ w' ⟨hq, ho⟩ => ⟨hq, h3 w' F' ho⟩
theorem FarS.take (hC : RunsC Rep) (hS : ShC Rep RepB) (h : FarS RepB B O g gs F now was w0 w) (n : Int) (hn : I64 n) (hs : ShSt (Rn.take F n).2.2 now was) :
    Calls Try.prog 15 #[.pointer (some ⟨g, 0, none⟩), .int .i64 n] w fun e w' => e = .returned (.tuple #[.int .i64 ((Rn.take F n).1 : Int), .bool (Rn.take F n).2.1]) ∧ FarS RepB B O g gs (Rn.take F n).2.2 now was w0 w' ∧ Chg (fun b => ¬ O b) w w' :=
  h.mapOp hS hs fun _ hr => hC.take hr n hn
theorem FarS.free (hC : RunsC Rep) (hS : ShC Rep RepB) (h : FarS RepB B O g gs F now was w0 w) :
    Calls Try.prog 23 #[.pointer (some ⟨g, 0, none⟩)] w fun e w' => e = .returned (.int .i64 (Rn.freeN F : Int)) ∧ FarS RepB B O g gs F now was w0 w' ∧ Below w.heap.size w w' := by
  obtain ⟨X, hr, hx⟩ := h.has
  obtain ⟨Xr, h1, _, _⟩ := hS.map hr
  exact (hC.free h1).mono fun _ _ ⟨e, hb⟩ => ⟨e, h.below hS hb, hb⟩
theorem FarS.rlist (hC : RunsC Rep) (hS : ShC Rep RepB) (h : FarS RepB B O g gs F now was w0 w) :
    Calls Try.prog 24 #[.pointer (some ⟨g, 0, none⟩)] w fun e w' => ∃ v, e = .returned v ∧ OwnR w' w.heap.size v (Rn.list F) ∧ FarS RepB B O g gs F now was w0 w' ∧ Below w.heap.size w w' := by
  obtain ⟨X, hr, hx⟩ := h.has
  obtain ⟨Xr, h1, _, _⟩ := hS.map hr
  exact (hC.list h1).mono fun _ _ ⟨v, e, ho, hb⟩ => ⟨v, e, ho, h.below hS hb, hb⟩
theorem FarS.add (hS : ShC Rep RepB) (h : FarS RepB B O g gs F now was w0 w) (a n : Int) (ha : I64 a) (hn : I64 n) (hs : ShSt F (Sh.add now a n).2 was) :
    Calls Try.prog 29 #[.pointer (some ⟨gs, 0, none⟩), .agg #[.int .i64 a, .int .i64 n]] w fun e w' => e = .returned (.bool (Sh.add now a n).1) ∧ FarS RepB B O g gs F (Sh.add now a n).2 was w0 w' ∧ Chg (fun b => ¬ O b) w w' :=
  h.op hs fun _ hr => hS.add hr h.st a n ha hn hs.few
theorem FarS.more (hS : ShC Rep RepB) (h : FarS RepB B O g gs F now was w0 w) (a : Int) (ha : I64 a) (hf : UOk (Sh.change now a true).2) :
    Calls Try.prog 31 #[.pointer (some ⟨gs, 0, none⟩), .int .i64 a] w fun e w' => e = .returned (.bool (Sh.change now a true).1) ∧ FarS RepB B O g gs F (Sh.change now a true).2 was w0 w' ∧ Chg (fun b => ¬ O b) w w' :=
  h.op ⟨h.st.ok.change a true, hf, h.st.few2⟩ fun _ hr => hS.more hr h.st a ha hf
theorem FarS.less (hS : ShC Rep RepB) (h : FarS RepB B O g gs F now was w0 w) (a : Int) (ha : I64 a) (hf : UOk (Sh.change now a false).2) :
    Calls Try.prog 33 #[.pointer (some ⟨gs, 0, none⟩), .int .i64 a] w fun e w' => e = .returned (.bool (Sh.change now a false).1) ∧ FarS RepB B O g gs F (Sh.change now a false).2 was w0 w' ∧ Chg (fun b => ¬ O b) w w' :=
  h.op ⟨h.st.ok.change a false, hf, h.st.few2⟩ fun _ hr => hS.less hr h.st a ha hf
theorem FarS.uses (hS : ShC Rep RepB) (h : FarS RepB B O g gs F now was w0 w) (a : Int) (ha : I64 a) :
    Calls Try.prog 42 #[.pointer (some ⟨gs, 0, none⟩), .int .i64 a] w fun e w' => e = .returned (.int .i64 (Sh.uses now a : Int)) ∧ FarS RepB B O g gs F now was w0 w' ∧ Below w.heap.size w w' := by
  obtain ⟨X, hr, _⟩ := h.has
  exact (hS.uses hr h.st a ha).mono fun _ _ ⟨e, hb⟩ => ⟨e, h.below hS hb, hb⟩
theorem FarS.late (hS : ShC Rep RepB) (h : FarS RepB B O g gs F now was w0 w) :
    Calls Try.prog 44 #[.pointer (some ⟨gs, 0, none⟩)] w fun e w' => ∃ v, e = .returned v ∧ OwnR w' w.heap.size v (Sh.lst true now) ∧ FarS RepB B O g gs F now was w0 w' ∧ Below w.heap.size w w' := by
  obtain ⟨X, hr, _⟩ := h.has
  exact (hS.late hr h.st).mono fun _ _ ⟨v, e, ho, hb⟩ => ⟨v, e, ho, h.below hS hb, hb⟩
theorem FarS.list (hS : ShC Rep RepB) (h : FarS RepB B O g gs F now was w0 w) :
    Calls Try.prog 41 #[.pointer (some ⟨gs, 0, none⟩)] w fun e w' => ∃ v, e = .returned v ∧ OwnR w' w.heap.size v (Sh.lst false now) ∧ FarS RepB B O g gs F now was w0 w' ∧ Below w.heap.size w w' := by
  obtain ⟨X, hr, _⟩ := h.has
  exact (hS.list hr h.st).mono fun _ _ ⟨v, e, ho, hb⟩ => ⟨v, e, ho, h.below hS hb, hb⟩
theorem FarS.settle (hS : ShC Rep RepB) (h : FarS RepB B O g gs F now was w0 w) :
    Calls Try.prog 35 #[.pointer (some ⟨gs, 0, none⟩)] w fun e w' => e = .returned (.int .i64 (Sh.blocks (Sh.lates now) : Int)) ∧ FarS RepB B O g gs (Sh.giveAll F (Sh.lates now)) (Sh.used now) (Sh.used now) w0 w' ∧ Chg (fun b => ¬ O b) w w' :=
  h.op ⟨h.st.ok.settle, h.st.few.sub List.filter_sublist, h.st.few.sub List.filter_sublist⟩ fun _ hr => hS.settle hr h.st
theorem FarS.back (hS : ShC Rep RepB) (h : FarS RepB B O g gs F now was w0 w) :
    Calls Try.prog 37 #[.pointer (some ⟨gs, 0, none⟩)] w fun e w' => e = .returned (.tuple #[]) ∧ FarS RepB B O g gs (Sh.giveAll F (Sh.news now was)) was was w0 w' ∧ Chg (fun b => ¬ O b) w w' :=
  h.op ⟨h.st.ok.back, h.st.few2, h.st.few2⟩ fun _ hr => hS.back hr h.st
end

namespace Sh
theorem free_giveAll : ∀ {l : List U} {F : List Bool}, Held F l → Rn.freeN (giveAll F l) = Rn.freeN F + blocks l
  | [], F, _ => rfl
  | u :: l, F, h => by
    obtain ⟨h1, h2, h3⟩ := h.1 u (List.mem_cons_self ..)
    obtain ⟨p1, p2⟩ := List.pairwise_cons.1 h.2
    have hg := give_run h1 h2 h3
    have hat := fun j => Rn.setN_at F u.1 true j u.2.1 h2
    have hl := Rn.setN_len F u.1 true u.2.1
    have hstep : giveAll F (u :: l) = giveAll (Rn.setN F u.1 true u.2.1) l := by
      unfold giveAll
      rw [List.foldl_cons, hg]
    have hf := Rn.freeN_setN (F := F) (a := u.1) (b := true) u.2.1 h2 (fun k hk => by rw [h3 _ (by omega) (by omega)]; rfl)
    rw [if_pos rfl] at hf
    rw [hstep, free_giveAll (l := l) (F := Rn.setN F u.1 true u.2.1) ⟨fun v hv => by
      obtain ⟨k1, k2, k3⟩ := h.1 v (List.mem_cons_of_mem _ hv)
      have := p1 v hv
      exact ⟨k1, by omega, fun j j1 j2 => by rw [hat, if_neg (by omega)]; exact k3 j j1 j2⟩, p2⟩, hf]
    unfold blocks
    rw [List.map_cons, List.sum_cons]
    omega
theorem lates_used (l : List U) : lates (used l) = [] := by
  unfold lates used
  rw [List.filter_filter]
  refine List.filter_eq_nil_iff.2 fun u _ => ?_
  cases isLate u <;> simp
/-- Runs of three blocks, used so often. -/
def thr : Nat → List Nat → List U
  | _, [] => []
  | i, m :: ms => (3 * i, 3, m) :: thr (i + 1) ms
theorem thr_len : ∀ (i : Nat) (ms : List Nat), (thr i ms).length = ms.length
  | _, [] => rfl
  | i, m :: ms => by rw [thr, List.length_cons, thr_len (i + 1) ms, List.length_cons]
theorem thr_at : ∀ (i : Nat) (ms : List Nat) (k : Nat), k < ms.length → at_ (thr i ms) k = (3 * (i + k), 3, ms.getD k 0)
  | i, m :: ms, 0, _ => rfl
  | i, m :: ms, k + 1, h => by
    have := thr_at (i + 1) ms k (by simpa using h)
    rw [show i + (k + 1) = i + 1 + k by omega, List.getD_cons_succ, ← this]
    rfl
theorem thr_snoc : ∀ (i : Nat) (ms : List Nat) (m : Nat), thr i (ms ++ [m]) = thr i ms ++ [(3 * (i + ms.length), 3, m)]
  | i, [], m => rfl
  | i, x :: ms, m => by
    rw [List.cons_append, thr, thr_snoc (i + 1) ms m, List.length_cons, show i + (ms.length + 1) = i + 1 + ms.length by omega]
    rfl
theorem thr_set : ∀ (i : Nat) (ms : List Nat) (k m : Nat), k < ms.length → (thr i ms).set k (3 * (i + k), 3, m) = thr i (ms.set k m)
  | i, x :: ms, 0, m, _ => rfl
  | i, x :: ms, k + 1, m, h => by
    have := thr_set (i + 1) ms k m (by simpa using h)
    rw [thr, List.set_cons_succ, List.set_cons_succ, thr, show i + (k + 1) = i + 1 + k by omega, this]
theorem thr_ins (ms : List Nat) : ins (thr 0 ms) (3 * ms.length) 3 = thr 0 (ms ++ [1]) := by
  have hb : below (thr 0 ms) (3 * ms.length) = ms.length := below_here (by rw [thr_len]; exact Nat.le_refl _) (fun j hj => by rw [thr_at _ _ _ hj]; show 3 * (0 + j) < _; omega) (fun h => by rw [thr_len] at h; omega)
  unfold ins
  rw [hb, List.take_of_length_le (by rw [thr_len]; exact Nat.le_refl _), List.drop_eq_nil_of_le (by rw [thr_len]; exact Nat.le_refl _), List.append_nil, thr_snoc, Nat.zero_add]
theorem thr_idx {ms : List Nat} {k : Nat} (hk : k < ms.length) : idx (thr 0 ms) (((3 * k : Nat) : Nat) : Int) = some k :=
  idx_here (by rw [thr_len]; exact hk) (by rw [thr_at _ _ _ hk]; show ((3 * (0 + k) : Nat) : Int) = _; omega) (fun j hj => by rw [thr_at _ _ _ (by omega)]; show ((3 * (0 + j) : Nat) : Int) ≠ _; omega)
theorem thr_change {ms : List Nat} {k : Nat} (hk : k < ms.length) (more : Bool) : change (thr 0 ms) ((3 * k : Nat) : Int) more = if ms.getD k 0 = 0 then (false, thr 0 ms) else (true, thr 0 (ms.set k (if more = true then ms.getD k 0 + 1 else ms.getD k 0 - 1))) := by
  unfold change
  rw [thr_idx hk]
  simp only
  rw [thr_at _ _ _ hk]
  dsimp only
  split
  · rfl
  · unfold setU
    rw [thr_at _ _ _ hk]
    dsimp only
    rw [thr_set _ _ _ _ hk]
theorem thr_uses {ms : List Nat} {k : Nat} (hk : k < ms.length) : uses (thr 0 ms) ((3 * k : Nat) : Int) = ms.getD k 0 := by
  unfold uses
  rw [thr_idx hk]
  simp only
  rw [thr_at _ _ _ hk]
theorem thr_again {ms : List Nat} {k : Nat} (hk : k < ms.length) (n : Int) : add (thr 0 ms) ((3 * k : Nat) : Int) n = (false, thr 0 ms) := by
  unfold Sh.add
  rw [if_pos (.inr (.inr (by unfold idxV; rw [thr_idx hk]; show (0 : Int) ≤ (k : Int); omega)))]
/-- How many are zero. -/
def zeros (ms : List Nat) : Nat := ms.countP (· == 0)
theorem thr_lates : ∀ (i : Nat) (ms : List Nat), (lates (thr i ms)).length = zeros ms ∧ blocks (lates (thr i ms)) = 3 * zeros ms ∧ (used (thr i ms)).length + zeros ms = ms.length
  | _, [] => ⟨rfl, rfl, rfl⟩
  | i, m :: ms => by
    obtain ⟨h1, h2, h3⟩ := thr_lates (i + 1) ms
    have hz : zeros (m :: ms) = zeros ms + if m = 0 then 1 else 0 := by
      unfold zeros
      rw [List.countP_cons]
      simp
    unfold lates used blocks at *
    rw [thr, List.filter_cons, List.filter_cons]
    by_cases hm : m = 0
    · have e : isLate (3 * i, 3, m) = true := by unfold isLate; simp [hm]
      rw [if_pos hm] at hz
      rw [if_pos e, if_neg (by rw [e]; decide), List.length_cons, List.map_cons, List.sum_cons, List.length_cons, hz]
      dsimp only
      omega
    · have e : isLate (3 * i, 3, m) = false := by unfold isLate; simp [hm]
      rw [if_neg hm] at hz
      rw [if_neg (by rw [e]; decide), if_pos (by rw [e]; rfl), List.length_cons, List.length_cons, hz]
      omega
theorem lst_len (l : List U) : (lst true l).length = (lates l).length ∧ (lst false l).length = (used l).length := by
  unfold lst lates used
  rw [List.length_map, List.length_map]
  refine ⟨?_, ?_⟩
  · congr 1
    refine List.filter_congr fun u _ => ?_
    cases isLate u <;> rfl
  · congr 1
    refine List.filter_congr fun u _ => ?_
    cases isLate u <;> rfl
end Sh
end Go.Proofs.Ytfiafgmlbejboaa
