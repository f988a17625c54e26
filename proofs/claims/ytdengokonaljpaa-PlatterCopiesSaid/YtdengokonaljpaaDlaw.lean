/- Operations on maps, and on many cells at once, in a region that draws its order: laws for the walk. -/
import Derived.Test.YtdengokonaljpaaDst
namespace Go.Proofs.Ytdengokonaljpaa
open Go.RowKit Go.Maps

section
variable {P : Program} {ops : Array Oper} {o : Oper} {a : Act} {w w' : World} {K : Act → World → Prop} {Q : Exit → Act → World → Prop} {E : Prop}
theorem step_lookup (hg : o.guard = none) (m x : Operand) (t : TypeId) (c : Bool) (hop : o.op = .lookup t m x c) {mv kv v : Value} (hm : a.eval m = mv) (hx : a.eval x = kv) (hrun : (Instr.lookup t mv kv c).run P w = .ok v w)
    (h : K (a.put o.dst v) w) : if Region.wanted o (yielded ops a.tmps) = true then Oper.wp P o a w K Q else E := by
  rw [if_pos (by simp [Region.wanted, hg])]
  unfold Oper.wp
  simp [execOp, hop, hm, hx, hrun, Result.andThen]
  exact h
theorem step_update (hg : o.guard = none) (m x y : Operand) (t : TypeId) (hop : o.op = .mapUpdate t m x y) {mv kv yv : Value} (hm : a.eval m = mv) (hx : a.eval x = kv) (hy : a.eval y = yv) (hrun : (Instr.mapUpdate t mv kv yv).run P w = .ok () w')
    (h : K (a.put o.dst undef) w') : if Region.wanted o (yielded ops a.tmps) = true then Oper.wp P o a w K Q else E := by
  rw [if_pos (by simp [Region.wanted, hg])]
  unfold Oper.wp
  simp [execOp, hop, hm, hx, hy, hrun, Result.andThen]
  exact h
theorem step_delete (hg : o.guard = none) (m x : Operand) (t k : TypeId) (hop : o.op = Op.call { callee := Callee.builtin Builtin.delete, args := #[m, x], argTypes := #[t, k] }) {mv kv : Value} (hm : a.eval m = mv) (hx : a.eval x = kv)
    (hrun : (Builtin.delete_ #[t, k] o.type #[mv, kv]).run P w = .ok (.tuple #[]) w') (h : K (a.put o.dst (.tuple #[])) w') : if Region.wanted o (yielded ops a.tmps) = true then Oper.wp P o a w K Q else E := by
  rw [if_pos (by simp [Region.wanted, hg])]
  unfold Oper.wp
  simp [execOp, hop, resolve, invoke, builtin, hm, hx, hrun, Result.andThen]
  exact h
theorem step_load_mid (hg : o.guard = none) (ty : TypeId) (x : Operand) (ho : o.op = .load ty x) (b i : Nat) (hx : a.eval x = .pointer (some ⟨b, i, none⟩)) (cs : List Value) (d : TypeDesc) (hc : w.rangeAt b i cs)
    (hu : P.underlying ty = some d) (hd : d.isRow = true) (hi : (P.info? ty).map (·.size) = some cs.length) (h : K (a.put o.dst (.agg cs.toArray)) w) : if Region.wanted o (yielded ops a.tmps) = true then Oper.wp P o a w K Q else E := by
  rw [if_pos (by simp [Region.wanted, hg])]
  exact wp_load_mid ty x ho b i hx cs d hc hu hd hi h
theorem step_store_mid (hg : o.guard = none) (ty : TypeId) (x y : Operand) (ho : o.op = .store ty x y) (b i : Nat) (cells : Array Value) (hx : a.eval x = .pointer (some ⟨b, i, none⟩)) (hy : a.eval y = .agg cells)
    (ht : w.there b i cells.size) (hi : (P.info? ty).map (·.size) = some cells.size) (h1 : cells.all (·.oneCell') = true) (h : K (a.put o.dst undef) (w.setCells b i cells.toList)) : if Region.wanted o (yielded ops a.tmps) = true then Oper.wp P o a w K Q else E := by
  rw [if_pos (by simp [Region.wanted, hg])]
  exact wp_store_mid ty x y ho b i cells hx hy ht hi h1 h
end

/-- Is the fault planned? -/
theorem look_planned {w : World} {Pm : Option Nat} {N : Nat} {E : DataW Unit} (h : ∀ b, Pm = some b → w.ownsMap Try.prog 58 unitElem b N E) {a b : Int} (ha : (Lit.int .i64 a).wf = true) (hb : (Lit.int .i64 b).wf = true) :
    (Instr.lookup 70 (.map Pm) (.agg #[.int .i64 a, .int .i64 b]) true).run Try.prog w = .ok (.tuple #[.agg #[], .bool (Pm.isSome && has E (fk a b))]) w := by
  have hz : (zeroValue 85).run Try.prog w = .ok (.agg #[]) w := by kernel_rfl
  cases Pm with
  | none =>
    have := Maps.look_nil true kfault Try.underlying70 hz (key_fault a b ha hb)
    simpa using this
  | some m =>
    obtain ⟨v, ps, hrun, hv⟩ := (h m rfl).look_ok kfault Try.underlying70 hz unitElem_mk (key_fault a b ha hb)
    obtain ⟨rfl, _⟩ := unitElem_inv hv
    simpa using hrun
/-- Where is the last write to a block? -/
theorem look_last {w : World} {bm N : Nat} {D : DataW Unit} (h : w.ownsMap Try.prog 3 (plainElem Try.prog 3) bm N D) {n : Int} (hn : (Lit.int .i64 n).wf = true) :
    ∃ c : Int, (Instr.lookup 69 (.map (some bm)) (.int .i64 n) true).run Try.prog w = .ok (.tuple #[.int .i64 c, .bool (has D (.int .i64 n))]) w ∧ D.atKey (.int .i64 n) (.lit (.int .i64 0)) = .lit (.int .i64 c) := by
  have hz : (zeroValue 3).run Try.prog w = .ok (.int .i64 0) w := by kernel_rfl
  obtain ⟨v, ps, hrun, hv⟩ := h.look_ok kint Try.underlying69 hz (plainElem_int Try.underlying3 (by decide)) (key_int hn)
  obtain ⟨c, rfl, hc, _⟩ := plainElem_int_inv Try.underlying3 hv
  exact ⟨c, hrun, congrArg Prod.fst hc⟩

theorem hit_due (st : PSt) (k : Nat) : (st.count k).hit k = st.due k (st.ops k + 1) := by
  unfold PSt.hit PSt.due
  congr 1
  funext f
  have : ((st.count k).since k : Int) = ((st.ops k + 1 : Nat) : Int) - ((st.ops k : Int) - (st.since k : Int)) := by simp [PSt.count, bump]; omega
  rw [this]
theorem due_count (st : PSt) (k k' j : Nat) : (st.count k).due k' j = st.due k' j := by
  unfold PSt.due
  have : ((st.count k).ops k' : Int) - ((st.count k).since k' : Int) = (st.ops k' : Int) - (st.since k' : Int) := by
    simp only [PSt.count, bump]; split <;> omega
  rw [this]
  rfl
theorem ops_count_le (st : PSt) (k k' : Nat) : st.ops k' ≤ (st.count k).ops k' := by simp only [PSt.count, bump]; split <;> omega
theorem wf_i64 {n : Int} (h1 : -9223372036854775808 ≤ n) (h2 : n ≤ 9223372036854775807) : (Lit.int .i64 n).wf = true := by
  simp [Lit.wf, IntKind.min, IntKind.max, IntKind.bits, IntKind.signed]; omega
theorem Wf.count {st : PSt} (h : st.Wf) (k : Nat) : (st.count k).Wf := ⟨h.b, h.c⟩

section
variable {w w' : World} {F G : Nat → Prop} {g : Nat} {st : PSt} {Bv Cv : Value} {bm : Nat} {Pm : Option Nat} {D E : DataW Unit}
/-- A count is written. -/
theorem DevS.counted (h : DevS w F g st Bv Cv bm Pm D E) {k : Nat} (hk : 1 ≤ k ∧ k ≤ 3) : DevS (w.setCell ⟨g, 4 + k, none⟩ (num (st.ops k + 1))) F g (st.count k) Bv Cv bm Pm D E := by
  have hB := h.B.ne_ h.blk (by decide)
  have hC := h.C.ne_ h.blk (by decide)
  have hm := ownsMap_ne h.M h.blk
  refine ⟨Wf.count h.wf k, fun b hb => by simpa using h.lt b hb, h.fg, ?_, h.B.set_far hB _, h.C.set_far hC _, h.fm, ownsMap_keep h.M (Below.heap_setCell _ _ _ _ hm), h.last, fun b hb => ⟨(h.P b hb).1, (h.P b hb).2.1, ownsMap_keep (h.P b hb).2.2 (Below.heap_setCell _ _ _ _ (ownsMap_ne (h.P b hb).2.2 h.blk))⟩, ?_⟩
  · have := h.blk.set_ (4 + k) (num (st.ops k + 1))
    obtain ⟨h1, h2⟩ := hk
    have hcases : k = 1 ∨ k = 2 ∨ k = 3 := by omega
    rcases hcases with rfl | rfl | rfl <;> exact this
  · intro k' j h1 h2 h3 h4
    rw [due_count]
    exact h.due k' j h1 h2 (Nat.lt_of_le_of_lt (ops_count_le st k k') h3) h4
/-- A planned fault is struck: one that is over. -/
theorem DevS.struck {b : Nat} (h : DevS w F g st Bv Cv bm (some b) D E) {a j : Nat} (ha : a ≤ 3) (hj : j ≤ st.ops a) (hs : st.ops a < 4611686018427387904) (hown : w'.ownsMap Try.prog 58 unitElem b st.plan.length (E.del (fk a j))) (hg : w.grownBy w' (some b)) (hz : w'.heap.size = w.heap.size) :
    DevS w' F g st Bv Cv bm (some b) D (E.del (fk a j)) := by
  obtain ⟨hFb, hnb, hPb⟩ := h.P b rfl
  have far : ∀ i, F i → i ≠ b → w'.heap[i]? = w.heap[i]? := fun i hi hne => hg.block i (h.lt i hi) (fun e => hne (by injection e))
  have hmb : bm ≠ b := hnb.symm
  have hrow : ∀ {e size n : Nat} {v : Value} {xs : List Value}, Row w F e size v n xs → Row w' F e size v n xs := fun hr => hr.keep fun i hi => far i (hr.mem i hi) (fun e => by
    obtain ⟨cur, hc⟩ := hr.blk hi
    exact ownsMap_ne hPb hc e.symm)
  exact ⟨h.wf, fun i hi => by rw [hz]; exact h.lt i hi, h.fg, h.blk.keep (far g h.fg (fun e => ownsMap_ne hPb h.blk e.symm)), hrow h.B, hrow h.C, h.fm, ownsMap_keep h.M (far bm h.fm hmb), h.last, fun i hi => by injection hi with hi; subst hi; exact ⟨hFb, hnb, hown⟩, fun k' j' h1 h2 h3 h4 => by
    rw [← h.due k' j' h1 h2 h3 h4, has_del_other]
    intro e
    obtain ⟨e1, e2⟩ := fk_inj (wf_i64 (by omega) (by omega)) (wf_i64 (by omega) (by omega)) (wf_i64 (by omega) (by omega)) (wf_i64 (by omega) (by omega)) e
    have : k' = a := by omega
    subst this
    omega⟩
end
end Go.Proofs.Ytdengokonaljpaa
