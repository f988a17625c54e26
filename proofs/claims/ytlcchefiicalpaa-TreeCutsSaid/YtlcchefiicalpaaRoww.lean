/- Rows whose elements are several cells: resliced, copied, cleared, appended onto within their room, made longer by zeros; a law for an operation whose run is known. -/
import Derived.Test.YtlcchefiicalpaaLaw
import Derived.Laws.CopyOwn
import Derived.Laws.Externs
import Derived.Lib.AppendZerosOnto
import Derived.Lib.Overlaps
namespace Go.Proofs.Ytlcchefiicalpaa
open Go.RowKit

section
variable {P : Program}
/-- The address behind k elements. -/
def cutW (A : Option Addr) (cap k size : Nat) : Option Addr := if cap = k then A else A.map (·.add (k * size))
theorem run_fromW {t e : TypeId} {i : TypeInfo} {size : Nat} (ht : P.underlying t = some (.slice e)) (hi : P.info? e = some i) (hs : i.size = size) (A : Option Addr) (n cap k : Nat) (hk : k ≤ n) (w : World) :
    (Instr.slice t (.slice A n cap) (some (.int .i64 (k : Int))) none none).run P w = .ok (.slice (cutW A cap k size) (n - k) (cap - k)) w := by
  simp [Instr.slice, Instr.sliceBounds, Instr.sliceBound, run_underlying ht, sizeOf, typeInfo, hi, asIntOf, hs, cutW]
  intro h; omega
theorem run_midW {t e : TypeId} {i : TypeInfo} {size : Nat} (ht : P.underlying t = some (.slice e)) (hi : P.info? e = some i) (hs : i.size = size) (A : Option Addr) (n cap k m : Nat) (hk : k ≤ m) (hm : m ≤ cap) (w : World) :
    (Instr.slice t (.slice A n cap) (some (.int .i64 (k : Int))) (some (.int .i64 (m : Int))) none).run P w = .ok (.slice (cutW A cap k size) (m - k) (cap - k)) w := by
  simp [Instr.slice, Instr.sliceBounds, Instr.sliceBound, run_underlying ht, sizeOf, typeInfo, hi, asIntOf, hs, cutW]
  rw [if_pos hm, if_pos hk]
theorem cutW_at (g cap k size : Nat) (h : cap ≠ k) : cutW (some ⟨g, 0, none⟩) cap k size = some ⟨g, k * size, none⟩ := by
  unfold cutW
  rw [if_neg h]
  simp [Addr.add_lit]
theorem splice_nil {α : Type} (L : List α) (k : Nat) : splice L k [] = L := by simp [splice]
/-- copy onto a row of a block of cells, elements of any size, from any place. -/
theorem run_copyW {w : World} {dT sT e : TypeId} {i : TypeInfo} {size : Nat} (ht : P.underlying dT = some (.slice e)) (hi : P.info? e = some i) (hs : i.size = size)
    {g off : Nat} {cur : List Value} {t : TypeId} (hg : w.heap[g]? = some (.cells cur.toArray t (0, 0))) {dp sp : Option Addr} {dLen dCap sLen sCap m : Nat} (hm : m = Nat.min sLen dLen) {cs : List Value} (hc : cs.length = m * size)
    (hpos : 0 < cs.length → dp = some ⟨g, off, none⟩) {B : Nat} (hsrc : Sl w B sp cs) (hfit : off + cs.length ≤ cur.length) (h1 : ∀ v ∈ cs, v.oneCell' = true) (ty : TypeId) :
    (Builtin.copy_ #[dT, sT] ty #[.slice dp dLen dCap, .slice sp sLen sCap]).run P w = .ok (goInt m) (w.setRow g (splice cur off cs).toArray) := by
  by_cases h0 : cs = []
  · subst h0
    rw [splice_nil, setRow_self w g cur.toArray t (0, 0) hg]
    have hz : Nat.min sLen dLen * size = 0 := by rw [← hm]; exact hc.symm
    have hl : ∀ (x : Addr), (loadCells x 0).run P w = .ok #[] w := fun x => by simpa using run_loadCells_list (P := P) w x [] (by simp)
    cases dp <;> cases sp <;> simp [Builtin.copy_, run_underlying ht, Builtin.lenOf, Builtin.firstCells, sizeOf, typeInfo, hi, hs, hz, storeCells, hl, hm]
  · have hp : 0 < cs.length := List.length_pos_iff.2 h0
    obtain rfl := hpos hp
    rcases hsrc with h | ⟨b, o, rfl, _, hcell⟩
    · exact absurd h h0
    have hl := run_loadCells_list (P := P) w ⟨b, o, none⟩ cs fun j v hj => by
      obtain ⟨hlt, he⟩ := List.getElem?_eq_some_iff.1 hj
      rw [Addr.add_lit, hcell j hlt, he]
    have hst := run_storeCells_at P g off t cs 0 cur.toArray w hg (by simpa using hfit) h1
    have hz : Nat.min sLen dLen * size = cs.length := by rw [← hm]; exact hc.symm
    simp only [Nat.add_zero] at hst
    simp [Builtin.copy_, run_underlying ht, Builtin.lenOf, Builtin.firstCells, sizeOf, typeInfo, hi, hs, hz, hl, hst, hm, splice]
theorem zeros_len (z : Array Value) (n : Nat) : (Builtin.zeroCells z n).toList.length = n * z.size := by rw [Array.length_toList, size_zeroCells]
/-- clear of the end of a row. -/
theorem run_clearW {w : World} {t e : TypeId} {i : TypeInfo} {size : Nat} {z : Value} (ht : P.underlying t = some (.slice e)) (hi : P.info? e = some i) (hz : i.zero = some z) (hzs : z.cells.size = size)
    (h1 : ∀ v ∈ z.cells.toList, v.oneCell' = true) {g off : Nat} {cur : List Value} {tc : TypeId} (hg : w.heap[g]? = some (.cells cur.toArray tc (0, 0))) {dp : Option Addr} {n c : Nat} (hpos : 0 < n → dp = some ⟨g, off, none⟩)
    (hfit : off + n * size ≤ cur.length) (ty : TypeId) :
    (Builtin.clear_ #[t] ty #[.slice dp n c]).run P w = .ok (.tuple #[]) (w.setRow g (splice cur off (Builtin.zeroCells z.cells n).toList).toArray) := by
  by_cases h0 : n = 0
  · subst h0
    have : (Builtin.zeroCells z.cells 0).toList = [] := List.eq_nil_of_length_eq_zero (by rw [zeros_len]; omega)
    rw [this, splice_nil, setRow_self w g cur.toArray tc (0, 0) hg]
    cases dp <;> simp [Builtin.clear_, run_underlying ht]
  · obtain rfl := hpos (by omega)
    have hl := zeros_len z.cells n
    rw [hzs] at hl
    have hmem : ∀ v ∈ (Builtin.zeroCells z.cells n).toList, v.oneCell' = true := by
      intro v hv
      simp only [Builtin.zeroCells, Array.toList_map, List.mem_map] at hv
      obtain ⟨k, hk, rfl⟩ := hv
      have hpos : 0 < z.cells.size := by
        rcases Nat.eq_zero_or_pos z.cells.size with h | h
        · rw [h, Nat.mul_zero] at hk; simp at hk
        · exact h
      have hlt : k % z.cells.size < z.cells.size := Nat.mod_lt _ hpos
      rw [getElem!_pos z.cells _ hlt]
      exact h1 _ (by rw [Array.mem_toList_iff]; exact Array.getElem_mem hlt)
    have hst := run_storeCells_at P g off tc (Builtin.zeroCells z.cells n).toList 0 cur.toArray w hg (by rw [hl]; simpa using hfit) hmem
    simp only [Nat.add_zero] at hst
    obtain ⟨m, rfl⟩ : ∃ m, n = m + 1 := ⟨n - 1, by omega⟩
    simp [Builtin.clear_, run_underlying ht, zeroValue, typeInfo, hi, hz, hst, splice]
/-- append that finds room. -/
theorem run_appendW {w : World} {t e : TypeId} {i : TypeInfo} {size : Nat} (ht : P.underlying t = some (.slice e)) (hi : P.info? e = some i) (hs : i.size = size)
    {g n c : Nat} {cur : List Value} (hg : w.heap[g]? = some (.cells cur.toArray e (0, 0))) {A : Option Addr} {m vc B : Nat} {news : List Value} (hl : news.length = m * size) (hA : A = none → m = 0) (hsrc : Sl w B A news) (h1 : ∀ u ∈ news, u.oneCell' = true)
    (hroom : n + m ≤ c) (hfit : c * size ≤ cur.length) (ty : TypeId) :
    (Builtin.append_ #[t, t] ty #[.slice (some ⟨g, 0, none⟩) n c, .slice A m vc]).run P w = .ok (.slice (some ⟨g, 0, none⟩) (n + m) c) (w.setRow g (splice cur (n * size) news).toArray) := by
  subst hs
  have hle : n * i.size + news.length ≤ cur.length := by rw [hl, ← Nat.add_mul]; exact Nat.le_trans (Nat.mul_le_mul_right _ hroom) hfit
  cases A with
  | none =>
    have hm := hA rfl
    subst hm
    have : news = [] := List.eq_nil_of_length_eq_zero (by omega)
    subst this
    rw [splice_nil, setRow_self w g cur.toArray e (0, 0) hg]
    simp [Builtin.append_, run_underlying ht, sizeOf, typeInfo, hi, Builtin.lenOf, Builtin.firstCells, show n ≤ c by omega, storeCells]
  | some ad =>
    have hcells : ∀ j u, news[j]? = some u → w.cell? (ad.add j) = some u := by
      intro j u hu
      obtain ⟨hj, he⟩ := List.getElem?_eq_some_iff.1 hu
      obtain ⟨b, o, h', _, hcell⟩ := hsrc.at_ hj
      injection h' with h'
      subst h'
      rw [Addr.add_lit, hcell j hj, he]
    have hr := run_append_room (P := P) w t ty e i ht hi g n c cur.toArray hg ad m vc news hl hcells h1 hroom (by simpa using hle)
    rw [hr]
    simp [splice]
theorem splice_len {α : Type} (L : List α) (k : Nat) (cs : List α) (h : k + cs.length ≤ L.length) : (splice L k cs).length = L.length := length_splice L k cs h
/-- Two pieces laid one behind the other, in either order: what the beginning is then. -/
theorem splice_up {α : Type} (L X Y : List α) (p q : Nat) (hq : X.length = q) (h : p + q + Y.length ≤ L.length) : (splice (splice L p X) (p + q) Y).take (p + q + Y.length) = L.take p ++ X ++ Y := by
  subst hq
  have e1 : (splice L p X).take (p + X.length) = L.take p ++ X := by
    unfold splice
    rw [← List.append_assoc, List.take_append_of_le_length (by simp; omega), List.take_of_length_le (by simp; omega)]
  unfold splice at e1 ⊢
  rw [e1, ← List.append_assoc, List.take_append_of_le_length (by simp; omega), List.take_of_length_le (by simp; omega)]
theorem splice_down {α : Type} (L X Y : List α) (p q : Nat) (hq : X.length = q) (h : p + q + Y.length ≤ L.length) : (splice (splice L (p + q) Y) p X).take (p + q + Y.length) = L.take p ++ X ++ Y := by
  subst hq
  have e1 : (splice L (p + X.length) Y).take p = L.take p := by
    unfold splice
    rw [List.take_append_of_le_length (by simp; omega), List.take_take, Nat.min_eq_left (by omega)]
  have e2 : ((splice L (p + X.length) Y).drop (p + X.length)).take Y.length = Y := by
    unfold splice
    rw [List.drop_append_of_le_length (by simp; omega), List.drop_of_length_le (by simp; omega), List.nil_append, List.take_left]
  have e3 : (splice (splice L (p + X.length) Y) p X) = L.take p ++ X ++ (splice L (p + X.length) Y).drop (p + X.length) := by
    show (splice L (p + X.length) Y).take p ++ (X ++ (splice L (p + X.length) Y).drop (p + X.length)) = _
    rw [e1, List.append_assoc]
  rw [e3, List.take_append, show (L.take p ++ X).length = p + X.length by simp; omega, show p + X.length + Y.length - (p + X.length) = Y.length by omega, e2, List.take_of_length_le (by simp; omega)]
theorem splice_take {α : Type} (L X : List α) (p k : Nat) (h : k ≤ p) (hp : p ≤ L.length) : (splice L p X).take k = L.take k := by
  unfold splice
  rw [List.take_append_of_le_length (by simp; omega), List.take_take, Nat.min_eq_left h]
theorem splice_end {α : Type} (L X : List α) (p : Nat) (hp : p ≤ L.length) : (splice L p X).take (p + X.length) = L.take p ++ X := by
  unfold splice
  rw [← List.append_assoc, List.take_append_of_le_length (by simp; omega), List.take_of_length_le (by simp; omega)]

/-- copy, its run known. -/
theorem wp_copy_run (w : World) {o : Oper} {a : Act} {K : Act → World → Prop} {Q : Exit → Act → World → Prop} (d s : Operand) (t t' : TypeId)
    (ho : o.op = .call { callee := .builtin .copy, args := #[d, s], argTypes := #[t, t'] }) {v u : Value} (hd : a.eval d = v) (hs : a.eval s = u) {v' : Value} {w' : World}
    (hr : (Builtin.copy_ #[t, t'] o.type #[v, u]).run P w = .ok v' w') (h : K (a.put o.dst v') w') : o.wp P a w K Q := by
  unfold Oper.wp execOp
  simp only [ho, resolve, invoke, builtin, Sem.run_bind, Sem.run_pure, Result.andThen_ok, List.map_toArray, List.map_cons, List.map_nil, hd, hs, hr]
  exact h
theorem wpList_copy_run (w : World) {ops : Array Oper} {rest : List Oper} {o : Oper} {a : Act} {Q : Exit → Act → World → Prop} (hgd : o.guard = none) (d s : Operand) (t t' : TypeId)
    (ho : o.op = .call { callee := .builtin .copy, args := #[d, s], argTypes := #[t, t'] }) {v u : Value} (hd : a.eval d = v) (hs : a.eval s = u) {v' : Value} {w' : World}
    (hr : (Builtin.copy_ #[t, t'] o.type #[v, u]).run P w = .ok v' w') (h : wpList P ops Q rest (a.put o.dst v') w') : wpList P ops Q (o :: rest) a w :=
  wpList_plain hgd fun _ hK => wp_copy_run w d s t t' ho hd hs hr (hK _ _ h)
theorem step_copy_run {ops : Array Oper} {o : Oper} {a : Act} {w : World} {K : Act → World → Prop} {Q : Exit → Act → World → Prop} {E : Prop} (hgd : o.guard = none) (d s : Operand) (t t' : TypeId)
    (ho : o.op = .call { callee := .builtin .copy, args := #[d, s], argTypes := #[t, t'] }) {v u : Value} (hd : a.eval d = v) (hs : a.eval s = u) {v' : Value} {w' : World}
    (hr : (Builtin.copy_ #[t, t'] o.type #[v, u]).run P w = .ok v' w') (h : K (a.put o.dst v') w') :
    if Region.wanted o (yielded ops a.tmps) = true then Oper.wp P o a w K Q else E := by
  rw [if_pos (by simp [Region.wanted, hgd])]
  exact wp_copy_run w d s t t' ho hd hs hr h
/-- append, its run known. -/
theorem wp_app_run (w : World) {o : Oper} {a : Act} {K : Act → World → Prop} {Q : Exit → Act → World → Prop} (d s : Operand) (t t' : TypeId)
    (ho : o.op = .call { callee := .builtin .append, args := #[d, s], argTypes := #[t, t'] }) {v u : Value} (hd : a.eval d = v) (hs : a.eval s = u) {v' : Value} {w' : World}
    (hr : (Builtin.append_ #[t, t'] o.type #[v, u]).run P w = .ok v' w') (h : K (a.put o.dst v') w') : o.wp P a w K Q := by
  unfold Oper.wp execOp
  simp only [ho, resolve, invoke, builtin, Sem.run_bind, Sem.run_pure, Result.andThen_ok, List.map_toArray, List.map_cons, List.map_nil, hd, hs, hr]
  exact h
theorem wpList_app_run (w : World) {ops : Array Oper} {rest : List Oper} {o : Oper} {a : Act} {Q : Exit → Act → World → Prop} (hgd : o.guard = none) (d s : Operand) (t t' : TypeId)
    (ho : o.op = .call { callee := .builtin .append, args := #[d, s], argTypes := #[t, t'] }) {v u : Value} (hd : a.eval d = v) (hs : a.eval s = u) {v' : Value} {w' : World}
    (hr : (Builtin.append_ #[t, t'] o.type #[v, u]).run P w = .ok v' w') (h : wpList P ops Q rest (a.put o.dst v') w') : wpList P ops Q (o :: rest) a w :=
  wpList_plain hgd fun _ hK => wp_app_run w d s t t' ho hd hs hr (hK _ _ h)
theorem step_app_run {ops : Array Oper} {o : Oper} {a : Act} {w : World} {K : Act → World → Prop} {Q : Exit → Act → World → Prop} {E : Prop} (hgd : o.guard = none) (d s : Operand) (t t' : TypeId)
    (ho : o.op = .call { callee := .builtin .append, args := #[d, s], argTypes := #[t, t'] }) {v u : Value} (hd : a.eval d = v) (hs : a.eval s = u) {v' : Value} {w' : World}
    (hr : (Builtin.append_ #[t, t'] o.type #[v, u]).run P w = .ok v' w') (h : K (a.put o.dst v') w') :
    if Region.wanted o (yielded ops a.tmps) = true then Oper.wp P o a w K Q else E := by
  rw [if_pos (by simp [Region.wanted, hgd])]
  exact wp_app_run w d s t t' ho hd hs hr h
end
end Go.Proofs.Ytlcchefiicalpaa
