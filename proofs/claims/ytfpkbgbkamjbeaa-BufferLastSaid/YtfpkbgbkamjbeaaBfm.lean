/- Maps from numbers to slices, and sets of numbers: what a block that is a map says at each key. -/
import Derived.Test.YtfpkbgbkamjbeaaLaw
import Derived.Test.YtfpkbgbkamjbeaaChecked
import Derived.Maps.OwnSet
namespace Go.Proofs.Ytfpkbgbkamjbeaa
open Go.RowKit Go.Maps

theorem kint : Keyed Try.prog 3 := int_keyed Try.underlying3
theorem key_int {n : Int} (h : (Lit.int .i64 n).wf = true) : keyOf Try.prog 3 (.int .i64 n) = some (.int .i64 n) := keyOf_int_mk Try.underlying3 h
/-- An element is held as it is. -/
def hv (v : Value) : Option (DataW Value × List MemPlace) := some (.held v, [])
/-- Block m is a map of n entries that says f. -/
def MapI (w : World) (m n : Nat) (f : Int → Option Value) : Prop :=
  ∃ D : DataW Value, w.ownsMap Try.prog 3 hv m n D ∧ size D = n ∧ ∀ x, (Lit.int .i64 x).wf = true → has D (.int .i64 x) = (f x).isSome ∧ ∀ v, f x = some v → ∀ z, D.atKey (.int .i64 x) z = .held v

section
variable {w w' : World} {m n : Nat} {f : Int → Option Value}
theorem own_exact {P : Program} {k : TypeId} {H : Type} {R : Value → Option (DataW H × List MemPlace)} {b N : Nat} {D : DataW H} (h : w.ownsMap P k R b N D) : w.ownsMap P k R b (size D) D := by
  obtain ⟨es, clock, hb, F, _, rfl⟩ := h
  exact ⟨es, clock, hb, F, by simp [size, length_sorted], rfl⟩
theorem MapI.keep (h : MapI w m n f) (hk : w'.heap[m]? = w.heap[m]?) : MapI w' m n f := by
  obtain ⟨D, ⟨es, clock, hb, r⟩, h2⟩ := h
  exact ⟨D, ⟨es, clock, hk.trans hb, r⟩, h2⟩
theorem MapI.lt (h : MapI w m n f) : m < w.heap.size := by
  obtain ⟨D, h1, _⟩ := h
  exact h1.lt
theorem MapI.ne_ (h : MapI w m n f) {g : Nat} {t : TypeId} {cs : Array Value} (hg : Blk w g t cs) : m ≠ g := by
  obtain ⟨D, ⟨es, clock, hb, _⟩, _⟩ := h
  rintro rfl
  unfold Blk at hg
  rw [hb] at hg
  cases hg
theorem MapI.made (w : World) : MapI (w.alloc (.map #[] 0)) w.heap.size 0 (fun _ => none) :=
  ⟨.map [], World.ownsMap_made _ _ _ _, rfl, fun x _ => ⟨rfl, fun v hv => by cases hv⟩⟩
theorem MapI.look (h : MapI w m n f) {x : Int} (hx : (Lit.int .i64 x).wf = true) :
    (Instr.lookup 41 (.map (some m)) (.int .i64 x) true).run Try.prog w = .ok (.tuple #[(f x).getD (.slice none 0 0), .bool (f x).isSome]) w := by
  obtain ⟨D, h1, _, h3⟩ := h
  have hz : (zeroValue 30).run Try.prog w = .ok (.slice none 0 0) w := by kernel_rfl
  obtain ⟨v, ps, hrun, hvv⟩ := h1.look_ok kint Try.underlying41 hz (zd := .held (.slice none 0 0)) (zp := []) rfl (key_int hx)
  obtain ⟨ha, hb⟩ := h3 x hx
  rw [ha] at hrun
  cases hf : f x with
  | none =>
    rw [hf] at ha hrun
    rw [atKey_of_not_has ha] at hvv
    simp only [hv, Option.some.injEq, Prod.mk.injEq, DataW.held.injEq] at hvv
    rw [hrun, hvv.1]
    rfl
  | some u =>
    rw [hf] at hrun
    rw [hb u hf] at hvv
    simp only [hv, Option.some.injEq, Prod.mk.injEq, DataW.held.injEq] at hvv
    rw [hrun, hvv.1]
    rfl
/-- What the map says behind a store. -/
def setI (f : Int → Option Value) (x : Int) (v : Value) : Int → Option Value := fun y => if y = x then some v else f y
theorem lit_ne {x y : Int} (h : y ≠ x) : Lit.int .i64 y ≠ Lit.int .i64 x := fun e => h (by injection e)
theorem MapI.put {t e : TypeId} (ht : Try.prog.underlying t = some (.map 3 e)) (h : MapI w m n f) {x : Int} (hx : (Lit.int .i64 x).wf = true) (v : Value) (hn : n < maxLen) :
    ∃ w', (Instr.mapUpdate t (.map (some m)) (.int .i64 x) v).run Try.prog w = .ok () w' ∧ MapI w' m (if (f x).isSome then n else n + 1) (setI f x v) ∧ w.mapTurned w' m := by
  obtain ⟨D, h1, h2, h3⟩ := h
  obtain ⟨w', hrun, h4, h5⟩ := h1.store kint ht hn (key_int hx) (d := .held v) (ps := []) (show hv v = _ from rfl)
  have hT := h1.tidy kint
  have h6 := own_exact h4
  rw [size_put hT, (h3 x hx).1, h2] at h6
  refine ⟨w', hrun, ⟨_, h6, ?_, ?_⟩, h5⟩
  · rw [size_put hT, (h3 x hx).1, h2]
  · intro y hy
    unfold setI
    by_cases e : y = x
    · subst e
      rw [if_pos rfl]
      exact ⟨has_put_same (k := .int .i64 y) hT.isMap trivial _, fun u hu z => by injection hu with hu; subst hu; exact atKey_put_same (k := .int .i64 y) hT.isMap trivial _ _⟩
    · rw [if_neg e]
      exact ⟨(has_put_other (lit_ne e) _).trans (h3 y hy).1, fun u hu z => (atKey_put_other (lit_ne e) _ _).trans ((h3 y hy).2 u hu z)⟩
theorem MapI.len {t e : TypeId} (ht : Try.prog.underlying t = some (.map 3 e)) (h : MapI w m n f) (ty : TypeId) : (Builtin.len_ #[t] ty #[.map (some m)]).run Try.prog w = .ok (.int .i64 n) w := by
  obtain ⟨D, h1, h2, _⟩ := h
  rw [h1.len ht ty, h2]
theorem MapI.clear {t e : TypeId} (ht : Try.prog.underlying t = some (.map 3 e)) (h : MapI w m n f) (ty : TypeId) : ∃ w', (Builtin.clear_ #[t] ty #[.map (some m)]).run Try.prog w = .ok (.tuple #[]) w' ∧ MapI w' m 0 (fun _ => none) ∧ w.mapTurned w' m ∧ ∃ clock, w'.heap[m]? = some (.map #[] clock) := by
  obtain ⟨D, ⟨es, clock, hb, F, hs, rfl⟩, _⟩ := h
  refine ⟨ChangeMaps.setBlock w m (.map #[] clock), ?_, ?_, ⟨es, clock, #[], clock, hb, rfl⟩, clock, ChangeMaps.heap_setBlock_same hb _⟩
  · simp [Builtin.clear_, run_underlying ht, MapKept.run_getObj_map hb, Result.andThen, MapKept.run_setObj_map _ hb, ChangeMaps.setBlock]
  · exact ⟨.map [], ⟨#[], clock, ChangeMaps.heap_setBlock_same hb _, ⟨by simp, MapKept.stamped_empty _, by simp⟩, Nat.le_refl _, rfl⟩, rfl, fun x _ => ⟨rfl, fun v hv => by cases hv⟩⟩
end
end Go.Proofs.Ytfpkbgbkamjbeaa
