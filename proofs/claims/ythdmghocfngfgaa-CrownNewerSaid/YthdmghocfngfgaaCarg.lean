/- An argument that is a crown of the document's. -/
import Derived.Test.YthdmghocfngfgaaCmay
import Derived.Test.YthdmghocfngfgaaLaw
import Derived.ChangeArms
namespace Go.Proofs.Ythdmghocfngfgaa
open Go.ChangeShapes Go.WideShapes Go.ChangeAt Go.RowKit

section
variable {H : Type} {enc : TypeId × Value → H} {w : World} {base : Nat}
theorem trod_f64 {P : Program} {spare : Nat → Bool} {held : Bool} {fuel : Nat} {t : TypeId} {cs : List Value} {x : DataW H × List MemPlace} (ht : P.underlying t = some (.float .f64)) (h : DataW.trod enc P w base spare held fuel t cs = some x) : ∃ n, cs = [.float .f64 n] ∧ (Lit.float .f64 n).wf = true := by
  cases fuel with
  | zero => simp [DataW.trod] at h
  | succ n =>
    unfold DataW.trod at h
    rw [ht] at h
    split at h <;> simp_all
theorem take_one {L : List Value} {o k : Nat} {x : Value} (hk : k = 1) (h : List.take k (List.drop o L) = [x]) : L[o]? = some x := by
  subst hk
  have := congrArg (fun l : List Value => l[0]?) h
  simpa using this
theorem take_two {L : List Value} {a o k m : Nat} {x : Value} (hk : k = 1) (hm : m = 3) (ho : o < 3) (h : List.take k (List.drop o (List.take m (List.drop a L))) = [x]) : L[a + o]? = some x := by
  subst hk hm
  have := congrArg (fun l : List Value => l[0]?) h
  simpa [ho] using this
theorem crown_arg {r : Reach} {b0 : Nat} {v : Value} {d : DataW H} {p : List MemPlace} (hval : Value.okWide Try.prog w r b0 26 v) (h : DataW.Trod enc Try.prog w base (fun _ => true) true 26 v d p) :
    ∃ c : Cn.C, v = crV c ∧ c.gain < 18446744073709551616 := by
  obtain ⟨cs, rfl, hcs⟩ := okWide_struct Try.underlying26 hval
  obtain ⟨fuel, hf⟩ := h
  have h8 : Try.prog.cellsOf 26 = 8 := by kernel_rfl
  have hk3 : Try.prog.cellsOf 24 = 3 := by kernel_rfl
  have hi1 : Try.prog.cellsOf 3 = 1 := by kernel_rfl
  have hf1 : Try.prog.cellsOf 22 = 1 := by kernel_rfl
  rw [h8] at hcs
  obtain ⟨xs, n, _, _, hlen, hxl, hfd⟩ := DataW.trod_struct Try.underlying26 hf
  have hx6 : xs.length = 6 := hxl
  have t0 := (hfd 0 _ rfl).trans (List.getElem?_eq_getElem (by omega : 0 < xs.length))
  have t1 := (hfd 1 _ rfl).trans (List.getElem?_eq_getElem (by omega : 1 < xs.length))
  have t2 := (hfd 2 _ rfl).trans (List.getElem?_eq_getElem (by omega : 2 < xs.length))
  have t3 := (hfd 3 _ rfl).trans (List.getElem?_eq_getElem (by omega : 3 < xs.length))
  have t4 := (hfd 4 _ rfl).trans (List.getElem?_eq_getElem (by omega : 4 < xs.length))
  have t5 := (hfd 5 _ rfl).trans (List.getElem?_eq_getElem (by omega : 5 < xs.length))
  obtain ⟨z0, e0, _, _⟩ := DataW.trod_int Try.underlying3 t0
  obtain ⟨z1, e1, _, _⟩ := DataW.trod_int Try.underlying3 t1
  obtain ⟨z2, e2, _, _⟩ := DataW.trod_int Try.underlying3 t2
  obtain ⟨z3, e3, w3⟩ := trod_f64 Try.underlying22 t3
  obtain ⟨z5, e5, _, _⟩ := DataW.trod_int Try.underlying3 t5
  obtain ⟨ys, n', _, _, hlen', hyl, hgd⟩ := DataW.trod_struct Try.underlying24 t4
  have hy3 : ys.length = 3 := hyl
  have s0 := (hgd 0 _ rfl).trans (List.getElem?_eq_getElem (by omega : 0 < ys.length))
  have s1 := (hgd 1 _ rfl).trans (List.getElem?_eq_getElem (by omega : 1 < ys.length))
  have s2 := (hgd 2 _ rfl).trans (List.getElem?_eq_getElem (by omega : 2 < ys.length))
  obtain ⟨k0, g0, _, _⟩ := DataW.trod_int Try.underlying3 s0
  obtain ⟨k1, g1, _, _⟩ := DataW.trod_int Try.underlying3 s1
  obtain ⟨k2, g2, _, _⟩ := DataW.trod_int Try.underlying3 s2
  have q0 := take_one hi1 e0
  have q1 := take_one hi1 e1
  have q2 := take_one hi1 e2
  have q3 := take_one hf1 e3
  have q7 := take_one hi1 e5
  have q4 := take_two hi1 hk3 (by decide) g0
  have q5 := take_two hi1 hk3 (by decide) g1
  have q6 := take_two hi1 hk3 (by decide) g2
  refine ⟨⟨z0, z1, z2, z3, k0, k1, k2, z5⟩, ?_, by simpa [Lit.wf] using w3⟩
  have hl : cs.toList = [.int .i64 z0, .int .i64 z1, .int .i64 z2, .float .f64 z3, .int .i64 k0, .int .i64 k1, .int .i64 k2, .int .i64 z5] := by
    have hlen : cs.toList.length = 8 := by rw [Array.length_toList]; exact hcs
    apply List.ext_getElem?
    intro i
    rcases Nat.lt_or_ge i 8 with h | h
    · have hi : i = 0 ∨ i = 1 ∨ i = 2 ∨ i = 3 ∨ i = 4 ∨ i = 5 ∨ i = 6 ∨ i = 7 := by omega
      rcases hi with rfl | rfl | rfl | rfl | rfl | rfl | rfl | rfl
      · exact q0
      · exact q1
      · exact q2
      · exact q3
      · exact q4
      · exact q5
      · exact q6
      · exact q7
    · rw [List.getElem?_eq_none (by omega), List.getElem?_eq_none (by simpa using h)]
  show Value.agg cs = _
  rw [← Array.toArray_toList (xs := cs), hl]
  rfl
end
end Go.Proofs.Ythdmghocfngfgaa
