/- TreeWrong: the statement's own function. How an argument that is an array of integers is read, and read again: for any array type of integers, no condition. -/
import Derived.Test.YtlcchefiicalpaaZwdi
import Derived.OpenShut
import Derived.ProofKit
import Derived.DataShut
namespace Go.Proofs.Ytlcchefiicalpaa
open Go.RowKit
set_option maxRecDepth 8000 in
set_option maxHeartbeats 16000000 in
theorem twrong_any {A Ak : Option Addr} {c ck : Nat} {l : List Nd.N} {ks : List Int} (n0 n1 n2 n3 : Int) (w : World) (hD : NdsAt w w.heap.size A l) (hk : SlC w w.heap.size Ak ck ks.length (ivs ks)) (hkr : Tr.KR (n0, n1, n2)) (hht : -9223372036854775808 ≤ n3 ∧ n3 ≤ 9223372036854775807) : Calls Try.prog 12 #[.slice A l.length c, .agg #[.int .i64 n0, .int .i64 n1, .int .i64 n2, .int .i64 n3], .slice Ak ks.length ck] w fun e w' => e = .returned (.bool true) ∧ Below w.heap.size w w' := by
  have HAw := Lib.hid (fun (u : World) => tawake_any u)
  have hfl := fun (V : World) (hu : Below w.heap.size w V) => wrong_any (A := A) (c := c) (l := l) (ks := ks) (Ak := Ak) (ck := ck) (n0, n1, n2) n3 V ((hD.below hu).more hu.size) ((hk.below hu).more hu.size) hkr hht
  dsimp only at hfl
  obtain ⟨B, hB⟩ : ∃ B, w.heap.size = B := ⟨_, rfl⟩
  obtain ⟨q, hq⟩ : ∃ q, l.length = q := ⟨_, rfl⟩
  obtain ⟨r, hr⟩ : ∃ q, ks.length = q := ⟨_, rfl⟩
  rw [hB, hq, hr] at hfl
  rw [hB, hq, hr]
  have HF := Lib.hid hfl
  clear hfl hD hk hkr hht hq hr
  go_enter Try.func12, Try.ntmps12
  go_upto_region 1 with fail
  obtain ⟨W2, hW2⟩ : ∃ W, w.alloc (.cells #[.int .i64 n0, .int .i64 n1, .int .i64 n2, .int .i64 n3] 100) = W := ⟨_, rfl⟩
  rw [hW2]
  have N2 := Lib.hid (show Below B w W2 ∧ Blk W2 B 100 #[.int .i64 n0, .int .i64 n1, .int .i64 n2, .int .i64 n3] from by rw [← hW2, ← hB]; exact ⟨below_alloc1 w _, Blk.new w _ _⟩)
  have NB := Lib.hid (show B ≤ W2.heap.size from by have := N2.out.2.lt; omega)
  have HAw2 := Lib.hid (HAw.out W2)
  clear hW2
  go_wp2_with (first
    | (go_at_call 30; (with_reducible refine HAw2.out.mono ?_); rintro e w3 ⟨rfl, b3⟩; (have B3 := Lib.hid b3); have E3 := N2.out.2.keep (b3.block _ N2.out.2.lt); have a0 := E3.cell 0; have a1 := E3.cell 1; have a2 := E3.cell 2; have a3 := E3.cell 3; clear b3 E3)
    | (go_at_call 43; (with_reducible refine (HF.out _ (N2.out.1.trans (B3.out.mono NB.out))).mono ?_); rintro e w4 ⟨rfl, b4⟩; (have B4 := Lib.hid ((N2.out.1.trans (B3.out.mono NB.out)).trans (b4.mono (Nat.le_trans NB.out B3.out.size)))); clear b4))
  go_ret
  exact ⟨rfl, B4.out⟩
end Go.Proofs.Ytlcchefiicalpaa
namespace Go.Proofs.Ytlcchefiicalpaa
open Go.ChangeShapes Go.WideShapes Go.ChangeAt Go.RowKit
section
variable {H : Type} {enc : TypeId × Value → H} {P : Program} {w : World} {base : Nat} {spare : Nat → Bool} {held : Bool}
def arrV (k : IntKind) (zs : List Int) : Value := .agg (zs.map (Value.int k)).toArray
def arrD (H : Type) (k : IntKind) (zs : List Int) : DataW H := .agg (zs.map fun z => .lit (.int k z))
theorem open_arr_ints {r : Reach} {b0 : Nat} {t e : TypeId} {n : Nat} {k : IntKind} {v : Value} {d : DataW H} {p : List MemPlace} (ht : P.underlying t = some (.array n e)) (he : P.underlying e = some (.int k))
    (hce : P.cellsOf e = 1) (hct : P.cellsOf t = n) (hv : Value.okWide P w r b0 t v) (h : DataW.Trod enc P w base spare held t v d p) :
    ∃ zs : List Int, zs.length = n ∧ v = arrV k zs ∧ d = arrD H k zs ∧ p = [] ∧ ∀ z ∈ zs, (Lit.int k z).wf = true := by
  simp only [Value.okWide, ht] at hv
  obtain ⟨cs, rfl, hsz, -⟩ := hv
  obtain ⟨fuel, hf⟩ := h
  obtain ⟨xs, m, -, hx, -, hxl, hg⟩ := DataW.trod_array ht hf
  have hcl : cs.toList.length = n := by simpa using hsz.trans hct
  have key : ∀ i, i < n → ∃ z, cs.toList[i]? = some (.int k z) ∧ xs[i]? = some (.lit (.int k z), []) ∧ (Lit.int k z).wf = true := by
    intro i hi
    have g := hg i hi
    simp only [hce, Nat.mul_one, Value.cells] at g
    have hxi : xs[i]? = some xs[i] := List.getElem?_eq_getElem (by omega)
    rw [hxi] at g
    obtain ⟨z, h1, h2, h3⟩ := DataW.trod_int he g
    refine ⟨z, ?_, by rw [hxi, h2], h3⟩
    have := congrArg (fun l => l[0]?) h1
    simpa [List.getElem?_take, List.getElem?_drop] using this
  have hzs : ∃ zs : List Int, cs.toList = zs.map (Value.int k) ∧ xs = zs.map (fun z => ((.lit (.int k z) : DataW H), ([] : List MemPlace))) ∧ ∀ z ∈ zs, (Lit.int k z).wf = true := by
    clear hg hx hf hsz
    generalize cs.toList = l at *
    clear cs ht hct
    induction l generalizing xs n with
    | nil =>
      have : xs = [] := List.eq_nil_of_length_eq_zero (by simp at hcl; omega)
      exact ⟨[], rfl, by simp [this], by simp⟩
    | cons c l ih =>
      obtain ⟨z, h1, h2, h3⟩ := key 0 (by simp at hcl; omega)
      cases xs with
      | nil => simp at hcl hxl; omega
      | cons x xs =>
        simp at h1 h2 hcl hxl
        obtain ⟨zs, e1, e2, e3⟩ := ih (n := n - 1) xs (by omega) (by omega) (fun i hi => by simpa using key (i + 1) (by omega))
        refine ⟨z :: zs, by simp [h1, e1], by simp [h2, e2], ?_⟩
        intro y hy
        rcases List.mem_cons.1 hy with rfl | hy
        · exact h3
        · exact e3 y hy
  obtain ⟨zs, e1, e2, e3⟩ := hzs
  refine ⟨zs, by rw [e1] at hcl; simpa using hcl, ?_, ?_, ?_, e3⟩
  · rw [arrV, ← e1]
  · have := congrArg Prod.fst hx; rw [e2] at this; simpa [arrD, Function.comp_def] using this
  · have := congrArg Prod.snd hx; rw [e2] at this; simp only at this; rw [this]; simp [List.flatMap_eq_nil_iff]
end
end Go.Proofs.Ytlcchefiicalpaa
