/- TreeFails: the statement's own function. How an argument that is an array of integers is read, and read again: for any array type of integers, no condition. An argument that is one deed. TreeFails. -/
import Derived.Test.YtlcchefiicalpaaZfeb
import Derived.OpenShut
import Derived.ProofKit
import Derived.DataShut
namespace Go.Proofs.Ytlcchefiicalpaa
open Go.RowKit
set_option maxRecDepth 8000 in
set_option maxHeartbeats 16000000 in
theorem tfails_any {A : Option Addr} {c : Nat} {l : List Tr.Dv} (x : Tr.Dv) (a b : Nat) (w : World) (hD : DvsAt w w.heap.size A l) (hok : ∀ y ∈ l, y.ok w w.heap.size ∧ y.few) (hml : l.length ≤ maxLen) (hx : x.ok w w.heap.size ∧ x.few) (ha : a < 256) (hb : b < 256) : Calls Try.prog 11 #[.slice A l.length c, .agg x.cells, .agg #[.int .u8 a, .int .u8 b]] w fun e w' => e = .returned (.bool true) ∧ Below w.heap.size w w' := by
  have HAw := Lib.hid (fun (u : World) => tawake_any u)
  have hfl := fun (V : World) (hu : Below w.heap.size w V) => fails_any (A := A) (c := c) (l := l) x a b V (by
    rcases hD with h | ⟨b, o, e, hb, hc⟩
    · exact .inl h
    · exact .inr ⟨b, o, e, Nat.lt_of_lt_of_le hb hu.size, fun i hi j v hv => (hu.cell (p := ⟨b, o + i * 3 + j, none⟩) hb).trans (hc i hi j v hv)⟩) (fun y hy => ⟨⟨(((hok y hy).1.p.below hu).more hu.size), (((hok y hy).1.k.below hu).more hu.size)⟩, (hok y hy).2⟩) hml ⟨⟨((hx.1.p.below hu).more hu.size), ((hx.1.k.below hu).more hu.size)⟩, hx.2⟩
  obtain ⟨B, hB⟩ : ∃ B, w.heap.size = B := ⟨_, rfl⟩
  obtain ⟨q, hq⟩ : ∃ q, l.length = q := ⟨_, rfl⟩
  obtain ⟨cut, hcut⟩ : ∃ b, x.d.cut = b := ⟨_, rfl⟩
  obtain ⟨nl, hnl⟩ : ∃ b, x.d.put.length = b := ⟨_, rfl⟩
  obtain ⟨nk, hnk⟩ : ∃ b, x.d.keys.length = b := ⟨_, rfl⟩
  obtain ⟨P0, hP0⟩ : ∃ b, x.P = b := ⟨_, rfl⟩
  obtain ⟨cp, hcp⟩ : ∃ b, x.cp = b := ⟨_, rfl⟩
  obtain ⟨K0, hK0⟩ : ∃ b, x.K = b := ⟨_, rfl⟩
  obtain ⟨ck, hck⟩ : ∃ b, x.ck = b := ⟨_, rfl⟩
  have hcells : x.cells = #[.bool cut, .slice P0 nl cp, .slice K0 nk ck] := by unfold Tr.Dv.cells; rw [hcut, hnl, hnk, hP0, hcp, hK0, hck]
  rw [hcells, hq] at hfl
  rw [hB] at hfl
  rw [hB, hq, hcells]
  have HF := Lib.hid hfl
  clear hfl hD hok hml hx hq hcut hnl hnk hP0 hcp hK0 hck hcells
  go_enter Try.func11, Try.ntmps11
  go_upto_region 1 with fail
  obtain ⟨W1, hW1⟩ : ∃ W, w.alloc (.cells #[.bool cut, .slice P0 nl cp, .slice K0 nk ck] 77) = W := ⟨_, rfl⟩
  try rw [hW1]
  have N1 := Lib.hid (show Below B w W1 ∧ Blk W1 B 77 #[.bool cut, .slice P0 nl cp, .slice K0 nk ck] ∧ W1.heap.size = B + 1 from by rw [← hW1, ← hB]; exact ⟨below_alloc1 w _, Blk.new w _ _, by simp⟩)
  obtain ⟨W2, hW2⟩ : ∃ W, W1.alloc (.cells #[.int .u8 a, .int .u8 b] 96) = W := ⟨_, rfl⟩
  try rw [hW2]
  have N2 := Lib.hid (show Below B w W2 ∧ Blk W2 B 77 #[.bool cut, .slice P0 nl cp, .slice K0 nk ck] ∧ Blk W2 (B + 1) 96 #[.int .u8 a, .int .u8 b] from by
    have hb : Below W1.heap.size W1 W2 := hW2 ▸ below_alloc1 W1 _
    have hn := Blk.new W1 96 #[.int .u8 a, .int .u8 b]
    rw [hW2, N1.out.2.2] at hn
    exact ⟨N1.out.1.trans (hb.mono (by have := N1.out.2.2; omega)), N1.out.2.1.keep (hb.block _ N1.out.2.1.lt), hn⟩)
  have NB := Lib.hid (show B ≤ W2.heap.size from by have := N2.out.2.1.lt; omega)
  have HAw2 := Lib.hid (HAw.out W2)
  clear hW1 hW2 N1
  go_wp2_with (first
    | (go_at_call 30; (with_reducible refine HAw2.out.mono ?_); rintro e w3 ⟨rfl, b3⟩; (have B3 := Lib.hid b3); have D3 := N2.out.2.1.keep (b3.block _ N2.out.2.1.lt); have E3 := N2.out.2.2.keep (b3.block _ N2.out.2.2.lt); have z0 := D3.cell 0; have z1 := D3.cell 1; have z2 := D3.cell 2; have a0 := E3.cell 0; have a1 := E3.cell 1; clear b3 D3 E3)
    | (go_at_call 42; (with_reducible refine (HF.out _ (N2.out.1.trans (B3.out.mono NB.out))).mono ?_); rintro e w4 ⟨rfl, b4⟩; (have B4 := Lib.hid (N2.out.1.trans (B3.out.mono NB.out) |>.trans (b4.mono (Nat.le_trans NB.out B3.out.size)))); clear b4))
  go_ret
  exact ⟨rfl, B4.out⟩
end Go.Proofs.Ytlcchefiicalpaa
namespace Go.Proofs.Ytlcchefiicalpaa
open Go.ChangeShapes Go.WideShapes Go.ChangeAt Go.RowKit
section
variable {H : Type} {enc : TypeId × Value → H} {P : Program} {w : World} {base : Nat} {spare : Nat → Bool} {held : Bool}
def arrV (k : IntKind) (zs : List Int) : Value := .agg (zs.map (Value.int k)).toArray
def arrD (H : Type) (k : IntKind) (zs : List Int) : DataW H := .agg (zs.map fun z => .lit (.int k z))
theorem open_arr_ints {r : Reach} {b0 : Nat} {t e : TypeId} {n : Nat} {k : IntKind} {v : Value} {d : DataW H} {p : List MemPlace} (ht : P.underlying t = some (.array n e)) (he : P.underlying e = some (.int k))
    (hce : P.cellsOf e = 1) (hct : P.cellsOf t = n) (hv : Value.okWide P w r b0 t v) (h : DataW.Trod enc P w base spare held t v d p) :
    ∃ zs : List Int, zs.length = n ∧ v = arrV k zs ∧ d = arrD H k zs ∧ p = [] ∧ ∀ z ∈ zs, (Lit.int k z).wf = true := by
  simp only [Value.okWide, ht] at hv
  obtain ⟨cs, rfl, hsz, -⟩ := hv
  obtain ⟨fuel, hf⟩ := h
  obtain ⟨xs, m, -, hx, -, hxl, hg⟩ := DataW.trod_array ht hf
  have hcl : cs.toList.length = n := by simpa using hsz.trans hct
  have key : ∀ i, i < n → ∃ z, cs.toList[i]? = some (.int k z) ∧ xs[i]? = some (.lit (.int k z), []) ∧ (Lit.int k z).wf = true := by
    intro i hi
    have g := hg i hi
    simp only [hce, Nat.mul_one, Value.cells] at g
    have hxi : xs[i]? = some xs[i] := List.getElem?_eq_getElem (by omega)
    rw [hxi] at g
    obtain ⟨z, h1, h2, h3⟩ := DataW.trod_int he g
    refine ⟨z, ?_, by rw [hxi, h2], h3⟩
    have := congrArg (fun l => l[0]?) h1
    simpa [List.getElem?_take, List.getElem?_drop] using this
  have hzs : ∃ zs : List Int, cs.toList = zs.map (Value.int k) ∧ xs = zs.map (fun z => ((.lit (.int k z) : DataW H), ([] : List MemPlace))) ∧ ∀ z ∈ zs, (Lit.int k z).wf = true := by
    clear hg hx hf hsz
    generalize cs.toList = l at *
    clear cs ht hct
    induction l generalizing xs n with
    | nil =>
      have : xs = [] := List.eq_nil_of_length_eq_zero (by simp at hcl; omega)
      exact ⟨[], rfl, by simp [this], by simp⟩
    | cons c l ih =>
      obtain ⟨z, h1, h2, h3⟩ := key 0 (by simp at hcl; omega)
      cases xs with
      | nil => simp at hcl hxl; omega
      | cons x xs =>
        simp at h1 h2 hcl hxl
        obtain ⟨zs, e1, e2, e3⟩ := ih (n := n - 1) xs (by omega) (by omega) (fun i hi => by simpa using key (i + 1) (by omega))
        refine ⟨z :: zs, by simp [h1, e1], by simp [h2, e2], ?_⟩
        intro y hy
        rcases List.mem_cons.1 hy with rfl | hy
        · exact h3
        · exact e3 y hy
  obtain ⟨zs, e1, e2, e3⟩ := hzs
  refine ⟨zs, by rw [e1] at hcl; simpa using hcl, ?_, ?_, ?_, e3⟩
  · rw [arrV, ← e1]
  · have := congrArg Prod.fst hx; rw [e2] at this; simpa [arrD, Function.comp_def] using this
  · have := congrArg Prod.snd hx; rw [e2] at this; simp only at this; rw [this]; simp [List.flatMap_eq_nil_iff]
end
end Go.Proofs.Ytlcchefiicalpaa
namespace Go.Proofs.Ytlcchefiicalpaa
open Go.ChangeShapes Go.WideShapes Go.ChangeAt Go.RowKit
section
variable {H : Type} {enc : TypeId × Value → H} {w : World} {base : Nat}
theorem take_one1 {L : List Value} {o k : Nat} {v : List Value} (hk : k = 1) (ho : o < L.length) (h : List.take k (List.drop o L) = v) : ∃ x, L[o]? = some x ∧ v = [x] := by
  subst hk
  rw [List.drop_eq_getElem_cons ho, List.take_succ_cons, List.take_zero] at h
  exact ⟨_, List.getElem?_eq_getElem ho, h.symm⟩
set_option maxRecDepth 8000 in
theorem dv_arg {r : Reach} {b0 : Nat} {v : Value} {d : DataW H} {p : List MemPlace} (hval : Value.okWide Try.prog w r b0 77 v) (h : DataW.Trod enc Try.prog w base (fun _ => true) true 77 v d p) (hlt : ∀ x ∈ p, x.block < w.heap.size) (hw : ∀ n ∈ d.weights Try.prog 77, n ≤ reachBytes) :
    ∃ x : Tr.Dv, v = .agg x.cells ∧ x.ok w w.heap.size ∧ x.few := by
  obtain ⟨cs, rfl, hcs⟩ := okWide_struct Try.underlying77 hval
  obtain ⟨fuel, hf⟩ := h
  have h3 : Try.prog.cellsOf 77 = 3 := by kernel_rfl
  rw [h3] at hcs
  obtain ⟨ys, n', _, hy, hlen, hyl, hfd⟩ := DataW.trod_struct Try.underlying77 hf
  rw [h3] at hlen
  have hy3 : ys.length = 3 := hyl
  simp only [Prod.mk.injEq] at hy
  obtain ⟨hy1, hy2⟩ := hy
  have t0 := (hfd 0 _ rfl).trans (List.getElem?_eq_getElem (by omega : 0 < ys.length))
  have t1 := (hfd 1 _ rfl).trans (List.getElem?_eq_getElem (by omega : 1 < ys.length))
  have t2 := (hfd 2 _ rfl).trans (List.getElem?_eq_getElem (by omega : 2 < ys.length))
  have hp : ∀ i (hi : i < ys.length), ∀ z ∈ (ys[i]).2, z.block < w.heap.size := fun i hi z hz => hlt z (by rw [hy2]; exact List.mem_flatMap.2 ⟨_, List.getElem_mem hi, hz⟩)
  have hwt : ∀ (i : Nat) (hi : i < ys.length) (t : TypeId), (#[4, 69, 22].toList)[i]? = some t → ∀ n ∈ (ys[i]).1.weights Try.prog t, n ≤ reachBytes := fun i hi t ht n hn => by
    refine hw n ?_
    rw [hy1]
    simp only [DataW.weights, Try.underlying77]
    exact DataW.weights_mem_each (j := i) (t := t) (d := (ys[i]).1) ht (by rw [List.getElem?_map, List.getElem?_eq_getElem hi]; rfl) n hn
  obtain ⟨z0, hz0, _⟩ := DataW.trod_bool Try.underlying4 t0
  obtain ⟨Q, cq, l, hz1, -, q1⟩ := dents_trod t1 (hp 1 (by omega))
  obtain ⟨K, ck, ks, hz2, k1⟩ := dints_trod t2 (hp 2 (by omega))
  rw [hz1] at t1
  rw [hz2] at t2
  refine ⟨⟨⟨z0, l, ks⟩, Q, cq, K, ck⟩, ?_, ⟨q1, k1⟩, dents_len t1 (hwt 1 (by omega) _ rfl), dints_len t2 (hwt 2 (by omega) _ rfl)⟩
  obtain ⟨v0, e0, g0⟩ := take_one1 (by kernel_rfl) (by rw [hlen]; decide) hz0
  obtain ⟨v1, e1, g1⟩ := take_one1 (by kernel_rfl) (by rw [hlen]; decide) hz1
  obtain ⟨v2, e2, g2⟩ := take_one1 (by kernel_rfl) (by rw [hlen]; decide) hz2
  injection g0 with g0
  injection g1 with g1
  injection g2 with g2
  subst g0
  subst g1
  subst g2
  congr 1
  apply Array.ext'
  apply List.ext_getElem?
  intro i
  have hcl : cs.toList.length = 3 := hlen
  rcases Nat.lt_or_ge i 3 with hi | hi
  · have : i = 0 ∨ i = 1 ∨ i = 2 := by omega
    rcases this with rfl | rfl | rfl
    · exact e0
    · exact e1
    · exact e2
  · rw [List.getElem?_eq_none (by omega), List.getElem?_eq_none (by show 3 ≤ i; omega)]
end
end Go.Proofs.Ytlcchefiicalpaa
