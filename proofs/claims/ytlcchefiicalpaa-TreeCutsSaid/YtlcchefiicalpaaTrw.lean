/- The document's map: Get. -/
import Derived.Test.YtlcchefiicalpaaTrnJ
import Derived.Test.YtlcchefiicalpaaNdr
namespace Go.Proofs.Ytlcchefiicalpaa
open Go.RowKit

/-- An entry as a value. -/
abbrev evv (k a n s g : Int) : Value := .agg #[.int .i64 k, .int .i64 a, .int .i64 n, .int .i64 s, .int .i64 g]
def ev (e : Tr.E) : Value := evv e.k e.p.1 e.p.2.1 e.p.2.2 e.g
theorem SlC.ev {w : World} {B : Nat} {A : Option Addr} {c n : Nat} {l : List Tr.E} (h : SlC w B A c n (evs l)) {i : Nat} (hi : i < l.length) : ∃ b o, A = some ⟨b, o, none⟩ ∧ b < B ∧ w.cell? ⟨b, o + i * 5, none⟩ = some (.int .i64 (l.getD i Tr.z).k) ∧ w.cell? ⟨b, o + i * 5 + 1, none⟩ = some (.int .i64 (l.getD i Tr.z).p.1) ∧ w.cell? ⟨b, o + i * 5 + 2, none⟩ = some (.int .i64 (l.getD i Tr.z).p.2.1) ∧ w.cell? ⟨b, o + i * 5 + 3, none⟩ = some (.int .i64 (l.getD i Tr.z).p.2.2) ∧ w.cell? ⟨b, o + i * 5 + 4, none⟩ = some (.int .i64 (l.getD i Tr.z).g) := by
  have hl := evs_len l
  obtain ⟨b, o, e, hb, hc⟩ := h.sl.at_ (show i * 5 < (evs l).length by omega)
  obtain ⟨e1, e2, e3, e4, e5⟩ := evs_at hi
  refine ⟨b, o, e, hb, ?_, ?_, ?_, ?_, ?_⟩
  · rw [hc (i * 5) (by omega), ← List.getElem?_eq_getElem, e1]
  · rw [Nat.add_assoc, hc (i * 5 + 1) (by omega), ← List.getElem?_eq_getElem, e2]
  · rw [Nat.add_assoc, hc (i * 5 + 2) (by omega), ← List.getElem?_eq_getElem, e3]
  · rw [Nat.add_assoc, hc (i * 5 + 3) (by omega), ← List.getElem?_eq_getElem, e4]
  · rw [Nat.add_assoc, hc (i * 5 + 4) (by omega), ← List.getElem?_eq_getElem, e5]
namespace Tr
theorem get_here : ∀ {m : List E} {k : Int} {i : Nat}, i < m.length → (∀ j, j < i → (m.getD j z).k ≠ k) → (m.getD i z).k = k → get m k = some (m.getD i z)
  | [], _, _, h, _, _ => by cases h
  | x :: l, k, 0, _, _, h => by
    have : x.k = k := h
    simp [get, this]
  | x :: l, k, i + 1, hi, h, hk => by
    have h0 : x.k ≠ k := h 0 (by omega)
    have hl : i < l.length := by simpa using hi
    have ih := get_here (m := l) (k := k) (i := i) hl (fun j hj => h (j + 1) (by omega)) hk
    unfold get at ih ⊢
    rw [List.find?_cons_of_neg (by simpa using h0)]
    exact ih
theorem get_gone {m : List E} {k : Int} (h : ∀ j, j < m.length → (m.getD j z).k ≠ k) : get m k = none := get_none fun e he => by
  obtain ⟨j, hj, rfl⟩ := List.mem_iff_getElem.1 he
  have := h j hj
  rw [List.getD_eq_getElem?_getD, List.getElem?_eq_getElem hj] at this
  exact this
end Tr
theorem ev_st5 {W X : World} {H xb : Nat} {t : TypeId} {z0 z1 z2 z3 z4 : Value} (h : Blk X xb t #[z0, z1, z2, z3, z4]) (hH : H ≤ xb) (hb : Below H W X) (v0 v1 v2 v3 v4 : Value) :
    ∃ s1 s2 s3 s4 s5, X.setCell ⟨xb, 0, none⟩ v0 = s1 ∧ s1.setCell ⟨xb, 1, none⟩ v1 = s2 ∧ s2.setCell ⟨xb, 2, none⟩ v2 = s3 ∧ s3.setCell ⟨xb, 3, none⟩ v3 = s4 ∧ s4.setCell ⟨xb, 4, none⟩ v4 = s5 ∧
      (X.frozen? ⟨xb, 0, none⟩ = false ∧ s1.frozen? ⟨xb, 1, none⟩ = false ∧ s2.frozen? ⟨xb, 2, none⟩ = false ∧ s3.frozen? ⟨xb, 3, none⟩ = false ∧ s4.frozen? ⟨xb, 4, none⟩ = false) ∧
      (X.cell? ⟨xb, 0, none⟩ = some z0 ∧ s1.cell? ⟨xb, 1, none⟩ = some z1 ∧ s2.cell? ⟨xb, 2, none⟩ = some z2 ∧ s3.cell? ⟨xb, 3, none⟩ = some z3 ∧ s4.cell? ⟨xb, 4, none⟩ = some z4) ∧
      Blk s5 xb t #[v0, v1, v2, v3, v4] ∧ Below H W s5 ∧ ∀ b, b ≠ xb → s5.heap[b]? = X.heap[b]? := by
  refine ⟨_, _, _, _, _, rfl, rfl, rfl, rfl, rfl, ?_⟩
  have r1 : Blk (X.setCell ⟨xb, 0, none⟩ v0) xb t #[v0, z1, z2, z3, z4] := h.set_ 0 _
  have r2 : Blk ((X.setCell ⟨xb, 0, none⟩ v0).setCell ⟨xb, 1, none⟩ v1) xb t #[v0, v1, z2, z3, z4] := r1.set_ 1 _
  have r3 : Blk (((X.setCell ⟨xb, 0, none⟩ v0).setCell ⟨xb, 1, none⟩ v1).setCell ⟨xb, 2, none⟩ v2) xb t #[v0, v1, v2, z3, z4] := r2.set_ 2 _
  have r4 : Blk ((((X.setCell ⟨xb, 0, none⟩ v0).setCell ⟨xb, 1, none⟩ v1).setCell ⟨xb, 2, none⟩ v2).setCell ⟨xb, 3, none⟩ v3) xb t #[v0, v1, v2, v3, z4] := r3.set_ 3 _
  have r5 : Blk (((((X.setCell ⟨xb, 0, none⟩ v0).setCell ⟨xb, 1, none⟩ v1).setCell ⟨xb, 2, none⟩ v2).setCell ⟨xb, 3, none⟩ v3).setCell ⟨xb, 4, none⟩ v4) xb t #[v0, v1, v2, v3, v4] := r4.set_ 4 _
  refine ⟨⟨h.frozen 0, r1.frozen 1, r2.frozen 2, r3.frozen 3, r4.frozen 4⟩, ⟨h.cell 0, r1.cell 1, r2.cell 2, r3.cell 3, r4.cell 4⟩, r5, ?_, fun b hne => ?_⟩
  · exact ((((hb.setCell (p := ⟨xb, 0, none⟩) hH _).setCell (p := ⟨xb, 1, none⟩) hH _).setCell (p := ⟨xb, 2, none⟩) hH _).setCell (p := ⟨xb, 3, none⟩) hH _).setCell (p := ⟨xb, 4, none⟩) hH _
  · rw [Below.heap_setCell _ _ _ _ hne, Below.heap_setCell _ _ _ _ hne, Below.heap_setCell _ _ _ _ hne, Below.heap_setCell _ _ _ _ hne, Below.heap_setCell _ _ _ _ hne]
set_option maxRecDepth 8000 in
set_option maxHeartbeats 8000000 in
theorem mget_any {w : World} {A : Option Addr} {c : Nat} {m : List Tr.E} (h : SlC w w.heap.size A c m.length (evs m)) (key : Int) (hl : m.length ≤ 100000) : Calls Try.prog 38 #[.agg #[.slice A m.length c], .int .i64 key] w fun e w' => e = .returned (.tuple #[ev ((Tr.get m key).getD Tr.z), .bool (Tr.get m key).isSome]) ∧ Below w.heap.size w w' := by
  obtain ⟨W0, hW0⟩ : ∃ W, w.alloc (.cells #[.slice A m.length c] 71) = W := ⟨_, rfl⟩
  obtain ⟨W, hW⟩ : ∃ W, W0.alloc (.cells #[.int .i64 0, .int .i64 0, .int .i64 0, .int .i64 0, .int .i64 0] 87) = W := ⟨_, rfl⟩
  have bx : Blk W0 w.heap.size 71 #[.slice A m.length c] := by rw [← hW0]; exact Blk.new _ _ _
  have hb1 : Below w.heap.size w W0 := by rw [← hW0]; exact (Below.refl _ _).alloc (Nat.le_refl _) _
  obtain ⟨rb, hrb⟩ : ∃ b, W0.heap.size = b := ⟨_, rfl⟩
  have by_ : Blk W rb 87 #[.int .i64 0, .int .i64 0, .int .i64 0, .int .i64 0, .int .i64 0] := by rw [← hW, ← hrb]; exact Blk.new _ _ _
  have hb2 : Below W0.heap.size W0 W := by rw [← hW]; exact (Below.refl _ _).alloc (Nat.le_refl _) _
  have bx := bx.keep (w' := W) (hb2.block _ bx.lt)
  have hle : w.heap.size ≤ rb := by rw [← hrb]; exact hb1.size
  have hB := hb1.trans (hb2.mono hb1.size)
  have HF := Lib.hid (h.below hB)
  obtain ⟨b, hb⟩ : ∃ b, w.heap.size = b := ⟨_, rfl⟩
  rw [hb] at bx HF hle hB ⊢
  have HB := Lib.hid hB
  have BY := Lib.hid by_
  have HL := Lib.hid hle
  obtain ⟨q, hq⟩ : ∃ q, q = m.length := ⟨_, rfl⟩
  have Hq := Lib.hid hq
  rw [← hq] at HF bx hl hW0 ⊢
  have x0 : W.cell? ⟨b, 0, none⟩ = some (.slice A q c) := bx.cell 0
  obtain ⟨R, hR⟩ : ∃ R, R = Tr.get m key := ⟨_, rfl⟩
  have HR := Lib.hid hR
  rw [← hR]
  clear bx by_ hb1 hb2 hB hle h hq hR
  go_enter Try.func38, Try.ntmps38
  go_wp2_with fail
  go_loopw [6] (fun v6 wr => ∃ i : Nat, v6 = .int .i64 (i : Int) ∧ i ≤ q ∧ (∀ j, j < i → (m.getD j Tr.z).k ≠ key) ∧ wr = W) (fun v6 _ => q - (intOf v6).toNat)
  case atStart => exact ⟨0, rfl, Nat.zero_le _, fun j hj => absurd hj (by omega), rfl⟩
  case round =>
    obtain ⟨i, rfl, hi, hno, rfl⟩ := hrel
    have Hno := Lib.hid hno
    clear hno
    by_cases hiq : i < q
    · have z0 : decide ((i : Int) < (q : Int)) = true := by rw [decide_eq_true_eq]; omega
      have z0' : decide (i < q) = true := by rw [decide_eq_true_eq]; exact hiq
      have hqi : (i : Int) < (q : Int) := by omega
      obtain ⟨g, o, rfl, -, c0, c1, c2, c3, c4⟩ := HF.out.ev (i := i) (by rw [← Hq.out]; exact hiq)
      have Hh := Lib.hid (fun hk => Tr.get_here (m := m) (k := key) (i := i) (by rw [← Hq.out]; exact hiq) Hno.out hk)
      obtain ⟨e, he⟩ : ∃ e, e = m.getD i Tr.z := ⟨_, rfl⟩
      have He := Lib.hid he
      rw [← he] at c0 c1 c2 c3 c4 Hh
      clear he
      obtain ⟨ek, ⟨e1, e2, e3⟩, eg⟩ := e
      dsimp only at c0 c1 c2 c3 c4
      by_cases hk : ek = key
      · have Fin := Lib.hid (show R = some ⟨ek, (e1, e2, e3), eg⟩ from HR.out.trans (Hh.out hk))
        have z1 : ((ek : Int) == key) = true := by rw [beq_iff_eq]; exact hk
        obtain ⟨s1, s2, s3, s4, s5, q1, q2, q3, q4, q5, ⟨f0, f1, f2, f3, f4⟩, ⟨u0, u1, u2, u3, u4⟩, B5, b5, -⟩ := ev_st5 BY.out HL.out HB.out (.int .i64 ek) (.int .i64 e1) (.int .i64 e2) (.int .i64 e3) (.int .i64 eg)
        have b5 := Lib.hid b5
        have y0 : s5.cell? ⟨rb, 0, none⟩ = some (.int .i64 ek) := B5.cell 0
        have y1 : s5.cell? ⟨rb, 1, none⟩ = some (.int .i64 e1) := B5.cell 1
        have y2 : s5.cell? ⟨rb, 2, none⟩ = some (.int .i64 e2) := B5.cell 2
        have y3 : s5.cell? ⟨rb, 3, none⟩ = some (.int .i64 e3) := B5.cell 3
        have y4 : s5.cell? ⟨rb, 4, none⟩ = some (.int .i64 eg) := B5.cell 4
        clear B5 hk
        go_wp2_with fail
        refine bodyPost_ret (v := .tuple #[evv ek e1 e2 e3 eg, .bool true]) ?_ rfl ⟨by rw [Fin.out]; rfl, b5.out⟩
        simp [results, Try.results38]
        go_simp
      · have z1 : ((ek : Int) == key) = false := by rw [beq_eq_false_iff_ne]; exact hk
        have Hn := Lib.hid hk
        clear hk
        go_wp2_with fail
        go_roundw
        case rel =>
          refine ⟨i + 1, by go_num, by omega, fun j hj => ?_, by trivial⟩
          rcases Nat.lt_or_ge j i with hji | hji
          · exact Hno.out j hji
          · obtain rfl : j = i := by omega
            rw [← He.out]; exact Hn.out
        case measure => simp [intOf]; omega
    · have hiq' : i = q := by omega
      have Fin := Lib.hid (show R = none from HR.out.trans (Tr.get_gone fun j hj => Hno.out j (by rw [hiq', Hq.out]; exact hj)))
      have z0 : decide ((i : Int) < (q : Int)) = false := by rw [decide_eq_false_iff_not]; omega
      have z0' : decide (i < q) = false := by rw [decide_eq_false_iff_not]; exact hiq
      clear hiq hiq'
      obtain ⟨s1, s2, s3, s4, s5, q1, q2, q3, q4, q5, ⟨f0, f1, f2, f3, f4⟩, ⟨u0, u1, u2, u3, u4⟩, B5, b5, -⟩ := ev_st5 BY.out HL.out HB.out (.int .i64 0) (.int .i64 0) (.int .i64 0) (.int .i64 0) (.int .i64 0)
      have b5 := Lib.hid b5
      have y0 : s5.cell? ⟨rb, 0, none⟩ = some (.int .i64 0) := B5.cell 0
      have y1 : s5.cell? ⟨rb, 1, none⟩ = some (.int .i64 0) := B5.cell 1
      have y2 : s5.cell? ⟨rb, 2, none⟩ = some (.int .i64 0) := B5.cell 2
      have y3 : s5.cell? ⟨rb, 3, none⟩ = some (.int .i64 0) := B5.cell 3
      have y4 : s5.cell? ⟨rb, 4, none⟩ = some (.int .i64 0) := B5.cell 4
      clear B5
      go_wp2_with fail
      refine bodyPost_ret (v := .tuple #[evv 0 0 0 0 0, .bool false]) ?_ rfl ⟨by rw [Fin.out]; rfl, b5.out⟩
      simp [results, Try.results38]
      go_simp
end Go.Proofs.Ytlcchefiicalpaa
