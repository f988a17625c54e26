/- The statements' right: does a tree stand right? -/
import Derived.Test.YtlcchefiicalpaaZwde
namespace Go.Proofs.Ytlcchefiicalpaa
open Go.RowKit
theorem cell_al {w : World} {o : Obj} {b i : Nat} {v : Value} (h : w.cell? ⟨b, i, none⟩ = some v) (hb : b < w.heap.size) : (w.alloc o).cell? ⟨b, i, none⟩ = some v := (cell_heap (Below.heap_alloc w o b hb)).trans h
namespace Tr
def RightP (L : List Nd.N) (a h f t : Int) : Prop := 0 ≤ h ∧ h < 6 ∧ Good L h.toNat a f t
theorem RightP.in_ {L : List Nd.N} {a h f t : Int} (hr : RightP L a h f t) : In L a ∧ Nd.Ok (nd L a) ∧ (nd L a).h = h := ⟨hr.2.2.in_, hr.2.2.ok, by have := hr.2.2.height; have := hr.1; omega⟩
theorem right_iff {L : List Nd.N} {a h f t : Int} (hi : In L a) (ho : Nd.Ok (nd L a)) (hh : (nd L a).h = h) : RightP L a h f t ↔ ∀ i, i < (nd L a).ks.length → (f ≤ Nd.at_ (nd L a).ks i ∧ Nd.at_ (nd L a).ks i < t) ∧ (0 < h → RightP L (Nd.t3 (nd L a).cs i).1 (h - 1) (Nd.at_ (nd L a).ks i) (next (nd L a) t i)) := by
  have h0 := ho.h0
  have h6 := ho.h6
  obtain ⟨m, hm⟩ : ∃ m : Nat, h = (m : Int) := ⟨h.toNat, by omega⟩
  subst hm
  unfold RightP
  rw [Int.toNat_natCast]
  cases m with
  | zero => exact ⟨fun hr i hi => ⟨hr.2.2.key hi, fun h => absurd h (by decide)⟩, fun hk => ⟨by omega, by omega, hi, ho, hh, fun i hi => (hk i hi).1⟩⟩
  | succ m =>
    have e : ((m + 1 : Nat) : Int) - 1 = (m : Int) := by omega
    rw [e]
    refine ⟨fun hr i hi => ⟨hr.2.2.key hi, fun _ => ⟨by omega, by omega, ?_⟩⟩, fun hk => ⟨by omega, by omega, hi, ho, hh, fun i hi => ⟨(hk i hi).1, ?_⟩⟩⟩
    · rw [Int.toNat_natCast]; exact hr.2.2.kid hi
    · have := ((hk i hi).2 (by omega)).2.2
      rw [Int.toNat_natCast] at this
      exact this
theorem bool_of (P : Prop) : ∃ R : Bool, R = true ↔ P := by
  by_cases h : P
  · exact ⟨true, fun _ => h, fun _ => rfl⟩
  · exact ⟨false, (fun h' => by cases h'), fun h' => absurd h' h⟩
end Tr
def RtC (p : Nat) (st : Tr.MSt) (m : Nat) : Prop := ∀ {w : World} {X : Nat → Prop} (k : Nd.T3) (h f t : Int) (R : Bool), MRep p w X st → Tr.KR k → (-9223372036854775808 ≤ h ∧ h ≤ 9223372036854775807) → h.toNat = m → (R = true ↔ Tr.RightP st.L k.1 h f t) →
  Calls Try.prog 34 #[.pointer (some ⟨p, 0, none⟩), .agg #[.int .i64 k.1, .int .i64 k.2.1, .int .i64 k.2.2], .int .i64 h, .int .i64 f, .int .i64 t] w fun e w' => e = .returned (.bool R) ∧ Below w.heap.size w w'
set_option maxRecDepth 8000 in
set_option maxHeartbeats 16000000 in
theorem right_one (p : Nat) (st : Tr.MSt) (m : Nat) (IH : ∀ j, m = j + 1 → RtC p st j) : RtC p st m := by
  intro w X k h f t R hr hkr hhr hm hR
  obtain ⟨ka, kn, kg⟩ := k
  obtain ⟨B, hB⟩ : ∃ B, w.heap.size = B := ⟨_, rfl⟩
  obtain ⟨W0, hW0⟩ : ∃ W, w.alloc (.cells #[.int .i64 ka, .int .i64 kn, .int .i64 kg] 58) = W := ⟨_, rfl⟩
  have bel0 : Below B w W0 := by rw [← hW0, ← hB]; exact below_alloc1 _ _
  have bx : Blk W0 B 58 #[.int .i64 ka, .int .i64 kn, .int .i64 kg] := by rw [← hW0, ← hB]; exact Blk.new _ _ _
  have bel0' : Below w.heap.size w W0 := by rw [hB]; exact bel0
  obtain ⟨A, c, vs, hM⟩ := hr.keep (G := fun _ => False) (.of_below _ bel0') fun _ _ h => h
  obtain ⟨q, hq⟩ : ∃ q, q = st.L.length := ⟨_, rfl⟩
  have y0 : W0.cell? ⟨p, 0, none⟩ = some (.slice A q c) := by rw [hq]; exact hM.blk.cell 0
  have u0 : W0.cell? ⟨B, 0, none⟩ = some (.int .i64 ka) := bx.cell 0
  have HM := Lib.hid hM
  have HR := Lib.hid hR
  have Hkr := Lib.hid (show -9223372036854775808 ≤ ka ∧ ka ≤ 9223372036854775807 from hkr)
  have HB0 := Lib.hid bel0
  have BX := Lib.hid bx
  have Hq := Lib.hid hq
  have Hh := Lib.hid hhr
  have Hm := Lib.hid hm
  have HNo := Lib.hid (show ¬ Tr.RightP st.L ka h f t → R = false from fun hn => by cases R with | false => rfl | true => exact absurd (hR.1 rfl) hn)
  rw [hB]
  have hfr := hM.few
  clear hM hR hkr bel0 bel0' bx hq hhr hm hr
  go_enter Try.func34, Try.ntmps34
  go_upto_region 1 with fail
  clear hW0 hB
  by_cases g1 : ka < 2
  · have d1 : decide (ka < 2) = true := decide_eq_true g1
    go_quiet (fail)
    obtain ⟨W3, hW3⟩ : ∃ W, W0.drewN nq = W := ⟨_, rfl⟩
    rw [hW3]
    have hb3 : Below B w W3 := by rw [← hW3]; exact belowN HB0.out _
    clear hW3 y0 u0
    have HRf := Lib.hid (HNo.out (fun hn => by have h1 := hn.in_.1; have h2 := hn.1; have h3 := hn.2.1; obtain ⟨h4, h5⟩ := h1; have h6 := Hq.out; omega))
    go_wp2_with fail
    go_ret
    exact ⟨by rw [HRf.out]; rfl, hb3⟩
  · have d1 : decide (ka < 2) = false := decide_eq_false g1
    have e1 : wrap64 (ka - 2) = ka - 2 := by have := Hkr.out; simp only [wrap64]; omega
    by_cases g2 : (q : Int) ≤ ka - 2
    · have d2 : decide ((q : Int) ≤ ka - 2) = true := decide_eq_true g2
      go_quiet (fail)
      obtain ⟨W3, hW3⟩ : ∃ W, W0.drewN nq = W := ⟨_, rfl⟩
      rw [hW3]
      have hb3 : Below B w W3 := by rw [← hW3]; exact belowN HB0.out _
      clear hW3 y0 u0
      have HRf := Lib.hid (HNo.out (fun hn => by have h1 := hn.in_.1; have h2 := hn.1; have h3 := hn.2.1; obtain ⟨h4, h5⟩ := h1; have h6 := Hq.out; omega))
      go_wp2_with fail
      go_ret
      exact ⟨by rw [HRf.out]; rfl, hb3⟩
    · have d2 : decide ((q : Int) ≤ ka - 2) = false := decide_eq_false g2
      by_cases g3 : h < 0
      · have d3 : decide (h < 0) = true := decide_eq_true g3
        go_quiet (fail)
        obtain ⟨W3, hW3⟩ : ∃ W, W0.drewN nq = W := ⟨_, rfl⟩
        rw [hW3]
        have hb3 : Below B w W3 := by rw [← hW3]; exact belowN HB0.out _
        clear hW3 y0 u0
        have HRf := Lib.hid (HNo.out (fun hn => by have h1 := hn.in_.1; have h2 := hn.1; have h3 := hn.2.1; obtain ⟨h4, h5⟩ := h1; have h6 := Hq.out; omega))
        go_wp2_with fail
        go_ret
        exact ⟨by rw [HRf.out]; rfl, hb3⟩
      · have d3 : decide (h < 0) = false := decide_eq_false g3
        by_cases g4 : 6 ≤ h
        · have d4 : decide (6 ≤ h) = true := decide_eq_true g4
          go_quiet (fail)
          obtain ⟨W3, hW3⟩ : ∃ W, W0.drewN nq = W := ⟨_, rfl⟩
          rw [hW3]
          have hb3 : Below B w W3 := by rw [← hW3]; exact belowN HB0.out _
          clear hW3 y0 u0
          have HRf := Lib.hid (HNo.out (fun hn => by have h1 := hn.in_.1; have h2 := hn.1; have h3 := hn.2.1; obtain ⟨h4, h5⟩ := h1; have h6 := Hq.out; omega))
          go_wp2_with fail
          go_ret
          exact ⟨by rw [HRf.out]; rfl, hb3⟩
        · have d4 : decide (6 ≤ h) = false := decide_eq_false g4
          obtain ⟨i, hi⟩ : ∃ i : Nat, ka - 2 = (i : Int) := ⟨(ka - 2).toNat, by omega⟩
          have him : i < q := by omega
          obtain ⟨g, z0, z1, z2, z3, z4, hA, hg, hXg, ⟨q0, q1, q2, q3, q4⟩, hN, hF⟩ := HM.out.at_ (i := i) (by rw [← Hq.out]; exact him)
          subst hA
          have e1 : wrap64 (ka - 2) = (i : Int) := by have := Hkr.out; simp only [wrap64]; omega
          have e2 : IntKind.i64.wrap (ka - 2) = (i : Int) := by have := Hkr.out; rw [IntKind.wrap_i64]; omega
          have dm1 : decide ((q : Int) ≤ (i : Int)) = false := by rw [decide_eq_false_iff_not]; omega
          have dm2 : decide (q ≤ i) = false := by rw [decide_eq_false_iff_not]; omega
          have im1 : (i : Int) < (q : Int) := by omega
          obtain ⟨n, hn⟩ : ∃ n, n = st.L.getD i Nd.zero := ⟨_, rfl⟩
          rw [← hn] at hN hF
          have HN := Lib.hid (show Tr.nd st.L ka = n from by unfold Tr.nd; rw [show (ka - 2).toNat = i by omega, hn])
          have Hin := Lib.hid (show Tr.In st.L ka from ⟨by omega, by have := Hq.out; omega⟩)
          obtain ⟨A1, c1, A2, c2, A3, c3, A4, c4, e5, hf⟩ := hN
          simp only [Value.agg.injEq, Array.mk.injEq, List.cons.injEq] at e5
          obtain ⟨rfl, rfl, rfl, rfl, rfl, -⟩ := e5
          obtain ⟨k1, e1'⟩ : ∃ k, k = n.ks.length := ⟨_, rfl⟩
          obtain ⟨k2, e2'⟩ : ∃ k, k = n.ps.length := ⟨_, rfl⟩
          obtain ⟨k3, e3'⟩ : ∃ k, k = n.gs.length := ⟨_, rfl⟩
          obtain ⟨k4, e4'⟩ : ∃ k, k = n.cs.length := ⟨_, rfl⟩
          obtain ⟨k0, e0'⟩ : ∃ k, k = n.h := ⟨_, rfl⟩
          rw [← e0'] at q0
          rw [← e1'] at q1
          rw [← e2'] at q2
          rw [← e3'] at q3
          rw [← e4'] at q4
          have HK := Lib.hid (show n.ks.length = k1 ∧ n.ps.length = k2 ∧ n.gs.length = k3 ∧ n.cs.length = k4 ∧ n.h = k0 from ⟨e1'.symm, e2'.symm, e3'.symm, e4'.symm, e0'.symm⟩)
          have HF := Lib.hid hf
          have HFw := Lib.hid hF
          clear hn hf hF e0' e1' e2' e3' e4' hXg him hi HNo d2
          go_quiet (fail)
          obtain ⟨W3, hW3⟩ : ∃ W, W0.drewN nq = W := ⟨_, rfl⟩
          rw [hW3]
          have hb3 : Below W0.heap.size W0 W3 := by rw [← hW3]; exact ⟨rfl, rfl, rfl, Nat.le_refl _, fun _ _ => rfl⟩
          have hbB := HB0.out.trans (hb3.mono (Nat.le_of_lt BX.out.lt))
          have p0 : W3.cell? ⟨p, 0, none⟩ = some (.slice (some ⟨g, 0, none⟩) q c) := (cell_heap (hb3.block p (HM.out.lt p HM.out.hp))).trans y0
          have p1 : W3.cell? ⟨B, 0, none⟩ = some (.int .i64 ka) := (cell_heap (hb3.block B BX.out.lt)).trans u0
          have r0 : W3.cell? ⟨g, i * 5, none⟩ = _ := (cell_heap (hb3.block g hg)).trans q0
          have r1 : W3.cell? ⟨g, i * 5 + 1, none⟩ = _ := (cell_heap (hb3.block g hg)).trans q1
          have r2 : W3.cell? ⟨g, i * 5 + 2, none⟩ = _ := (cell_heap (hb3.block g hg)).trans q2
          have r3 : W3.cell? ⟨g, i * 5 + 3, none⟩ = _ := (cell_heap (hb3.block g hg)).trans q3
          have r4 : W3.cell? ⟨g, i * 5 + 4, none⟩ = _ := (cell_heap (hb3.block g hg)).trans q4
          have hs3 := hb3.size
          have p0' := cell_al (o := (.cells #[.int .i64 0, .slice none 0 0, .slice none 0 0, .slice none 0 0, .slice none 0 0] 35)) p0 (Nat.lt_of_lt_of_le (HM.out.lt p HM.out.hp) hs3)
          have p1' := cell_al (o := (.cells #[.int .i64 0, .slice none 0 0, .slice none 0 0, .slice none 0 0, .slice none 0 0] 35)) p1 (Nat.lt_of_lt_of_le (BX.out.lt) hs3)
          have r0' := cell_al (o := (.cells #[.int .i64 0, .slice none 0 0, .slice none 0 0, .slice none 0 0, .slice none 0 0] 35)) r0 (Nat.lt_of_lt_of_le (hg) hs3)
          have r1' := cell_al (o := (.cells #[.int .i64 0, .slice none 0 0, .slice none 0 0, .slice none 0 0, .slice none 0 0] 35)) r1 (Nat.lt_of_lt_of_le (hg) hs3)
          have r2' := cell_al (o := (.cells #[.int .i64 0, .slice none 0 0, .slice none 0 0, .slice none 0 0, .slice none 0 0] 35)) r2 (Nat.lt_of_lt_of_le (hg) hs3)
          have r3' := cell_al (o := (.cells #[.int .i64 0, .slice none 0 0, .slice none 0 0, .slice none 0 0, .slice none 0 0] 35)) r3 (Nat.lt_of_lt_of_le (hg) hs3)
          have r4' := cell_al (o := (.cells #[.int .i64 0, .slice none 0 0, .slice none 0 0, .slice none 0 0, .slice none 0 0] 35)) r4 (Nat.lt_of_lt_of_le (hg) hs3)
          have HB3 := Lib.hid hb3
          clear hW3 y0 u0 q0 q1 q2 q3 q4 hb3 d1 d3 d4 e1 dm1 dm2
          go_upto_region 3 with fail
          go_region
          obtain ⟨b4, hb4⟩ : ∃ b, W3.heap.size = b := ⟨_, rfl⟩
          obtain ⟨W4, hW4⟩ : ∃ W, (W3.alloc (.cells #[.int .i64 k0, .slice A1 k1 c1, .slice A2 k2 c2, .slice A3 k3 c3, .slice A4 k4 c4] 35)).drew = W := ⟨_, rfl⟩
          have B4 := Lib.hid (show Below W0.heap.size W0 W4 from by rw [← hW4]; exact (HB3.out.trans ((below_alloc1 W3 _).mono HB3.out.size)).drew)
          have BK := Lib.hid (show Blk W4 b4 35 #[.int .i64 k0, .slice A1 k1 c1, .slice A2 k2 c2, .slice A3 k3 c3, .slice A4 k4 c4] from by rw [← hW4, ← hb4]; exact Blk.new _ _ _)
          rw [hW4, hb4]
          have HNd := Lib.hid (show NdAt W4 W4.heap.size (.agg #[.int .i64 k0, .slice A1 k1 c1, .slice A2 k2 c2, .slice A3 k3 c3, .slice A4 k4 c4]) n from by
            obtain ⟨h1, h2, h3, h4, h5⟩ := HK.out
            subst h1; subst h2; subst h3; subst h4; subst h5
            exact ⟨A1, c1, A2, c2, A3, c3, A4, c4, rfl, (HF.out.below B4.out).more B4.out.size⟩)
          clear hW4 hb4 p0 p1 r0 r1 r2 r3 r4 p0' p1' r0' r1' r2' r3' r4' hs3
          obtain ⟨R', hR'⟩ := Tr.bool_of (Nd.Ok n)
          have HMy := Lib.hid (may_any HNd.out R' hR')
          have HR' := Lib.hid hR'
          have HNo := Lib.hid (show ¬ Tr.RightP st.L ka h f t → R = false from fun hn => by cases R with | false => rfl | true => exact absurd (HR.out.1 rfl) hn)
          have e0 := BK.out.cell 0
          have e1' := BK.out.cell 1
          have e2' := BK.out.cell 2
          have e3' := BK.out.cell 3
          have e4' := BK.out.cell 4
          clear hR' e1 e2 im1
          cases R' with
          | false =>
            have HRf := Lib.hid (HNo.out (fun hn => by have := HR'.out.2 (HN.out ▸ hn.in_.2.1); cases this))
            go_wp2_with (go_at_call 22; (with_reducible refine HMy.out.mono ?_); rintro e w5 ⟨rfl, b5⟩; (have B5 := Lib.hid b5); clear b5)
            go_ret
            exact ⟨by rw [HRf.out]; rfl, HB0.out.trans ((B4.out.trans (B5.out.mono B4.out.size)).mono (Nat.le_of_lt BX.out.lt))⟩
          | true =>
            have Hok := Lib.hid (HR'.out.1 rfl)
            by_cases hkh : k0 = h
            · have d0 : decide (k0 = h) = true := decide_eq_true hkh
              have d0' : (k0 != h) = false := by simpa using hkh
              have HIff := Lib.hid (show Tr.RightP st.L ka h f t ↔ ∀ i, i < k1 → (f ≤ Nd.at_ n.ks i ∧ Nd.at_ n.ks i < t) ∧ (0 < h → Tr.RightP st.L (Nd.t3 n.cs i).1 (h - 1) (Nd.at_ n.ks i) (Tr.next n t i)) from by
                have := Tr.right_iff (h := h) (f := f) (t := t) Hin.out (HN.out.symm ▸ Hok.out) (by rw [HN.out, HK.out.2.2.2.2]; exact hkh)
                rw [HN.out, HK.out.1] at this
                exact this)
              have Hh06 := Lib.hid (show 0 ≤ h ∧ h < 6 from by have h1 := Hok.out.h0; have h2 := Hok.out.h6; have h3 := HK.out.2.2.2.2; omega)
              have Hkh := Lib.hid hkh
              have H8 := Lib.hid (show k1 ≤ 8 from by have := Hok.out.few; have := HK.out.1; omega)
              clear hkh HNo
              go_upto_region 6 with (go_at_call 22; (with_reducible refine HMy.out.mono ?_); rintro e w5 ⟨rfl, b5⟩; (have B5 := Lib.hid b5); (have e0 := (BK.out.keep (b5.block b4 BK.out.lt)).cell 0); clear b5)
              clear e0 e1' e2' e3' e4' d0 d0'
              have BKw := Lib.hid (BK.out.keep (B5.out.block b4 BK.out.lt))
              have B05 := Lib.hid (B4.out.trans (B5.out.mono B4.out.size))
              have h8 := H8.out
              go_wp2_with fail
              go_loopw [12, 13] (fun v12 _ wr => ∃ i : Nat, v12 = .int .i64 (i : Int) ∧ i ≤ k1 ∧ (∀ j, j < i → (f ≤ Nd.at_ n.ks j ∧ Nd.at_ n.ks j < t) ∧ (0 < h → Tr.RightP st.L (Nd.t3 n.cs j).1 (h - 1) (Nd.at_ n.ks j) (Tr.next n t j))) ∧ Below w5.heap.size w5 wr) (fun v12 _ _ => k1 - (intOf v12).toNat)
              case atStart => exact ⟨0, rfl, Nat.zero_le _, fun j hj => absurd hj (Nat.not_lt_zero j), Below.refl _ _⟩
              case round =>
                obtain ⟨i, rfl, hi, hall, hbr⟩ := hrel
                have Hall := Lib.hid hall
                have Hbr := Lib.hid hbr
                clear hall hbr
                have y1 : wr.cell? ⟨b4, 1, none⟩ = some (.slice A1 k1 c1) := (BKw.out.keep (Hbr.out.block b4 BKw.out.lt)).cell 1
                by_cases hik : i < k1
                · have z0 : decide ((i : Int) < (k1 : Int)) = true := by rw [decide_eq_true_eq]; omega
                  have z0' : decide (i < k1) = true := decide_eq_true hik
                  have hki : (i : Int) < (k1 : Int) := by omega
                  have hkl : i < n.ks.length := by rw [HK.out.1]; exact hik
                  have HKs := Lib.hid (fun (V : World) (hV : Below w5.heap.size w5 V) => show SlC V V.heap.size A1 c1 n.ks.length (ivs n.ks) from ((HF.out.below (B05.out.trans (hV.mono B05.out.size))).ks).more (Nat.le_trans B05.out.size hV.size))
                  obtain ⟨g1, o1, rfl, -, x0⟩ := (HKs.out wr Hbr.out).int (i := i) hkl
                  obtain ⟨key, hkey⟩ : ∃ k, k = Nd.at_ n.ks i := ⟨_, rfl⟩
                  rw [← hkey] at x0
                  have Hkey := Lib.hid hkey
                  obtain ⟨nx, hnx⟩ : ∃ x, x = Tr.next n t i := ⟨_, rfl⟩
                  have Hnx := Lib.hid hnx
                  have HBad := Lib.hid (show ¬ ((f ≤ key ∧ key < t) ∧ (0 < h → Tr.RightP st.L (Nd.t3 n.cs i).1 (h - 1) key nx)) → R = false from fun hn => by
                    cases R with
                    | false => rfl
                    | true =>
                      have := HIff.out.1 (HR.out.1 rfl) i hik
                      rw [← hkey, ← hnx] at this
                      exact absurd this hn)
                  have HGood := Lib.hid (show ((f ≤ key ∧ key < t) ∧ (0 < h → Tr.RightP st.L (Nd.t3 n.cs i).1 (h - 1) key nx)) → ∀ j, j < i + 1 → (f ≤ Nd.at_ n.ks j ∧ Nd.at_ n.ks j < t) ∧ (0 < h → Tr.RightP st.L (Nd.t3 n.cs j).1 (h - 1) (Nd.at_ n.ks j) (Tr.next n t j)) from fun hg j hj => by
                    rcases Nat.lt_or_ge j i with hji | hji
                    · exact Hall.out j hji
                    · obtain rfl : j = i := by omega
                      rw [← hkey, ← hnx]; exact hg)
                  have Hik := Lib.hid hik
                  clear hkey hkl
                  by_cases hi1 : i + 1 < k1
                  · have z1 : decide ((i : Int) + 1 < (k1 : Int)) = true := by rw [decide_eq_true_eq]; omega
                    have z1' : decide (i + 1 < k1) = true := decide_eq_true hi1
                    have hki1 : (i : Int) + 1 < (k1 : Int) := by omega
                    have hnx' : Nd.at_ n.ks (i + 1) = nx := by rw [hnx]; unfold Tr.next; rw [if_pos (by rw [HK.out.1]; exact hi1)]
                    obtain ⟨g1', o1', hgo, -, x1⟩ := (HKs.out wr Hbr.out).int (i := i + 1) (by rw [HK.out.1]; exact hi1)
                    injection hgo with hgo
                    injection hgo with hgo1 hgo2
                    subst hgo1
                    subst hgo2
                    rw [hnx'] at x1
                    clear hnx hnx' hik
                    by_cases hkf : key < f
                    · have d1 : decide (key < f) = true := decide_eq_true hkf
                      have HRf := Lib.hid (HBad.out (fun h => by omega))
                      go_upto_region 12 with fail
                      go_quiet (fail)
                      obtain ⟨W9, hW9⟩ : ∃ W, wr.drewN nq = W := ⟨_, rfl⟩
                      have HBn : Below wr.heap.size wr W9 := by rw [← hW9]; exact belowN (Below.refl _ _) _
                      rw [hW9]
                      clear hW9
                      go_wp2_with fail
                      go_ret
                      exact ⟨by rw [HRf.out]; rfl, HB0.out.trans ((B05.out.trans ((Hbr.out.trans (HBn.mono Hbr.out.size)).mono B05.out.size)).mono (Nat.le_of_lt BX.out.lt))⟩
                    · by_cases hkt : t ≤ key
                      · have d1 : decide (key < f) = false := decide_eq_false hkf
                        have d2 : decide (t ≤ key) = true := decide_eq_true hkt
                        have HRf := Lib.hid (HBad.out (fun h => by omega))
                        go_upto_region 12 with fail
                        go_quiet (fail)
                        obtain ⟨W9, hW9⟩ : ∃ W, wr.drewN nq = W := ⟨_, rfl⟩
                        have HBn : Below wr.heap.size wr W9 := by rw [← hW9]; exact belowN (Below.refl _ _) _
                        rw [hW9]
                        clear hW9
                        go_wp2_with fail
                        go_ret
                        exact ⟨by rw [HRf.out]; rfl, HB0.out.trans ((B05.out.trans ((Hbr.out.trans (HBn.mono Hbr.out.size)).mono B05.out.size)).mono (Nat.le_of_lt BX.out.lt))⟩
                      · have d1 : decide (key < f) = false := decide_eq_false hkf
                        have d2 : decide (t ≤ key) = false := decide_eq_false hkt
                        by_cases hh0 : 0 < h
                        · have d3 : decide ((0 : Int) < h) = true := decide_eq_true hh0
                          have hin := Hok.out.inner (by rw [HK.out.2.2.2.2, Hkh.out]; omega)
                          have hk14 : k4 = k1 := by have h1 := hin.1; rw [HK.out.2.2.2.1, HK.out.1] at h1; exact h1
                          have hk4 : (i : Int) < (k4 : Int) := by rw [hk14]; exact hki
                          have hkr : Tr.KR (Nd.t3 n.cs i) := Tr.kr_ok (hin.2.2.2.2 i (by rw [HK.out.1]; exact Hik.out))
                          obtain ⟨g4, o4, rfl, -, x2, x3, x4⟩ := ((HF.out.below (B05.out.trans (Hbr.out.mono B05.out.size))).cs).three (i := i) (by rw [HK.out.2.2.2.1, hk14]; exact Hik.out)
                          have HCs := Lib.hid (fun (V : World) (hV : Below w5.heap.size w5 V) => show V.cell? ⟨g4, o4 + i * 3, none⟩ = some (.int .i64 (Nd.t3 n.cs i).1) ∧ V.cell? ⟨g4, o4 + i * 3 + 1, none⟩ = some (.int .i64 (Nd.t3 n.cs i).2.1) ∧ V.cell? ⟨g4, o4 + i * 3 + 2, none⟩ = some (.int .i64 (Nd.t3 n.cs i).2.2) from by
                            obtain ⟨g, o, e, -, h⟩ := ((HF.out.below (B05.out.trans (hV.mono B05.out.size))).cs).three (i := i) (by rw [HK.out.2.2.2.1, hk14]; exact Hik.out)
                            injection e with e
                            injection e with h1 h2
                            subst h1; subst h2
                            exact h)
                          have HCk := Lib.hid (fun (V : World) (hV : Below w5.heap.size w5 V) => show V.cell? ⟨g1, o1 + i, none⟩ = some (.int .i64 key) from by
                            obtain ⟨g, o, e, -, h⟩ := (HKs.out V hV).int (i := i) (by rw [HK.out.1]; exact Hik.out)
                            injection e with e
                            injection e with h1 h2
                            subst h1; subst h2
                            rw [Hkey.out]; exact h)
                          clear x2 x3 x4 hin
                          obtain ⟨kid, hkid⟩ : ∃ k, k = Nd.t3 n.cs i := ⟨_, rfl⟩
                          rw [← hkid] at HCs hkr HBad HGood
                          clear hkid
                          obtain ⟨kx, ky, kz⟩ := kid
                          obtain ⟨Rk, hRk⟩ := Tr.bool_of (Tr.RightP st.L kx (h - 1) key nx)
                          have HRk := Lib.hid hRk
                          obtain ⟨h1, hh1⟩ : ∃ x, x = h - 1 := ⟨_, rfl⟩
                          have w1 : wrap64 (h - 1) = h1 := by have := Hh06.out; rw [hh1]; simp only [wrap64]; omega
                          have w2 : IntKind.i64.wrap (h - 1) = h1 := by have := Hh06.out; rw [hh1, IntKind.wrap_i64]; omega
                          have HIH := Lib.hid (fun (V : World) (hV : Below w5.heap.size w5 V) => IH h1.toNat (by have := Hm.out; have := Hh06.out; omega) (w := V) (X := X) (kx, ky, kz) h1 key nx Rk ⟨_, c, vs, HM.out.keep (G := fun _ => False) (.of_below _ (B05.out.trans (hV.mono B05.out.size))) fun _ _ h => h⟩ hkr (by have := Hh06.out; omega) rfl (by rw [hh1]; exact hRk))
                          dsimp only at HIH HCs
                          clear hRk hh1 hkr
                          have Kp := Lib.hid (fun (V : World) (hV : Below wr.heap.size wr V) => show V.cell? ⟨b4, 1, none⟩ = some (.slice (some ⟨g1, o1, none⟩) k1 c1) ∧ V.cell? ⟨b4, 4, none⟩ = some (.slice (some ⟨g4, o4, none⟩) k4 c4) ∧ V.cell? ⟨g1, o1 + i, none⟩ = some (.int .i64 key) ∧ V.cell? ⟨g4, o4 + i * 3, none⟩ = some (.int .i64 kx) ∧ V.cell? ⟨g4, o4 + i * 3 + 1, none⟩ = some (.int .i64 ky) ∧ V.cell? ⟨g4, o4 + i * 3 + 2, none⟩ = some (.int .i64 kz) from by
                            have hb := Hbr.out.trans (hV.mono Hbr.out.size)
                            have hk := BKw.out.keep (hb.block b4 BKw.out.lt)
                            exact ⟨hk.cell 1, hk.cell 4, HCk.out V hb, HCs.out V hb⟩)
                          have hbc : Below wr.heap.size wr wr.drew := (Below.refl _ _).drew
                          clear hk14
                          go_upto_region 12 with fail
                          go_region_held3 (fun V => V.cell? ⟨b4, 1, none⟩ = some (.slice (some ⟨g1, o1, none⟩) k1 c1) ∧ V.cell? ⟨b4, 4, none⟩ = some (.slice (some ⟨g4, o4, none⟩) k4 c4) ∧ V.cell? ⟨g1, o1 + i, none⟩ = some (.int .i64 key) ∧ V.cell? ⟨g4, o4 + i * 3, none⟩ = some (.int .i64 kx) ∧ V.cell? ⟨g4, o4 + i * 3 + 1, none⟩ = some (.int .i64 ky) ∧ V.cell? ⟨g4, o4 + i * 3 + 2, none⟩ = some (.int .i64 kz)) (exact Kp.out _ hbc) (first
                            | (go_at_call 34; ((with_reducible refine (HIH.out _ (Hbr.out.trans (hbc.mono Hbr.out.size))).mono ?_); rintro e w9 ⟨rfl, b9⟩; have hbc := hbc.trans (b9.mono hbc.size); clear b9)))
                          all_goals
                            have HBq := Lib.hid hbc
                            clear hbc
                            cases Rk with
                            | true =>
                              have HNxt := Lib.hid (HGood.out ⟨⟨by omega, by omega⟩, fun _ => HRk.out.1 rfl⟩)
                              go_wp2_with fail
                              go_roundw
                              case rel => exact ⟨i + 1, by go_num, by omega, HNxt.out, Hbr.out.trans (HBq.out.mono Hbr.out.size)⟩
                              case measure => simp [intOf]; omega
                            | false =>
                              have HRf := Lib.hid (HBad.out (fun hg => by have := HRk.out.2 (hg.2 hh0); cases this))
                              have HBn := HBq.out
                              go_wp2_with fail
                              go_ret
                              exact ⟨by rw [HRf.out]; rfl, HB0.out.trans ((B05.out.trans ((Hbr.out.trans (HBn.mono Hbr.out.size)).mono B05.out.size)).mono (Nat.le_of_lt BX.out.lt))⟩
                        · have d3 : decide ((0 : Int) < h) = false := decide_eq_false hh0
                          have HNxt := Lib.hid (HGood.out ⟨⟨by omega, by omega⟩, fun h => absurd h hh0⟩)
                          go_upto_region 12 with fail
                          go_quiet (fail)
                          obtain ⟨W9, hW9⟩ : ∃ W, wr.drewN nq = W := ⟨_, rfl⟩
                          have HBn : Below wr.heap.size wr W9 := by rw [← hW9]; exact belowN (Below.refl _ _) _
                          rw [hW9]
                          clear hW9
                          have HBq := Lib.hid HBn
                          clear HBn
                          go_wp2_with fail
                          go_roundw
                          case rel => exact ⟨i + 1, by go_num, by omega, HNxt.out, Hbr.out.trans (HBq.out.mono Hbr.out.size)⟩
                          case measure => simp [intOf]; omega
                  · have z1 : decide ((i : Int) + 1 < (k1 : Int)) = false := by rw [decide_eq_false_iff_not]; omega
                    have z1' : decide (i + 1 < k1) = false := decide_eq_false hi1
                    have hnx' : t = nx := by rw [hnx]; unfold Tr.next; rw [if_neg (by rw [HK.out.1]; exact hi1)]
                    have Hnt := Lib.hid hnx'
                    clear hnx hnx' hik
                    by_cases hkf : key < f
                    · have d1 : decide (key < f) = true := decide_eq_true hkf
                      have HRf := Lib.hid (HBad.out (fun h => by omega))
                      go_upto_region 12 with fail
                      go_quiet (fail)
                      obtain ⟨W9, hW9⟩ : ∃ W, wr.drewN nq = W := ⟨_, rfl⟩
                      have HBn : Below wr.heap.size wr W9 := by rw [← hW9]; exact belowN (Below.refl _ _) _
                      rw [hW9]
                      clear hW9
                      go_wp2_with fail
                      go_ret
                      exact ⟨by rw [HRf.out]; rfl, HB0.out.trans ((B05.out.trans ((Hbr.out.trans (HBn.mono Hbr.out.size)).mono B05.out.size)).mono (Nat.le_of_lt BX.out.lt))⟩
                    · by_cases hkt : t ≤ key
                      · have d1 : decide (key < f) = false := decide_eq_false hkf
                        have d2 : decide (t ≤ key) = true := decide_eq_true hkt
                        have HRf := Lib.hid (HBad.out (fun h => by omega))
                        go_upto_region 12 with fail
                        go_quiet (fail)
                        obtain ⟨W9, hW9⟩ : ∃ W, wr.drewN nq = W := ⟨_, rfl⟩
                        have HBn : Below wr.heap.size wr W9 := by rw [← hW9]; exact belowN (Below.refl _ _) _
                        rw [hW9]
                        clear hW9
                        go_wp2_with fail
                        go_ret
                        exact ⟨by rw [HRf.out]; rfl, HB0.out.trans ((B05.out.trans ((Hbr.out.trans (HBn.mono Hbr.out.size)).mono B05.out.size)).mono (Nat.le_of_lt BX.out.lt))⟩
                      · have d1 : decide (key < f) = false := decide_eq_false hkf
                        have d2 : decide (t ≤ key) = false := decide_eq_false hkt
                        by_cases hh0 : 0 < h
                        · have d3 : decide ((0 : Int) < h) = true := decide_eq_true hh0
                          have hin := Hok.out.inner (by rw [HK.out.2.2.2.2, Hkh.out]; omega)
                          have hk14 : k4 = k1 := by have h1 := hin.1; rw [HK.out.2.2.2.1, HK.out.1] at h1; exact h1
                          have hk4 : (i : Int) < (k4 : Int) := by rw [hk14]; exact hki
                          have hkr : Tr.KR (Nd.t3 n.cs i) := Tr.kr_ok (hin.2.2.2.2 i (by rw [HK.out.1]; exact Hik.out))
                          obtain ⟨g4, o4, rfl, -, x2, x3, x4⟩ := ((HF.out.below (B05.out.trans (Hbr.out.mono B05.out.size))).cs).three (i := i) (by rw [HK.out.2.2.2.1, hk14]; exact Hik.out)
                          have HCs := Lib.hid (fun (V : World) (hV : Below w5.heap.size w5 V) => show V.cell? ⟨g4, o4 + i * 3, none⟩ = some (.int .i64 (Nd.t3 n.cs i).1) ∧ V.cell? ⟨g4, o4 + i * 3 + 1, none⟩ = some (.int .i64 (Nd.t3 n.cs i).2.1) ∧ V.cell? ⟨g4, o4 + i * 3 + 2, none⟩ = some (.int .i64 (Nd.t3 n.cs i).2.2) from by
                            obtain ⟨g, o, e, -, h⟩ := ((HF.out.below (B05.out.trans (hV.mono B05.out.size))).cs).three (i := i) (by rw [HK.out.2.2.2.1, hk14]; exact Hik.out)
                            injection e with e
                            injection e with h1 h2
                            subst h1; subst h2
                            exact h)
                          have HCk := Lib.hid (fun (V : World) (hV : Below w5.heap.size w5 V) => show V.cell? ⟨g1, o1 + i, none⟩ = some (.int .i64 key) from by
                            obtain ⟨g, o, e, -, h⟩ := (HKs.out V hV).int (i := i) (by rw [HK.out.1]; exact Hik.out)
                            injection e with e
                            injection e with h1 h2
                            subst h1; subst h2
                            rw [Hkey.out]; exact h)
                          clear x2 x3 x4 hin
                          obtain ⟨kid, hkid⟩ : ∃ k, k = Nd.t3 n.cs i := ⟨_, rfl⟩
                          rw [← hkid] at HCs hkr HBad HGood
                          clear hkid
                          obtain ⟨kx, ky, kz⟩ := kid
                          obtain ⟨Rk, hRk⟩ := Tr.bool_of (Tr.RightP st.L kx (h - 1) key nx)
                          have HRk := Lib.hid hRk
                          obtain ⟨h1, hh1⟩ : ∃ x, x = h - 1 := ⟨_, rfl⟩
                          have w1 : wrap64 (h - 1) = h1 := by have := Hh06.out; rw [hh1]; simp only [wrap64]; omega
                          have w2 : IntKind.i64.wrap (h - 1) = h1 := by have := Hh06.out; rw [hh1, IntKind.wrap_i64]; omega
                          have HIH := Lib.hid (fun (V : World) (hV : Below w5.heap.size w5 V) => IH h1.toNat (by have := Hm.out; have := Hh06.out; omega) (w := V) (X := X) (kx, ky, kz) h1 key nx Rk ⟨_, c, vs, HM.out.keep (G := fun _ => False) (.of_below _ (B05.out.trans (hV.mono B05.out.size))) fun _ _ h => h⟩ hkr (by have := Hh06.out; omega) rfl (by rw [hh1]; exact hRk))
                          dsimp only at HIH HCs
                          clear hRk hh1 hkr
                          have Kp := Lib.hid (fun (V : World) (hV : Below wr.heap.size wr V) => show V.cell? ⟨b4, 1, none⟩ = some (.slice (some ⟨g1, o1, none⟩) k1 c1) ∧ V.cell? ⟨b4, 4, none⟩ = some (.slice (some ⟨g4, o4, none⟩) k4 c4) ∧ V.cell? ⟨g1, o1 + i, none⟩ = some (.int .i64 key) ∧ V.cell? ⟨g4, o4 + i * 3, none⟩ = some (.int .i64 kx) ∧ V.cell? ⟨g4, o4 + i * 3 + 1, none⟩ = some (.int .i64 ky) ∧ V.cell? ⟨g4, o4 + i * 3 + 2, none⟩ = some (.int .i64 kz) from by
                            have hb := Hbr.out.trans (hV.mono Hbr.out.size)
                            have hk := BKw.out.keep (hb.block b4 BKw.out.lt)
                            exact ⟨hk.cell 1, hk.cell 4, HCk.out V hb, HCs.out V hb⟩)
                          have hbc : Below wr.heap.size wr wr.drew := (Below.refl _ _).drew
                          clear hk14
                          rw [← Hnt.out] at HIH
                          go_upto_region 12 with fail
                          go_region_held3 (fun V => V.cell? ⟨b4, 1, none⟩ = some (.slice (some ⟨g1, o1, none⟩) k1 c1) ∧ V.cell? ⟨b4, 4, none⟩ = some (.slice (some ⟨g4, o4, none⟩) k4 c4) ∧ V.cell? ⟨g1, o1 + i, none⟩ = some (.int .i64 key) ∧ V.cell? ⟨g4, o4 + i * 3, none⟩ = some (.int .i64 kx) ∧ V.cell? ⟨g4, o4 + i * 3 + 1, none⟩ = some (.int .i64 ky) ∧ V.cell? ⟨g4, o4 + i * 3 + 2, none⟩ = some (.int .i64 kz)) (exact Kp.out _ hbc) (first
                            | (go_at_call 34; ((with_reducible refine (HIH.out _ (Hbr.out.trans (hbc.mono Hbr.out.size))).mono ?_); rintro e w9 ⟨rfl, b9⟩; have hbc := hbc.trans (b9.mono hbc.size); clear b9)))
                          all_goals
                            have HBq := Lib.hid hbc
                            clear hbc
                            cases Rk with
                            | true =>
                              have HNxt := Lib.hid (HGood.out ⟨⟨by omega, by omega⟩, fun _ => HRk.out.1 rfl⟩)
                              go_wp2_with fail
                              go_roundw
                              case rel => exact ⟨i + 1, by go_num, by omega, HNxt.out, Hbr.out.trans (HBq.out.mono Hbr.out.size)⟩
                              case measure => simp [intOf]; omega
                            | false =>
                              have HRf := Lib.hid (HBad.out (fun hg => by have := HRk.out.2 (hg.2 hh0); cases this))
                              have HBn := HBq.out
                              go_wp2_with fail
                              go_ret
                              exact ⟨by rw [HRf.out]; rfl, HB0.out.trans ((B05.out.trans ((Hbr.out.trans (HBn.mono Hbr.out.size)).mono B05.out.size)).mono (Nat.le_of_lt BX.out.lt))⟩
                        · have d3 : decide ((0 : Int) < h) = false := decide_eq_false hh0
                          have HNxt := Lib.hid (HGood.out ⟨⟨by omega, by omega⟩, fun h => absurd h hh0⟩)
                          go_upto_region 12 with fail
                          go_quiet (fail)
                          obtain ⟨W9, hW9⟩ : ∃ W, wr.drewN nq = W := ⟨_, rfl⟩
                          have HBn : Below wr.heap.size wr W9 := by rw [← hW9]; exact belowN (Below.refl _ _) _
                          rw [hW9]
                          clear hW9
                          have HBq := Lib.hid HBn
                          clear HBn
                          go_wp2_with fail
                          go_roundw
                          case rel => exact ⟨i + 1, by go_num, by omega, HNxt.out, Hbr.out.trans (HBq.out.mono Hbr.out.size)⟩
                          case measure => simp [intOf]; omega
                · have hi' : i = k1 := by omega
                  have z0 : decide ((i : Int) < (k1 : Int)) = false := by rw [decide_eq_false_iff_not]; omega
                  have z0' : decide (i < k1) = false := decide_eq_false hik
                  have HRt := Lib.hid (HR.out.2 (HIff.out.2 (by rw [← hi']; exact Hall.out)))
                  clear hik hi' hi Hall
                  go_wp2_with fail
                  go_ret
                  exact ⟨by rw [HRt.out]; rfl, HB0.out.trans ((B05.out.trans (Hbr.out.mono B05.out.size)).mono (Nat.le_of_lt BX.out.lt))⟩
            · have d0 : decide (k0 = h) = false := decide_eq_false hkh
              have d0' : (k0 != h) = true := by simpa using hkh
              have HRf := Lib.hid (HNo.out (fun hn => hkh (by have := hn.in_.2.2; rw [HN.out, HK.out.2.2.2.2] at this; exact this)))
              clear hkh
              go_wp2_with (go_at_call 22; (with_reducible refine HMy.out.mono ?_); rintro e w5 ⟨rfl, b5⟩; (have B5 := Lib.hid b5); (have e0 := (BK.out.keep (b5.block b4 BK.out.lt)).cell 0); clear b5)
              go_ret
              exact ⟨by rw [HRf.out]; rfl, HB0.out.trans ((B4.out.trans (B5.out.mono B4.out.size)).mono (Nat.le_of_lt BX.out.lt))⟩
theorem right_is (p : Nat) (st : Tr.MSt) : ∀ m, RtC p st m
  | 0 => right_one p st 0 fun j e => by cases e
  | m + 1 => right_one p st (m + 1) fun j e => by
    obtain rfl : m = j := by omega
    exact right_is p st m
end Go.Proofs.Ytlcchefiicalpaa
