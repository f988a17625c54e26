/- The program's load: a node of the store, as it was said from above. -/
import Derived.Test.YtlcchefiicalpaaZwj
namespace Go.Proofs.Ytlcchefiicalpaa
open Go.RowKit
section
variable {σ : Type} (D : StoI σ) {w : World} {X : Nat → Prop} {st : σ}
/-- What a load answers. -/
def LdR (D : StoI σ) (w : World) (X : Nat → Prop) (st' : σ) (r : Except Int Nd.N) (e : Ending) (w' : World) : Prop := StR σ D.Rep w X st' (fun w' X' => ∃ v c, e = .returned (.tuple #[v, .int .i64 c]) ∧ (match r with
    | .error e => c = e ∧ NdN w X' w' v Nd.zero
    | .ok n => c = 0 ∧ NdN w X' w' v n)) w'
def LoR (D : StoI σ) (w : World) (X : Nat → Prop) (st' : σ) (r : Except Int Nd.N) (e : Ending) (w' : World) : Prop := StR σ D.Rep w X st' (fun w' X' => ∃ v c, e = .returned (.tuple #[v, .int .i64 c]) ∧ (match r with
    | .error e => c = e ∧ v = ndZ
    | .ok n => c = 0 ∧ NdN w X' w' v n)) w'
/-- The result's five cells, behind the store's load. -/
theorem ld_end {w W w2 W3 : World} {X X2 : Nat → Prop} {st1 : σ} {yb : Nat} (hR : D.Rep w2 X2 st1) (hS2 : Stp W X w2 X2) (hS : Stp w X W X) (FY : Fast X W fun u => Blk u yb 35 #[.int .i64 0, .slice none 0 0, .slice none 0 0, .slice none 0 0, .slice none 0 0]) (hX : w.heap.size ≤ yb ∧ ¬ X yb) (hb : Below w2.heap.size w2 W3) (v0 v1 v2 v3 v4 : Value) :
    ∃ s1 s2 s3 s4 s5, (D.Rep s5 X2 st1 ∧ Stp w X s5 X2 ∧ Chg (fun b => b = yb) w2 s5) ∧ W3.setCell ⟨yb, 0, none⟩ v0 = s1 ∧ s1.setCell ⟨yb, 1, none⟩ v1 = s2 ∧ s2.setCell ⟨yb, 2, none⟩ v2 = s3 ∧ s3.setCell ⟨yb, 3, none⟩ v3 = s4 ∧ s4.setCell ⟨yb, 4, none⟩ v4 = s5 ∧
      (W3.frozen? ⟨yb, 0, none⟩ = false ∧ s1.frozen? ⟨yb, 1, none⟩ = false ∧ s2.frozen? ⟨yb, 2, none⟩ = false ∧ s3.frozen? ⟨yb, 3, none⟩ = false ∧ s4.frozen? ⟨yb, 4, none⟩ = false) ∧
      (W3.cell? ⟨yb, 0, none⟩ = some (.int .i64 0) ∧ s1.cell? ⟨yb, 1, none⟩ = some (.slice none 0 0) ∧ s2.cell? ⟨yb, 2, none⟩ = some (.slice none 0 0) ∧ s3.cell? ⟨yb, 3, none⟩ = some (.slice none 0 0) ∧ s4.cell? ⟨yb, 4, none⟩ = some (.slice none 0 0)) ∧
      (s5.cell? ⟨yb, 0, none⟩ = some v0 ∧ s5.cell? ⟨yb, 1, none⟩ = some v1 ∧ s5.cell? ⟨yb, 2, none⟩ = some v2 ∧ s5.cell? ⟨yb, 3, none⟩ = some v3 ∧ s5.cell? ⟨yb, 4, none⟩ = some v4) := by
  have b2 := (FY.step hS2).now
  have b3 := b2.keep (w' := W3) (hb.block _ b2.lt)
  obtain ⟨s1, s2, s3, s4, s5, q1, q2, q3, q4, q5, hf, hc, hB, hC⟩ := blk_st5 b3 v0 v1 v2 v3 v4
  have hXW := Stp.far hS2 FY.now.lt hX.2
  obtain ⟨h1, h2⟩ := D.end_ hR (hS.trans hS2) (G := fun b => b = yb) ((Chg.of_below _ hb).then_ hC) (fun b e => by subst e; exact ⟨hX.1, hXW⟩)
  exact ⟨s1, s2, s3, s4, s5, ⟨h1, h2, (Chg.of_below _ hb).then_ hC⟩, q1, q2, q3, q4, q5, hf, hc, hB.cell 0, hB.cell 1, hB.cell 2, hB.cell 3, hB.cell 4⟩
/-- What a walk reads behind the store's load: the branch, the node's box. -/
theorem ld_mid {W w2 W3 : World} {X X2 : Nat → Prop} {bb : Nat} {n : Nd.N} {A1 A2 A3 A4 : Option Addr} {c1 c2 c3 c4 : Nat} {B5 : Array Value} (hS2 : Stp W X w2 X2) (FX : Fast X W fun u => Blk u bb 137 B5)
    (hf : NdF w2 w2.heap.size n A1 c1 A2 c2 A3 c3 A4 c4) (hW3 : w2.alloc (.cells #[.int .i64 n.h, .slice A1 n.ks.length c1, .slice A2 n.ps.length c2, .slice A3 n.gs.length c3, .slice A4 n.cs.length c4] 35) = W3) :
    Below w2.heap.size w2 W3 ∧ ∀ u, Below W3.heap.size W3 u → (Below w2.heap.size w2 u ∧ NdAt u u.heap.size (.agg #[.int .i64 n.h, .slice A1 n.ks.length c1, .slice A2 n.ps.length c2, .slice A3 n.gs.length c3, .slice A4 n.cs.length c4]) n ∧ SlC u u.heap.size A1 c1 n.ks.length (ivs n.ks)) ∧ (u.cell? ⟨bb, 3, none⟩ = B5[3]? ∧ u.cell? ⟨bb, 4, none⟩ = B5[4]? ∧ u.cell? ⟨bb, 5, none⟩ = B5[5]?) ∧ (u.cell? ⟨w2.heap.size, 0, none⟩ = some (.int .i64 n.h) ∧ u.cell? ⟨w2.heap.size, 1, none⟩ = some (.slice A1 n.ks.length c1) ∧ u.cell? ⟨w2.heap.size, 2, none⟩ = some (.slice A2 n.ps.length c2) ∧ u.cell? ⟨w2.heap.size, 3, none⟩ = some (.slice A3 n.gs.length c3) ∧ u.cell? ⟨w2.heap.size, 4, none⟩ = some (.slice A4 n.cs.length c4)) := by
  have hb : Below w2.heap.size w2 W3 := by rw [← hW3]; exact (Below.refl _ _).alloc (Nat.le_refl _) _
  have hB : Blk W3 w2.heap.size 35 #[.int .i64 n.h, .slice A1 n.ks.length c1, .slice A2 n.ps.length c2, .slice A3 n.gs.length c3, .slice A4 n.cs.length c4] := by rw [← hW3]; exact Blk.new _ _ _
  have b2 := (FX.step hS2).now
  refine ⟨hb, fun u hu => ?_⟩
  have hbu : Below w2.heap.size w2 u := hb.trans (hu.mono hb.size)
  have b4 := b2.keep (w' := u) (hbu.block _ b2.lt)
  have B4 := hB.keep (w' := u) (hu.block _ hB.lt)
  have hfu : NdF u u.heap.size n A1 c1 A2 c2 A3 c3 A4 c4 := (hf.below hbu).more hbu.size
  exact ⟨⟨hbu, ⟨_, _, _, _, _, _, _, _, rfl, hfu⟩, hfu.ks⟩, ⟨b4.cell 3, b4.cell 4, b4.cell 5⟩, B4.cell 0, B4.cell 1, B4.cell 2, B4.cell 3, B4.cell 4⟩
/-- A node that fits, and the ways in which it doesn't. -/
theorem fits_keys {b : Tr.Br} {n : Nd.N} (ok : Nd.Ok n) (hh : n.h = b.h) (h0 : 0 < n.ks.length → b.f ≤ Nd.at_ n.ks 0) (h1 : 0 < n.ks.length → Nd.at_ n.ks (n.ks.length - 1) < b.t) : Tr.FitsB b n := ⟨ok, hh, fun i hi => by
  have a := h0 (by omega)
  have c := h1 (by omega)
  have a' : Nd.at_ n.ks 0 ≤ Nd.at_ n.ks i := by
    rcases Nat.eq_zero_or_pos i with e | e
    · subst e; exact Int.le_refl _
    · have := Tr.ok_lt ok e hi; omega
  have c' : Nd.at_ n.ks i ≤ Nd.at_ n.ks (n.ks.length - 1) := by
    rcases Nat.lt_or_ge i (n.ks.length - 1) with e | e
    · have := Tr.ok_lt ok e (by omega); omega
    · rw [show i = n.ks.length - 1 by omega]; exact Int.le_refl _
  omega⟩
theorem ld_ndx {w W w2 s5 : World} {X X2 : Nat → Prop} {yb : Nat} {v : Value} {n : Nd.N} (hS : Stp w X W X) (hy : yb < W.heap.size) (hv : NdN W X2 w2 v n) (hc : Chg (fun b => b = yb) w2 s5) : NdN w X2 s5 v n := fun u k => hv u
  ⟨k.os.trans hc.os, k.tape.trans hc.tape, k.output.trans hc.output, Nat.le_trans hc.size k.size, fun i hi hX => (k.block i (Nat.lt_of_lt_of_le hi hc.size) fun h => hX (h.imp id fun h => Nat.lt_of_lt_of_le h hS.chg.size)).trans (hc.block i hi fun e => hX (.inr (e ▸ hy)))⟩
set_option maxRecDepth 8000 in
set_option maxHeartbeats 8000000 in
theorem load_any (hr : D.Rep w X st) (b : Tr.Br) (hkr : Tr.KR b.k) :
    Calls Try.prog 72 #[D.val, Tr.brV b] w (LoR D w X (Tr.load D.S st b).1 (Tr.load D.S st b).2) := by
  have HL := D.hL
  have EL := D.eL
  unfold StoI.val
  obtain ⟨W0, hW0⟩ : ∃ W, w.alloc (.cells #[.int .i64 b.k.1, .int .i64 b.k.2.1, .int .i64 b.k.2.2, .int .i64 b.h, .int .i64 b.f, .int .i64 b.t] 137) = W := ⟨_, rfl⟩
  obtain ⟨W, hW⟩ : ∃ W, W0.alloc (.cells #[.int .i64 0, .slice none 0 0, .slice none 0 0, .slice none 0 0, .slice none 0 0] 35) = W := ⟨_, rfl⟩
  have bx0 : Blk W0 w.heap.size 137 #[.int .i64 b.k.1, .int .i64 b.k.2.1, .int .i64 b.k.2.2, .int .i64 b.h, .int .i64 b.f, .int .i64 b.t] := by rw [← hW0]; exact Blk.new _ _ _
  have by_ : Blk W W0.heap.size 35 #[.int .i64 0, .slice none 0 0, .slice none 0 0, .slice none 0 0, .slice none 0 0] := by rw [← hW]; exact Blk.new _ _ _
  have hb0 : Below w.heap.size w W0 := by rw [← hW0]; exact (Below.refl _ _).alloc (Nat.le_refl _) _
  have hb1 : Below W0.heap.size W0 W := by rw [← hW]; exact (Below.refl _ _).alloc (Nat.le_refl _) _
  have bx := bx0.keep (w' := W) (hb1.block _ bx0.lt)
  have hR := D.below (D.below hr hb0) hb1
  have hS : Stp w X W X := (Stp.of_below X hb0).below hb1
  have hXx : ¬ X w.heap.size := fun h => Nat.lt_irrefl _ (D.lt hr h)
  have hXy : ¬ X W0.heap.size := fun h => Nat.lt_irrefl _ (D.lt (D.below hr hb0) h)
  have FX := Lib.hid (Fast.blk bx hXx)
  have FY := Lib.hid (Fast.blk by_ hXy)
  obtain ⟨bb, hbb⟩ : ∃ g, w.heap.size = g := ⟨_, rfl⟩
  obtain ⟨yb, hyb⟩ : ∃ g, W0.heap.size = g := ⟨_, rfl⟩
  rw [hbb] at FX bx hXx
  rw [hyb] at FY by_ hXy
  have Hne := Lib.hid (show bb ≠ yb from by have := bx0.lt; omega)
  have Hyb := Lib.hid (show w.heap.size ≤ yb ∧ ¬ X yb from ⟨by have := hb0.size; omega, hXy⟩)
  have x0 : W.cell? ⟨bb, 0, none⟩ = some (.int .i64 b.k.1) := bx.cell 0
  have x1 : W.cell? ⟨bb, 1, none⟩ = some (.int .i64 b.k.2.1) := bx.cell 1
  have x2 : W.cell? ⟨bb, 2, none⟩ = some (.int .i64 b.k.2.2) := bx.cell 2
  have HC : Calls Try.prog D.fL #[D.rL, .agg #[.int .i64 b.k.1, .int .i64 b.k.2.1, .int .i64 b.k.2.2]] W (LdR D W X (D.S.ld st b.k).1 (D.S.ld st b.k).2) := D.load hR b.k hkr
  have Herr : ∀ e, (D.S.ld st b.k).2 = .error e → e ≠ 0 := fun e h => D.err h
  unfold Tr.load
  rcases hld : D.S.ld st b.k with ⟨st1, er | n⟩
  · -- the store's own error
    rw [hld] at HC Herr
    have HSt := Lib.hid hS
    have Hr := Lib.hid hr
    clear bx by_ bx0 hb0 hb1 hR hS hXx hXy hr hld
    unfold Tr.brV
    dsimp only at HC Herr ⊢
    have z0 : ((er : Int) != 0) = true := by have := Herr er rfl; simpa using this
    clear Herr
    go_enter Try.func72, Try.ntmps72
    go_wp2_with ((with_reducible refine HC.mono ?_); rintro e w2 ⟨X2, hR2, hS2, v, c, rfl, rfl, hv⟩; obtain ⟨A1, c1, A2, c2, A3, c3, A4, c4, rfl, hf⟩ := hv.now; (obtain ⟨W3, hW3⟩ : ∃ W, w2.alloc (.cells #[.int .i64 Nd.zero.h, .slice A1 Nd.zero.ks.length c1, .slice A2 Nd.zero.ps.length c2, .slice A3 Nd.zero.gs.length c3, .slice A4 Nd.zero.cs.length c4] 35) = W := ⟨_, rfl⟩); (have hb3 : Below w2.heap.size w2 W3 := by rw [← hW3]; exact (Below.refl _ _).alloc (Nat.le_refl _) _); (obtain ⟨s1, s2, s3, s4, s5, HE, q1, q2, q3, q4, q5, ⟨f0, f1, f2, f3, f4⟩, ⟨u0, u1, u2, u3, u4⟩, g0, g1, g2, g3, g4⟩ := ld_end D hR2 hS2 HSt.out FY.out Hyb.out hb3 (.int .i64 0) (.slice none 0 0) (.slice none 0 0) (.slice none 0 0) (.slice none 0 0)); (have HE := Lib.hid HE); clear hf hv hR2 hS2)
    refine bodyPost_ret (v := .tuple #[.agg #[.int .i64 0, .slice none 0 0, .slice none 0 0, .slice none 0 0, .slice none 0 0], .int .i64 c]) ?_ rfl ⟨_, HE.out.1, HE.out.2.1, _, _, rfl, rfl, rfl⟩
    simp [results, Try.results72]
    go_simp
  · clear Herr
    dsimp only
    by_cases hok : Nd.Ok n
    · by_cases hh : n.h = b.h
      · by_cases h0 : n.ks.length = 0
        · -- no key
          rw [if_pos (fits_keys hok hh (fun h => by omega) (fun h => by omega))]
          rw [hld] at HC
          have HSt := Lib.hid hS
          have Hr := Lib.hid hr
          clear bx by_ bx0 hb0 hb1 hR hS hXx hXy hr hld
          unfold Tr.brV
          dsimp only at HC ⊢
          have HO := Lib.hid hok
          have z1 : ((n.h : Int) != b.h) = false := by simpa using hh
          have z2 : IntKind.i64.wrap ((n.ks.length : Int) - 1) = -1 := by rw [h0]; rfl
          have z3 : (n.ks.length : Int) - 1 = -1 := by rw [h0]; rfl
          have H0 := Lib.hid h0
          clear hok hh h0
          go_enter Try.func72, Try.ntmps72
          go_upto_region 7 with (first
            | (go_at_call 22; refine (may_any HV.out true ⟨fun _ => HO.out, fun _ => rfl⟩).mono ?_; rintro e w4 ⟨rfl, hb4⟩; (obtain ⟨⟨hb24, hn4, hk4⟩, ⟨p3, p4, p5⟩, r0, r1, r2, r3, r4⟩ := HM.out w4 hb4); (have HK := Lib.hid hk4); (have HB4 := Lib.hid hb24); (have HB34 := Lib.hid hb4); clear hn4 hb24 hk4 hb4; skip)
            | ((with_reducible refine HC.mono ?_); rintro e w2 ⟨X2, hR2, hS2, v, c, rfl, rfl, hv⟩; obtain ⟨A1, c1, A2, c2, A3, c3, A4, c4, rfl, hf⟩ := hv.now; (obtain ⟨W3, hW3⟩ : ∃ W, w2.alloc (.cells #[.int .i64 n.h, .slice A1 n.ks.length c1, .slice A2 n.ps.length c2, .slice A3 n.gs.length c3, .slice A4 n.cs.length c4] 35) = W := ⟨_, rfl⟩); (obtain ⟨hb3, hMid⟩ := ld_mid hS2 FX.out hf hW3); (have HM := Lib.hid hMid); (obtain ⟨⟨-, hn3, -⟩, -, y0, y1, y2, y3, y4⟩ := HM.out W3 (Below.refl _ _)); (have HV := Lib.hid hn3); (have HR2 := Lib.hid hR2); (have HS2 := Lib.hid hS2); (have HVn := Lib.hid hv); clear hf hv hR2 hS2 hn3 hMid hb3))
          go_region
          (obtain ⟨s1, s2, s3, s4, s5, HE, q1, q2, q3, q4, q5, ⟨f0, f1, f2, f3, f4⟩, ⟨u0, u1, u2, u3, u4⟩, g0, g1, g2, g3, g4⟩ := ld_end D HR2.out HS2.out HSt.out FY.out Hyb.out HB4.out.drew (.int .i64 n.h) (.slice A1 n.ks.length c1) (.slice A2 n.ps.length c2) (.slice A3 n.gs.length c3) (.slice A4 n.cs.length c4)); (have HE := Lib.hid HE)
          go_wp2_with fail
          refine bodyPost_ret (v := .tuple #[.agg #[.int .i64 n.h, .slice A1 n.ks.length c1, .slice A2 n.ps.length c2, .slice A3 n.gs.length c3, .slice A4 n.cs.length c4], .int .i64 0]) ?_ rfl ⟨_, HE.out.1, HE.out.2.1, _, _, rfl, rfl, ld_ndx HSt.out FY.out.now.lt HVn.out HE.out.2.2⟩
          simp [results, Try.results72]
          go_simp
        · -- keys
          have ha : 0 < n.ks.length := Nat.pos_of_ne_zero h0
          obtain ⟨q, hq⟩ : ∃ q, n.ks.length = q + 1 := ⟨n.ks.length - 1, by omega⟩
          have z2 : IntKind.i64.wrap ((n.ks.length : Int) - 1) = (q : Int) := by rw [IntKind.wrap_i64]; have := hok.few; omega
          have z3 : (n.ks.length : Int) - 1 = (q : Int) := by omega
          have z1 : ((n.h : Int) != b.h) = false := by simpa using hh
          have z4 : wrap64 (q : Int) = (q : Int) := by have := hok.few; simp only [wrap64]; omega
          have z5 : decide ((0 : Int) ≤ (q : Int)) = true := by rw [decide_eq_true_eq]; omega
          have hql : q < n.ks.length := by omega
          have hq0 : (q : Int) < n.ks.length := by omega
          have h0l : (0 : Int) < n.ks.length := by omega
          have Hq := Lib.hid hq
          obtain ⟨k0, hk0⟩ : ∃ k, k = Nd.at_ n.ks 0 := ⟨_, rfl⟩
          obtain ⟨kq, hkq⟩ : ∃ k, k = Nd.at_ n.ks q := ⟨_, rfl⟩
          have Hk0 := Lib.hid hk0
          have Hkq := Lib.hid hkq
          have HO := Lib.hid hok
          have HH := Lib.hid hh
          clear hq hok hh h0 hk0 hkq
          by_cases h1 : b.f ≤ k0
          · by_cases h2 : kq < b.t
            · -- it fits
              rw [if_pos (fits_keys HO.out HH.out (fun _ => by rw [← Hk0.out]; exact h1) (fun _ => by rw [Hq.out]; show Nd.at_ n.ks q < b.t; rw [← Hkq.out]; exact h2))]
              have t1 : decide (k0 < b.f) = false := by rw [decide_eq_false_iff_not]; omega
              have t2 : decide (b.t ≤ kq) = false := by rw [decide_eq_false_iff_not]; omega
              rw [hld] at HC
              have HSt := Lib.hid hS
              have Hr := Lib.hid hr
              clear bx by_ bx0 hb0 hb1 hR hS hXx hXy hr hld
              unfold Tr.brV
              dsimp only at HC ⊢
              go_enter Try.func72, Try.ntmps72
              go_upto_region 7 with (first
                | (go_at_call 22; refine (may_any HV.out true ⟨fun _ => HO.out, fun _ => rfl⟩).mono ?_; rintro e w4 ⟨rfl, hb4⟩; (obtain ⟨⟨hb24, hn4, hk4⟩, ⟨p3, p4, p5⟩, r0, r1, r2, r3, r4⟩ := HM.out w4 hb4); (have HK := Lib.hid hk4); (have HB4 := Lib.hid hb24); (have HB34 := Lib.hid hb4); clear hn4 hb24 hk4 hb4; skip)
                | ((with_reducible refine HC.mono ?_); rintro e w2 ⟨X2, hR2, hS2, v, c, rfl, rfl, hv⟩; obtain ⟨A1, c1, A2, c2, A3, c3, A4, c4, rfl, hf⟩ := hv.now; (obtain ⟨W3, hW3⟩ : ∃ W, w2.alloc (.cells #[.int .i64 n.h, .slice A1 n.ks.length c1, .slice A2 n.ps.length c2, .slice A3 n.gs.length c3, .slice A4 n.cs.length c4] 35) = W := ⟨_, rfl⟩); (obtain ⟨hb3, hMid⟩ := ld_mid hS2 FX.out hf hW3); (have HM := Lib.hid hMid); (obtain ⟨⟨-, hn3, -⟩, -, y0, y1, y2, y3, y4⟩ := HM.out W3 (Below.refl _ _)); (have HV := Lib.hid hn3); (have HR2 := Lib.hid hR2); (have HS2 := Lib.hid hS2); (have HVn := Lib.hid hv); clear hf hv hR2 hS2 hn3 hMid hb3))
              obtain ⟨kb, o, rfl, -, d0⟩ := HK.out.int (i := 0) ha
              obtain ⟨kb', o', he, -, d1⟩ := HK.out.int (i := q) hql
              obtain ⟨rfl, rfl⟩ : kb = kb' ∧ o = o' := by injection he with he; injection he with h1 h2; exact ⟨h1, h2⟩
              rw [← Hk0.out, Nat.add_zero] at d0
              rw [← Hkq.out] at d1
              clear he
              go_quiet (fail)
              have HB5 := Lib.hid (belowN HB4.out nq)
              have HB35 := Lib.hid (belowN HB34.out nq)
              generalize w4.drewN nq = w5 at HB5 HB35 ⊢
              obtain ⟨-, -, e0, e1, e2, e3, e4⟩ := HM.out w5 HB35.out
              (obtain ⟨s1, s2, s3, s4, s5, HE, q1, q2, q3, q4, q5, ⟨f0, f1, f2, f3, f4⟩, ⟨u0, u1, u2, u3, u4⟩, g0, g1, g2, g3, g4⟩ := ld_end D HR2.out HS2.out HSt.out FY.out Hyb.out HB5.out (.int .i64 n.h) (.slice (some ⟨kb, o, none⟩) n.ks.length c1) (.slice A2 n.ps.length c2) (.slice A3 n.gs.length c3) (.slice A4 n.cs.length c4)); (have HE := Lib.hid HE)
              go_wp2_with fail
              refine bodyPost_ret (v := .tuple #[.agg #[.int .i64 n.h, .slice (some ⟨kb, o, none⟩) n.ks.length c1, .slice A2 n.ps.length c2, .slice A3 n.gs.length c3, .slice A4 n.cs.length c4], .int .i64 0]) ?_ rfl ⟨_, HE.out.1, HE.out.2.1, _, _, rfl, rfl, ld_ndx HSt.out FY.out.now.lt HVn.out HE.out.2.2⟩
              simp [results, Try.results72]
              go_simp
            · -- a key behind
              rw [if_neg (fun h => h2 (by rw [Hkq.out]; exact (h.2.2 q hql).2))]
              have t1 : decide (k0 < b.f) = false := by rw [decide_eq_false_iff_not]; omega
              have t2 : decide (b.t ≤ kq) = true := by rw [decide_eq_true_eq]; omega
              rw [hld] at HC
              have HSt := Lib.hid hS
              have Hr := Lib.hid hr
              clear bx by_ bx0 hb0 hb1 hR hS hXx hXy hr hld
              unfold Tr.brV
              dsimp only at HC ⊢
              go_enter Try.func72, Try.ntmps72
              go_upto_region 7 with (first
                | (go_at_call 22; refine (may_any HV.out true ⟨fun _ => HO.out, fun _ => rfl⟩).mono ?_; rintro e w4 ⟨rfl, hb4⟩; (obtain ⟨⟨hb24, hn4, hk4⟩, ⟨p3, p4, p5⟩, r0, r1, r2, r3, r4⟩ := HM.out w4 hb4); (have HK := Lib.hid hk4); (have HB4 := Lib.hid hb24); (have HB34 := Lib.hid hb4); clear hn4 hb24 hk4 hb4; skip)
                | ((with_reducible refine HC.mono ?_); rintro e w2 ⟨X2, hR2, hS2, v, c, rfl, rfl, hv⟩; obtain ⟨A1, c1, A2, c2, A3, c3, A4, c4, rfl, hf⟩ := hv.now; (obtain ⟨W3, hW3⟩ : ∃ W, w2.alloc (.cells #[.int .i64 n.h, .slice A1 n.ks.length c1, .slice A2 n.ps.length c2, .slice A3 n.gs.length c3, .slice A4 n.cs.length c4] 35) = W := ⟨_, rfl⟩); (obtain ⟨hb3, hMid⟩ := ld_mid hS2 FX.out hf hW3); (have HM := Lib.hid hMid); (obtain ⟨⟨-, hn3, -⟩, -, y0, y1, y2, y3, y4⟩ := HM.out W3 (Below.refl _ _)); (have HV := Lib.hid hn3); (have HR2 := Lib.hid hR2); (have HS2 := Lib.hid hS2); (have HVn := Lib.hid hv); clear hf hv hR2 hS2 hn3 hMid hb3))
              obtain ⟨kb, o, rfl, -, d0⟩ := HK.out.int (i := 0) ha
              obtain ⟨kb', o', he, -, d1⟩ := HK.out.int (i := q) hql
              obtain ⟨rfl, rfl⟩ : kb = kb' ∧ o = o' := by injection he with he; injection he with h1 h2; exact ⟨h1, h2⟩
              rw [← Hk0.out, Nat.add_zero] at d0
              rw [← Hkq.out] at d1
              clear he
              go_quiet (fail)
              have HB5 := Lib.hid (belowN HB4.out nq)
              have HB35 := Lib.hid (belowN HB34.out nq)
              generalize w4.drewN nq = w5 at HB5 HB35 ⊢
              clear HB35
              (obtain ⟨s1, s2, s3, s4, s5, HE, q1, q2, q3, q4, q5, ⟨f0, f1, f2, f3, f4⟩, ⟨u0, u1, u2, u3, u4⟩, g0, g1, g2, g3, g4⟩ := ld_end D HR2.out HS2.out HSt.out FY.out Hyb.out HB5.out (.int .i64 0) (.slice none 0 0) (.slice none 0 0) (.slice none 0 0) (.slice none 0 0)); (have HE := Lib.hid HE)
              go_wp2_with fail
              refine bodyPost_ret (v := .tuple #[.agg #[.int .i64 0, .slice none 0 0, .slice none 0 0, .slice none 0 0, .slice none 0 0], .int .i64 4]) ?_ rfl ⟨_, HE.out.1, HE.out.2.1, _, _, rfl, rfl, rfl⟩
              simp [results, Try.results72]
              go_simp
          · -- a key ahead
            rw [if_neg (fun h => h1 (by rw [Hk0.out]; exact (h.2.2 0 ha).1))]
            have t1 : decide (k0 < b.f) = true := by rw [decide_eq_true_eq]; omega
            rw [hld] at HC
            have HSt := Lib.hid hS
            have Hr := Lib.hid hr
            clear bx by_ bx0 hb0 hb1 hR hS hXx hXy hr hld
            unfold Tr.brV
            dsimp only at HC ⊢
            go_enter Try.func72, Try.ntmps72
            go_upto_region 7 with (first
              | (go_at_call 22; refine (may_any HV.out true ⟨fun _ => HO.out, fun _ => rfl⟩).mono ?_; rintro e w4 ⟨rfl, hb4⟩; (obtain ⟨⟨hb24, hn4, hk4⟩, ⟨p3, p4, p5⟩, r0, r1, r2, r3, r4⟩ := HM.out w4 hb4); (have HK := Lib.hid hk4); (have HB4 := Lib.hid hb24); (have HB34 := Lib.hid hb4); clear hn4 hb24 hk4 hb4; skip)
              | ((with_reducible refine HC.mono ?_); rintro e w2 ⟨X2, hR2, hS2, v, c, rfl, rfl, hv⟩; obtain ⟨A1, c1, A2, c2, A3, c3, A4, c4, rfl, hf⟩ := hv.now; (obtain ⟨W3, hW3⟩ : ∃ W, w2.alloc (.cells #[.int .i64 n.h, .slice A1 n.ks.length c1, .slice A2 n.ps.length c2, .slice A3 n.gs.length c3, .slice A4 n.cs.length c4] 35) = W := ⟨_, rfl⟩); (obtain ⟨hb3, hMid⟩ := ld_mid hS2 FX.out hf hW3); (have HM := Lib.hid hMid); (obtain ⟨⟨-, hn3, -⟩, -, y0, y1, y2, y3, y4⟩ := HM.out W3 (Below.refl _ _)); (have HV := Lib.hid hn3); (have HR2 := Lib.hid hR2); (have HS2 := Lib.hid hS2); (have HVn := Lib.hid hv); clear hf hv hR2 hS2 hn3 hMid hb3))
            obtain ⟨kb, o, rfl, -, d0⟩ := HK.out.int (i := 0) ha
            obtain ⟨kb', o', he, -, d1⟩ := HK.out.int (i := q) hql
            obtain ⟨rfl, rfl⟩ : kb = kb' ∧ o = o' := by injection he with he; injection he with h1 h2; exact ⟨h1, h2⟩
            rw [← Hk0.out, Nat.add_zero] at d0
            rw [← Hkq.out] at d1
            clear he
            go_quiet (fail)
            have HB5 := Lib.hid (belowN HB4.out nq)
            have HB35 := Lib.hid (belowN HB34.out nq)
            generalize w4.drewN nq = w5 at HB5 HB35 ⊢
            clear HB35
            (obtain ⟨s1, s2, s3, s4, s5, HE, q1, q2, q3, q4, q5, ⟨f0, f1, f2, f3, f4⟩, ⟨u0, u1, u2, u3, u4⟩, g0, g1, g2, g3, g4⟩ := ld_end D HR2.out HS2.out HSt.out FY.out Hyb.out HB5.out (.int .i64 0) (.slice none 0 0) (.slice none 0 0) (.slice none 0 0) (.slice none 0 0)); (have HE := Lib.hid HE)
            go_wp2_with fail
            refine bodyPost_ret (v := .tuple #[.agg #[.int .i64 0, .slice none 0 0, .slice none 0 0, .slice none 0 0, .slice none 0 0], .int .i64 4]) ?_ rfl ⟨_, HE.out.1, HE.out.2.1, _, _, rfl, rfl, rfl⟩
            simp [results, Try.results72]
            go_simp
      · -- another height
        rw [if_neg (fun h => hh h.2.1)]
        rw [hld] at HC
        have HSt := Lib.hid hS
        have Hr := Lib.hid hr
        clear bx by_ bx0 hb0 hb1 hR hS hXx hXy hr hld
        unfold Tr.brV
        dsimp only at HC ⊢
        have HO := Lib.hid hok
        have z1 : ((n.h : Int) != b.h) = true := by simpa using hh
        clear hok hh
        go_enter Try.func72, Try.ntmps72
        go_wp2_with (first
          | (go_at_call 22; refine (may_any HV.out true ⟨fun _ => HO.out, fun _ => rfl⟩).mono ?_; rintro e w4 ⟨rfl, hb4⟩; (obtain ⟨⟨hb24, hn4, hk4⟩, ⟨p3, p4, p5⟩, r0, r1, r2, r3, r4⟩ := HM.out w4 hb4); (have HK := Lib.hid hk4); (have HB4 := Lib.hid hb24); (have HB34 := Lib.hid hb4); clear hn4 hb24 hk4 hb4; (obtain ⟨s1, s2, s3, s4, s5, HE, q1, q2, q3, q4, q5, ⟨f0, f1, f2, f3, f4⟩, ⟨u0, u1, u2, u3, u4⟩, g0, g1, g2, g3, g4⟩ := ld_end D HR2.out HS2.out HSt.out FY.out Hyb.out HB4.out (.int .i64 0) (.slice none 0 0) (.slice none 0 0) (.slice none 0 0) (.slice none 0 0)); (have HE := Lib.hid HE))
          | ((with_reducible refine HC.mono ?_); rintro e w2 ⟨X2, hR2, hS2, v, c, rfl, rfl, hv⟩; obtain ⟨A1, c1, A2, c2, A3, c3, A4, c4, rfl, hf⟩ := hv.now; (obtain ⟨W3, hW3⟩ : ∃ W, w2.alloc (.cells #[.int .i64 n.h, .slice A1 n.ks.length c1, .slice A2 n.ps.length c2, .slice A3 n.gs.length c3, .slice A4 n.cs.length c4] 35) = W := ⟨_, rfl⟩); (obtain ⟨hb3, hMid⟩ := ld_mid hS2 FX.out hf hW3); (have HM := Lib.hid hMid); (obtain ⟨⟨-, hn3, -⟩, -, y0, y1, y2, y3, y4⟩ := HM.out W3 (Below.refl _ _)); (have HV := Lib.hid hn3); (have HR2 := Lib.hid hR2); (have HS2 := Lib.hid hS2); (have HVn := Lib.hid hv); clear hf hv hR2 hS2 hn3 hMid hb3))
        refine bodyPost_ret (v := .tuple #[.agg #[.int .i64 0, .slice none 0 0, .slice none 0 0, .slice none 0 0, .slice none 0 0], .int .i64 4]) ?_ rfl ⟨_, HE.out.1, HE.out.2.1, _, _, rfl, rfl, rfl⟩
        simp [results, Try.results72]
        go_simp
    · rw [if_neg (fun h => hok h.1)]
      rw [hld] at HC
      have HSt := Lib.hid hS
      have Hr := Lib.hid hr
      clear bx by_ bx0 hb0 hb1 hR hS hXx hXy hr hld
      unfold Tr.brV
      dsimp only at HC ⊢
      have HO := Lib.hid hok
      clear hok
      go_enter Try.func72, Try.ntmps72
      go_wp2_with (first
        | (go_at_call 22; refine (may_any HV.out false ⟨fun h => absurd h (by decide), fun h => absurd h HO.out⟩).mono ?_; rintro e w4 ⟨rfl, hb4⟩; (obtain ⟨⟨hb24, hn4, hk4⟩, ⟨p3, p4, p5⟩, r0, r1, r2, r3, r4⟩ := HM.out w4 hb4); (have HK := Lib.hid hk4); (have HB4 := Lib.hid hb24); (have HB34 := Lib.hid hb4); clear hn4 hb24 hk4 hb4; (obtain ⟨s1, s2, s3, s4, s5, HE, q1, q2, q3, q4, q5, ⟨f0, f1, f2, f3, f4⟩, ⟨u0, u1, u2, u3, u4⟩, g0, g1, g2, g3, g4⟩ := ld_end D HR2.out HS2.out HSt.out FY.out Hyb.out HB4.out (.int .i64 0) (.slice none 0 0) (.slice none 0 0) (.slice none 0 0) (.slice none 0 0)); (have HE := Lib.hid HE))
        | ((with_reducible refine HC.mono ?_); rintro e w2 ⟨X2, hR2, hS2, v, c, rfl, rfl, hv⟩; obtain ⟨A1, c1, A2, c2, A3, c3, A4, c4, rfl, hf⟩ := hv.now; (obtain ⟨W3, hW3⟩ : ∃ W, w2.alloc (.cells #[.int .i64 n.h, .slice A1 n.ks.length c1, .slice A2 n.ps.length c2, .slice A3 n.gs.length c3, .slice A4 n.cs.length c4] 35) = W := ⟨_, rfl⟩); (obtain ⟨hb3, hMid⟩ := ld_mid hS2 FX.out hf hW3); (have HM := Lib.hid hMid); (obtain ⟨⟨-, hn3, -⟩, -, y0, y1, y2, y3, y4⟩ := HM.out W3 (Below.refl _ _)); (have HV := Lib.hid hn3); (have HR2 := Lib.hid hR2); (have HS2 := Lib.hid hS2); (have HVn := Lib.hid hv); clear hf hv hR2 hS2 hn3 hMid hb3))
      refine bodyPost_ret (v := .tuple #[.agg #[.int .i64 0, .slice none 0 0, .slice none 0 0, .slice none 0 0, .slice none 0 0], .int .i64 4]) ?_ rfl ⟨_, HE.out.1, HE.out.2.1, _, _, rfl, rfl, rfl⟩
      simp [results, Try.results72]
      go_simp
end
end Go.Proofs.Ytlcchefiicalpaa
