/- The document's PlaceMay and Find; the statements' Few. -/
import Derived.Test.YtlcchefiicalpaaNdm
import Derived.Handy
namespace Go.Proofs.Ytlcchefiicalpaa
open Go.RowKit


set_option maxHeartbeats 4000000 in
theorem rplace_any (a n s g : Int) (w : World) : Calls Try.prog 57 #[.agg #[.int .i64 a, .int .i64 n, .int .i64 s], .int .i64 g] w fun e w' => e = .returned (.bool (decide (Nd.PlaceOk (a, n, s) g))) ∧ Below w.heap.size w w' := by
  obtain ⟨b, hb⟩ : ∃ b, w.heap.size = b := ⟨_, rfl⟩
  obtain ⟨W, hW⟩ : ∃ W, w.alloc (.cells #[.int .i64 a, .int .i64 n, .int .i64 s] 54) = W := ⟨_, rfl⟩
  have bx : Blk W b 54 #[.int .i64 a, .int .i64 n, .int .i64 s] := by rw [← hW, ← hb]; exact Blk.new _ _ _
  have x0 : W.cell? ⟨b, 0, none⟩ = some (.int .i64 a) := bx.cell 0
  have x1 : W.cell? ⟨b, 1, none⟩ = some (.int .i64 n) := bx.cell 1
  have x2 : W.cell? ⟨b, 2, none⟩ = some (.int .i64 s) := bx.cell 2
  have HB := Lib.hid (show Below b w W by rw [← hW, ← hb]; exact (Below.refl _ _).alloc (Nat.le_refl _) _)
  have N1 := Lib.hid (rrun_any a n W)
  have N2 := Lib.hid (rgen_any g W)
  obtain ⟨R, hR⟩ : ∃ R, R = decide (Nd.PlaceOk (a, n, s) g) := ⟨_, rfl⟩
  rw [hb, ← hR]
  clear bx
  by_cases h0 : Nd.RunOk a n
  case neg =>
    have E : R = false := by rw [hR, decide_eq_false_iff_not]; exact fun h => h0 h.1
    rw [decide_eq_false h0] at N1
    clear hR h0
    go_enter Try.func57, Try.ntmps57
    go_wp2_with (first | (refine N1.out.mono ?_; rintro e w2 ⟨rfl, h2⟩; subst h2) | (refine N2.out.mono ?_; rintro e w2 ⟨rfl, h2⟩; subst h2))
    go_ret
    exact ⟨by rw [E]; rfl, HB.out⟩
  by_cases h1 : 0 ≤ s
  case neg =>
    have E : R = false := by rw [hR, decide_eq_false_iff_not]; exact fun h => h1 h.2.1
    rw [decide_eq_true h0] at N1
    have z1 : decide ((0 : Int) ≤ s) = false := by rw [decide_eq_false_iff_not]; exact h1
    clear hR h0 h1
    go_enter Try.func57, Try.ntmps57
    go_wp2_with (first | (refine N1.out.mono ?_; rintro e w2 ⟨rfl, h2⟩; subst h2) | (refine N2.out.mono ?_; rintro e w2 ⟨rfl, h2⟩; subst h2))
    go_ret
    exact ⟨by rw [E]; rfl, HB.out⟩
  by_cases h2 : s < 8
  case neg =>
    have E : R = false := by rw [hR, decide_eq_false_iff_not]; exact fun h => h2 h.2.2.1
    rw [decide_eq_true h0] at N1
    have z1 : decide ((0 : Int) ≤ s) = true := by rw [decide_eq_true_eq]; exact h1
    have z2 : decide (s < 8) = false := by rw [decide_eq_false_iff_not]; exact h2
    clear hR h0 h1 h2
    go_enter Try.func57, Try.ntmps57
    go_wp2_with (first | (refine N1.out.mono ?_; rintro e w2 ⟨rfl, h2⟩; subst h2) | (refine N2.out.mono ?_; rintro e w2 ⟨rfl, h2⟩; subst h2))
    go_ret
    exact ⟨by rw [E]; rfl, HB.out⟩
  by_cases h3 : Nd.GenOk g
  case neg =>
    have E : R = false := by rw [hR, decide_eq_false_iff_not]; exact fun h => h3 h.2.2.2
    rw [decide_eq_true h0] at N1
    have z1 : decide ((0 : Int) ≤ s) = true := by rw [decide_eq_true_eq]; exact h1
    have z2 : decide (s < 8) = true := by rw [decide_eq_true_eq]; exact h2
    rw [decide_eq_false h3] at N2
    clear hR h0 h1 h2 h3
    go_enter Try.func57, Try.ntmps57
    go_wp2_with (first | (refine N1.out.mono ?_; rintro e w2 ⟨rfl, h2⟩; subst h2) | (refine N2.out.mono ?_; rintro e w2 ⟨rfl, h2⟩; subst h2))
    go_ret
    exact ⟨by rw [E]; rfl, HB.out⟩
  have E : R = true := by rw [hR, decide_eq_true_eq]; exact ⟨h0, h1, h2, h3⟩
  rw [decide_eq_true h0] at N1
  rw [decide_eq_true h3] at N2
  have z1 : decide ((0 : Int) ≤ s) = true := by rw [decide_eq_true_eq]; exact h1
  have z2 : decide (s < 8) = true := by rw [decide_eq_true_eq]; exact h2
  clear hR h0 h1 h2 h3
  go_enter Try.func57, Try.ntmps57
  go_wp2_with (first | (refine N1.out.mono ?_; rintro e w2 ⟨rfl, h2⟩; subst h2) | (refine N2.out.mono ?_; rintro e w2 ⟨rfl, h2⟩; subst h2))
  go_ret
  exact ⟨by rw [E]; rfl, HB.out⟩

/-- A node put into a block of its own. -/
theorem nd_box {w W : World} {n : Nd.N} {A1 A2 A3 A4 : Option Addr} {c1 c2 c3 c4 : Nat} {t : TypeId} (hW : w.alloc (.cells #[.int .i64 n.h, .slice A1 n.ks.length c1, .slice A2 n.ps.length c2, .slice A3 n.gs.length c3, .slice A4 n.cs.length c4] t) = W) :
    Blk W w.heap.size t #[.int .i64 n.h, .slice A1 n.ks.length c1, .slice A2 n.ps.length c2, .slice A3 n.gs.length c3, .slice A4 n.cs.length c4] ∧ Below w.heap.size w W := by
  rw [← hW]
  exact ⟨Blk.new _ _ _, (Below.refl _ _).alloc (Nat.le_refl _) _⟩
def FewOk (n : Nd.N) : Prop := n.ks.length ≤ 40 ∧ n.ps.length ≤ 40 ∧ n.gs.length ≤ 40 ∧ n.cs.length ≤ 40
instance (n : Nd.N) : Decidable (FewOk n) := by unfold FewOk; infer_instance
set_option maxHeartbeats 4000000 in
theorem few_any {w : World} {B : Nat} {v : Value} {n : Nd.N} (h : NdAt w B v n) : Calls Try.prog 18 #[v] w fun e w' => e = .returned (.bool (decide (FewOk n))) ∧ Below w.heap.size w w' := by
  obtain ⟨A1, c1, A2, c2, A3, c3, A4, c4, rfl, -⟩ := h
  obtain ⟨W, hW⟩ : ∃ W, w.alloc (.cells #[.int .i64 n.h, .slice A1 n.ks.length c1, .slice A2 n.ps.length c2, .slice A3 n.gs.length c3, .slice A4 n.cs.length c4] 26) = W := ⟨_, rfl⟩
  obtain ⟨bx, hbl⟩ := nd_box hW
  obtain ⟨R, hR⟩ : ∃ R, R = decide (FewOk n) := ⟨_, rfl⟩
  rw [← hR]
  have hT : R = true ↔ (n.ks.length ≤ 40 ∧ n.ps.length ≤ 40 ∧ n.gs.length ≤ 40 ∧ n.cs.length ≤ 40) := by rw [hR, decide_eq_true_eq]; exact Iff.rfl
  clear hR
  have HB := Lib.hid hbl
  generalize n.ks.length = k1 at *
  generalize n.ps.length = k2 at *
  generalize n.gs.length = k3 at *
  generalize n.cs.length = k4 at *
  generalize n.h = k0 at *
  obtain ⟨b, hb⟩ : ∃ b, w.heap.size = b := ⟨_, rfl⟩
  rw [hb] at bx HB ⊢
  have x1 : W.cell? ⟨b, 1, none⟩ = some (.slice A1 k1 c1) := bx.cell 1
  have x2 : W.cell? ⟨b, 2, none⟩ = some (.slice A2 k2 c2) := bx.cell 2
  have x3 : W.cell? ⟨b, 3, none⟩ = some (.slice A3 k3 c3) := bx.cell 3
  have x4 : W.cell? ⟨b, 4, none⟩ = some (.slice A4 k4 c4) := bx.cell 4
  clear bx hbl
  by_cases h1 : k1 ≤ 40
  case neg =>
    have E : R = false := by cases hRR : R with | false => rfl | true => exact absurd (hT.1 hRR) (by omega)
    have z1 : decide ((k1 : Int) ≤ 40) = false := by rw [decide_eq_false_iff_not]; omega
    have y1 : decide (k1 ≤ 40) = false := by rw [decide_eq_false_iff_not]; omega
    clear hT h1
    go_enter Try.func18, Try.ntmps18
    go_wp2_with fail
    go_ret
    exact ⟨by rw [E]; rfl, HB.out⟩
  by_cases h2 : k2 ≤ 40
  case neg =>
    have E : R = false := by cases hRR : R with | false => rfl | true => exact absurd (hT.1 hRR) (by omega)
    have z1 : decide ((k1 : Int) ≤ 40) = true := by rw [decide_eq_true_eq]; omega
    have y1 : decide (k1 ≤ 40) = true := by rw [decide_eq_true_eq]; omega
    have z2 : decide ((k2 : Int) ≤ 40) = false := by rw [decide_eq_false_iff_not]; omega
    have y2 : decide (k2 ≤ 40) = false := by rw [decide_eq_false_iff_not]; omega
    clear hT h1 h2
    go_enter Try.func18, Try.ntmps18
    go_wp2_with fail
    go_ret
    exact ⟨by rw [E]; rfl, HB.out⟩
  by_cases h3 : k3 ≤ 40
  case neg =>
    have E : R = false := by cases hRR : R with | false => rfl | true => exact absurd (hT.1 hRR) (by omega)
    have z1 : decide ((k1 : Int) ≤ 40) = true := by rw [decide_eq_true_eq]; omega
    have y1 : decide (k1 ≤ 40) = true := by rw [decide_eq_true_eq]; omega
    have z2 : decide ((k2 : Int) ≤ 40) = true := by rw [decide_eq_true_eq]; omega
    have y2 : decide (k2 ≤ 40) = true := by rw [decide_eq_true_eq]; omega
    have z3 : decide ((k3 : Int) ≤ 40) = false := by rw [decide_eq_false_iff_not]; omega
    have y3 : decide (k3 ≤ 40) = false := by rw [decide_eq_false_iff_not]; omega
    clear hT h1 h2 h3
    go_enter Try.func18, Try.ntmps18
    go_wp2_with fail
    go_ret
    exact ⟨by rw [E]; rfl, HB.out⟩
  by_cases h4 : k4 ≤ 40
  case neg =>
    have E : R = false := by cases hRR : R with | false => rfl | true => exact absurd (hT.1 hRR) (by omega)
    have z1 : decide ((k1 : Int) ≤ 40) = true := by rw [decide_eq_true_eq]; omega
    have y1 : decide (k1 ≤ 40) = true := by rw [decide_eq_true_eq]; omega
    have z2 : decide ((k2 : Int) ≤ 40) = true := by rw [decide_eq_true_eq]; omega
    have y2 : decide (k2 ≤ 40) = true := by rw [decide_eq_true_eq]; omega
    have z3 : decide ((k3 : Int) ≤ 40) = true := by rw [decide_eq_true_eq]; omega
    have y3 : decide (k3 ≤ 40) = true := by rw [decide_eq_true_eq]; omega
    have z4 : decide ((k4 : Int) ≤ 40) = false := by rw [decide_eq_false_iff_not]; omega
    have y4 : decide (k4 ≤ 40) = false := by rw [decide_eq_false_iff_not]; omega
    clear hT h1 h2 h3 h4
    go_enter Try.func18, Try.ntmps18
    go_wp2_with fail
    go_ret
    exact ⟨by rw [E]; rfl, HB.out⟩
  have E : R = true := hT.2 (by omega)
  have z1 : decide ((k1 : Int) ≤ 40) = true := by rw [decide_eq_true_eq]; omega
  have y1 : decide (k1 ≤ 40) = true := by rw [decide_eq_true_eq]; omega
  have z2 : decide ((k2 : Int) ≤ 40) = true := by rw [decide_eq_true_eq]; omega
  have y2 : decide (k2 ≤ 40) = true := by rw [decide_eq_true_eq]; omega
  have z3 : decide ((k3 : Int) ≤ 40) = true := by rw [decide_eq_true_eq]; omega
  have y3 : decide (k3 ≤ 40) = true := by rw [decide_eq_true_eq]; omega
  have z4 : decide ((k4 : Int) ≤ 40) = true := by rw [decide_eq_true_eq]; omega
  have y4 : decide (k4 ≤ 40) = true := by rw [decide_eq_true_eq]; omega
  clear hT h1 h2 h3 h4
  go_enter Try.func18, Try.ntmps18
  go_wp2_with fail
  go_ret
  exact ⟨by rw [E]; rfl, HB.out⟩

/-- The last of the first k keys that is not greater. -/
def Nd.last (ks : List Int) (key : Int) : Nat → Option Nat
  | 0 => none
  | k + 1 => if Nd.at_ ks k ≤ key then some k else Nd.last ks key k
def Nd.lastI (ks : List Int) (key : Int) (k : Nat) : Int := match Nd.last ks key k with | none => -1 | some i => (i : Int)
theorem Nd.last_lt {ks : List Int} {key : Int} : ∀ {k i : Nat}, Nd.last ks key k = some i → i < k
  | 0, i, h => by cases h
  | k + 1, i, h => by
    rw [Nd.last] at h
    split at h
    · injection h with h; omega
    · have := Nd.last_lt h; omega
theorem Nd.lastI_next (ks : List Int) (key : Int) (k : Nat) : Nd.lastI ks key (k + 1) = if Nd.at_ ks k ≤ key then (k : Int) else Nd.lastI ks key k := by
  unfold Nd.lastI
  rw [Nd.last]
  by_cases h : Nd.at_ ks k ≤ key
  · rw [if_pos h, if_pos h]
  · rw [if_neg h, if_neg h]
/-- What Find answers. -/
def Nd.find (ks : List Int) (key : Int) : Nat × Bool := match Nd.last ks key ks.length with | none => (0, false) | some i => (i, decide (Nd.at_ ks i = key))
set_option maxRecDepth 4000 in
set_option maxHeartbeats 8000000 in
theorem rfind_any {w : World} {v : Value} {n : Nd.N} (h : NdAt w w.heap.size v n) (key : Int) (hl : n.ks.length ≤ 1000) : Calls Try.prog 29 #[v, .int .i64 key] w fun e w' => e = .returned (.tuple #[.int .i64 ((Nd.find n.ks key).1 : Int), .bool (Nd.find n.ks key).2]) ∧ Below w.heap.size w w' := by
  obtain ⟨A1, c1, A2, c2, A3, c3, A4, c4, rfl, hf⟩ := h
  obtain ⟨W, hW⟩ : ∃ W, w.alloc (.cells #[.int .i64 n.h, .slice A1 n.ks.length c1, .slice A2 n.ps.length c2, .slice A3 n.gs.length c3, .slice A4 n.cs.length c4] 26) = W := ⟨_, rfl⟩
  obtain ⟨bx, hbl⟩ := nd_box hW
  have HF := Lib.hid (hf.ks.below hbl)
  have HB := Lib.hid hbl
  obtain ⟨R, hR⟩ : ∃ R, R = Nd.find n.ks key := ⟨_, rfl⟩
  rw [← hR]
  have HR := Lib.hid hR
  clear hf hR hbl
  obtain ⟨ks, hks⟩ : ∃ ks, ks = n.ks := ⟨_, rfl⟩
  rw [← hks] at HF HR bx hl hW ⊢
  obtain ⟨q, hq⟩ : ∃ q, q = ks.length := ⟨_, rfl⟩
  have Hq := Lib.hid hq
  rw [← hq] at HF bx hl hW ⊢
  generalize n.ps.length = k2 at *
  generalize n.gs.length = k3 at *
  generalize n.cs.length = k4 at *
  generalize n.h = k0 at *
  obtain ⟨b, hb⟩ : ∃ b, w.heap.size = b := ⟨_, rfl⟩
  rw [hb] at bx HB HF ⊢
  have x1 : W.cell? ⟨b, 1, none⟩ = some (.slice A1 q c1) := bx.cell 1
  clear bx hks hq
  go_enter Try.func29, Try.ntmps29
  go_wp2_with fail
  go_loopw [6, 7] (fun v6 v7 wr => ∃ i : Nat, v7 = .int .i64 (i : Int) ∧ i ≤ q ∧ v6 = .int .i64 (Nd.lastI ks key i) ∧ wr = W) (fun _ v7 _ => q - (intOf v7).toNat)
  case atStart => exact ⟨0, rfl, Nat.zero_le _, rfl, rfl⟩
  case round =>
    obtain ⟨i, rfl, hi, rfl, rfl⟩ := hrel
    by_cases hiq : i < q
    · have z0 : decide ((i : Int) < (q : Int)) = true := by rw [decide_eq_true_eq]; omega
      have z0' : decide (i < q) = true := by rw [decide_eq_true_eq]; exact hiq
      have hqi : (i : Int) < (q : Int) := by omega
      obtain ⟨g, o, rfl, -, hc⟩ := HF.out.int (i := i) (by rw [← Hq.out]; exact hiq)
      have Nx := Lib.hid (Nd.lastI_next ks key i)
      by_cases hk : Nd.at_ ks i ≤ key
      · rw [if_pos hk] at Nx
        have z1 : decide (Nd.at_ ks i ≤ key) = true := by rw [decide_eq_true_eq]; exact hk
        clear hk
        generalize Nd.at_ ks i = x at *
        go_wp2_with fail
        go_roundw
        case rel => exact ⟨i + 1, by go_num, by omega, by rw [Nx.out], by trivial⟩
        case measure => simp [intOf]; omega
      · rw [if_neg hk] at Nx
        have z1 : decide (Nd.at_ ks i ≤ key) = false := by rw [decide_eq_false_iff_not]; exact hk
        clear hk
        generalize Nd.at_ ks i = x at *
        go_wp2_with fail
        go_roundw
        case rel => exact ⟨i + 1, by go_num, by omega, by rw [Nx.out], by trivial⟩
        case measure => simp [intOf]; omega
    · have hiq' : i = q := by omega
      subst hiq'
      have z0 : decide ((i : Int) < (i : Int)) = false := by simp
      have z0' : decide (i < i) = false := by simp
      have hF : R = match Nd.last ks key i with | none => (0, false) | some i => (i, decide (Nd.at_ ks i = key)) := by rw [HR.out]; unfold Nd.find; rw [← Hq.out]
      have hI : Nd.lastI ks key i = match Nd.last ks key i with | none => -1 | some i => (i : Int) := rfl
      cases hl : Nd.last ks key i with
      | none =>
        rw [hl] at hF hI
        have Fin := Lib.hid hF
        rw [hI]
        clear hF hI hl
        go_wp2_with fail
        go_returns
        exact ⟨by rw [Fin.out]; rfl, HB.out⟩
      | some j =>
        rw [hl] at hF hI
        have hj := Nd.last_lt hl
        rw [hI]
        obtain ⟨g, o, rfl, -, hc⟩ := HF.out.int (i := j) (by rw [← Hq.out]; exact hj)
        have z2 : decide ((j : Int) < 0) = false := by rw [decide_eq_false_iff_not]; omega
        have hji : (j : Int) < (i : Int) := by omega
        obtain ⟨is, his⟩ : ∃ is, is = decide (Nd.at_ ks j = key) := ⟨_, rfl⟩
        have z3 : (Nd.at_ ks j == key) = is := by rw [his]; rfl
        have Fin := Lib.hid (show R = (j, is) from by rw [hF, his])
        clear hF hI hl his
        generalize Nd.at_ ks j = x at *
        go_wp2_with fail
        go_quiet (fail)
        go_wp2_with fail
        go_returns
        refine ⟨by rw [Fin.out]; rfl, ?_⟩
        have := HB.out
        exact ⟨this.os, this.tape, this.output, this.size, this.block⟩
end Go.Proofs.Ytlcchefiicalpaa
