/- The document's Same at two nodes that say the same. The document's May. The program's May. -/
import Derived.Test.YtlcchefiicalpaaZwd
import Derived.Laws.StructEq
namespace Go.Proofs.Ytlcchefiicalpaa
open Go.RowKit
theorem drewN_zeroN (w : World) : w.drewN 0 = w := by cases w; rfl
end Go.Proofs.Ytlcchefiicalpaa
namespace Go.Proofs.Ytlcchefiicalpaa
open Go.RowKit
/-- Keys as they must be, as far as i. -/
def Nd.KeysOk (ks : List Int) (i : Nat) : Prop := (∀ j, j < i → 0 ≤ Nd.at_ ks j ∧ Nd.at_ ks j < 512) ∧ ∀ j, j + 1 < i → Nd.at_ ks j < Nd.at_ ks (j + 1)
theorem Nd.KeysOk.next {ks : List Int} {i : Nat} (h : Nd.KeysOk ks i) (h1 : 0 ≤ Nd.at_ ks i ∧ Nd.at_ ks i < 512) (h2 : ∀ p, i = p + 1 → Nd.at_ ks p < Nd.at_ ks i) : Nd.KeysOk ks (i + 1) := by
  refine ⟨fun j hj => ?_, fun j hj => ?_⟩
  · rcases Nat.lt_or_ge j i with c | c
    · exact h.1 j c
    · rw [show j = i by omega]; exact h1
  · rcases Nat.lt_or_ge (j + 1) i with c | c
    · exact h.2 j c
    · have : i = j + 1 := by omega
      rw [← this]; exact h2 j this
theorem Nd.Ok.keysOk {n : Nd.N} (h : Nd.Ok n) : Nd.KeysOk n.ks n.ks.length := ⟨h.key, h.asc⟩
section
variable {w W : World} {b : Nat} {n : Nd.N} {A1 A2 A3 A4 : Option Addr} {c1 c2 c3 c4 : Nat} {R : Bool}
/-- What the walk knows of a node in its block, at every later world. -/
structure NdW (W : World) (b : Nat) (n : Nd.N) (A1 : Option Addr) (c1 : Nat) (A2 : Option Addr) (c2 : Nat) (A3 : Option Addr) (c3 : Nat) (A4 : Option Addr) (c4 : Nat) : Prop where
  blk : Blk W b 26 #[.int .i64 n.h, .slice A1 n.ks.length c1, .slice A2 n.ps.length c2, .slice A3 n.gs.length c3, .slice A4 n.cs.length c4]
  row : NdF W W.heap.size n A1 c1 A2 c2 A3 c3 A4 c4
theorem NdW.below {W' : World} (h : NdW W b n A1 c1 A2 c2 A3 c3 A4 c4) (hb : Below W.heap.size W W') : NdW W' b n A1 c1 A2 c2 A3 c3 A4 c4 := ⟨h.blk.keep (hb.block b h.blk.lt), (h.row.below hb).more hb.size⟩
theorem NdW.drewN (h : NdW W b n A1 c1 A2 c2 A3 c3 A4 c4) (m : Nat) : NdW (W.drewN m) b n A1 c1 A2 c2 A3 c3 A4 c4 := ⟨h.blk, ⟨⟨h.row.ks.le, h.row.ks.nil, h.row.ks.sl⟩, ⟨h.row.ps.le, h.row.ps.nil, h.row.ps.sl⟩, ⟨h.row.gs.le, h.row.gs.nil, h.row.gs.sl⟩, ⟨h.row.cs.le, h.row.cs.nil, h.row.cs.sl⟩⟩⟩
end
end Go.Proofs.Ytlcchefiicalpaa
namespace Go.Proofs.Ytlcchefiicalpaa
open Go.RowKit
set_option maxHeartbeats 2000000 in
theorem below_any (x e : Int) (w : World) : Calls Try.prog 53 #[.int .i64 x, .int .i64 e] w fun r w' => r = .returned (.bool (decide (0 ≤ x ∧ x < e))) ∧ w = w' := by
  by_cases h0 : 0 ≤ x
  case neg =>
    have E : decide (0 ≤ x ∧ x < e) = false := by rw [decide_eq_false_iff_not]; omega
    have z0 : decide ((0 : Int) ≤ x) = false := by rw [decide_eq_false_iff_not]; exact h0
    rw [E]
    clear E h0
    go_enter Try.func53, Try.ntmps53
    go_wp2_with fail
    go_ret
    exact ⟨rfl, rfl⟩
  have z0 : decide ((0 : Int) ≤ x) = true := by rw [decide_eq_true_eq]; exact h0
  by_cases h1 : x < e
  case neg =>
    have E : decide (0 ≤ x ∧ x < e) = false := by rw [decide_eq_false_iff_not]; omega
    have z1 : decide (x < e) = false := by rw [decide_eq_false_iff_not]; exact h1
    rw [E]
    clear E h0 h1
    go_enter Try.func53, Try.ntmps53
    go_wp2_with fail
    go_ret
    exact ⟨rfl, rfl⟩
  have z1 : decide (x < e) = true := by rw [decide_eq_true_eq]; exact h1
  have E : decide (0 ≤ x ∧ x < e) = true := by rw [decide_eq_true_eq]; exact ⟨h0, h1⟩
  rw [E]
  clear E h0 h1
  go_enter Try.func53, Try.ntmps53
  go_wp2_with fail
  go_ret
  exact ⟨rfl, rfl⟩
theorem below_is (x e : Int) (r : Bool) (h : decide (0 ≤ x ∧ x < e) = r) (w : World) : Calls Try.prog 53 #[.int .i64 x, .int .i64 e] w fun q w' => q = .returned (.bool r) ∧ w = w' := by
  rw [← h]; exact below_any x e w
set_option maxHeartbeats 2000000 in
theorem isrun_any (a n : Int) (w : World) : Calls Try.prog 79 #[.int .i64 a, .int .i64 n] w fun e w' => e = .returned (.bool (decide (Nd.RunOk a n))) ∧ w = w' := by
  by_cases h0 : 0 ≤ a ∧ a < 8192
  case neg =>
    have E : decide (Nd.RunOk a n) = false := by rw [decide_eq_false_iff_not]; intro h; unfold Nd.RunOk at h; omega
    have NB := Lib.hid (below_is a 8192 false (decide_eq_false h0) w)
    rw [E]
    clear E h0
    go_enter Try.func79, Try.ntmps79
    go_wp2_with (first | (go_at_call 53; (with_reducible refine NB.out.mono ?_); rintro e w2 ⟨rfl, h2⟩; subst h2))
    go_ret
    exact ⟨rfl, rfl⟩
  have NB := Lib.hid (below_is a 8192 true (decide_eq_true h0) w)
  by_cases h1 : 1 ≤ n
  case neg =>
    have E : decide (Nd.RunOk a n) = false := by rw [decide_eq_false_iff_not]; intro h; unfold Nd.RunOk at h; omega
    have zh1 : decide ((1 : Int) ≤ n) = false := by rw [decide_eq_false_iff_not]; exact h1
    rw [E]
    clear E h0 h1
    go_enter Try.func79, Try.ntmps79
    go_wp2_with (first | (go_at_call 53; (with_reducible refine NB.out.mono ?_); rintro e w2 ⟨rfl, h2⟩; subst h2))
    go_ret
    exact ⟨rfl, rfl⟩
  have zh1 : decide ((1 : Int) ≤ n) = true := by rw [decide_eq_true_eq]; exact h1
  by_cases h2 : n ≤ 128
  case neg =>
    have E : decide (Nd.RunOk a n) = false := by rw [decide_eq_false_iff_not]; intro h; unfold Nd.RunOk at h; omega
    have zh2 : decide (n ≤ 128) = false := by rw [decide_eq_false_iff_not]; exact h2
    rw [E]
    clear E h0 h1 h2
    go_enter Try.func79, Try.ntmps79
    go_wp2_with (first | (go_at_call 53; (with_reducible refine NB.out.mono ?_); rintro e w2 ⟨rfl, h2⟩; subst h2))
    go_ret
    exact ⟨rfl, rfl⟩
  have zh2 : decide (n ≤ 128) = true := by rw [decide_eq_true_eq]; exact h2
  have hw : IntKind.i64.wrap (a + n) = a + n := by rw [IntKind.wrap_i64]; omega
  by_cases h3 : a + n ≤ 8192
  case neg =>
    have E : decide (Nd.RunOk a n) = false := by rw [decide_eq_false_iff_not]; intro h; unfold Nd.RunOk at h; omega
    have z3 : decide (a + n ≤ 8192) = false := by rw [decide_eq_false_iff_not]; exact h3
    rw [E]
    clear E h0 h1 h2 h3
    go_enter Try.func79, Try.ntmps79
    go_wp2_with (first | (go_at_call 53; (with_reducible refine NB.out.mono ?_); rintro e w2 ⟨rfl, h2⟩; subst h2))
    go_ret
    exact ⟨rfl, rfl⟩
  have z3 : decide (a + n ≤ 8192) = true := by rw [decide_eq_true_eq]; exact h3
  have E : decide (Nd.RunOk a n) = true := by rw [decide_eq_true_eq]; unfold Nd.RunOk; omega
  rw [E]
  clear E h0 h1 h2 h3
  go_enter Try.func79, Try.ntmps79
  go_wp2_with (first | (go_at_call 53; (with_reducible refine NB.out.mono ?_); rintro e w2 ⟨rfl, h2⟩; subst h2))
  go_ret
  exact ⟨rfl, rfl⟩
theorem isrun_is (a n : Int) (r : Bool) (h : decide (Nd.RunOk a n) = r) (w : World) : Calls Try.prog 79 #[.int .i64 a, .int .i64 n] w fun e w' => e = .returned (.bool r) ∧ w = w' := by
  rw [← h]; exact isrun_any a n w
theorem Nd.KeysOk.no {ks : List Int} {i k : Nat} (h : Nd.KeysOk ks k) (hi : i < k) : 0 ≤ Nd.at_ ks i ∧ Nd.at_ ks i < 512 := h.1 i hi
set_option maxRecDepth 8000 in
set_option maxHeartbeats 8000000 in
theorem arekeys_any {w : World} {A : Option Addr} {c : Nat} {ks : List Int} (h : SlC w w.heap.size A c ks.length (ivs ks)) (hl : ks.length ≤ 1000) (R : Bool) (hT : R = true ↔ Nd.KeysOk ks ks.length) : Calls Try.prog 54 #[.slice A ks.length c] w fun e w' => e = .returned (.bool R) ∧ w = w' := by
  have H := Lib.hid h
  have HT := Lib.hid hT
  have no : Hid (¬ Nd.KeysOk ks ks.length → R = false) := Lib.hid fun h => by
    cases hR : R with
    | false => rfl
    | true => exact absurd (hT.1 hR) h
  obtain ⟨k1, e1⟩ : ∃ k, k = ks.length := ⟨_, rfl⟩
  have E1 := Lib.hid e1
  rw [← e1] at hl ⊢
  clear h hT e1
  go_enter Try.func54, Try.ntmps54
  go_wp2_with fail
  go_loopw [3, 4, 7] (fun _ _ v wr => ∃ i : Nat, v = .int .i64 (i : Int) ∧ i ≤ k1 ∧ wr = w ∧ Nd.KeysOk ks i) (fun _ _ v _ => k1 - (intOf v).toNat)
  case atStart => exact ⟨0, rfl, Nat.zero_le _, rfl, fun j hj => absurd hj (Nat.not_lt_zero _), fun j hj => absurd hj (Nat.not_lt_zero _)⟩
  case round =>
    obtain ⟨i, rfl, hi, hwr, hK⟩ := hrel
    subst hwr
    have HK := Lib.hid hK
    clear hK
    by_cases hik : i < k1
    · have y0 : decide ((i : Int) < (k1 : Int)) = true := by rw [decide_eq_true_eq]; omega
      have y0' : decide (i < k1) = true := by rw [decide_eq_true_eq]; exact hik
      have hki : (i : Int) < (k1 : Int) := by omega
      obtain ⟨g, o, rfl, -, hc⟩ := H.out.int (i := i) (by rw [← E1.out]; exact hik)
      obtain ⟨x, hx⟩ : ∃ x, x = Nd.at_ ks i := ⟨_, rfl⟩
      have Hx := Lib.hid hx
      rw [← hx] at hc
      clear hx
      by_cases hx0 : 0 ≤ x ∧ x < 512
      case neg =>
        have NB := Lib.hid (below_is x 512 false (decide_eq_false hx0) wr)
        have F := no.out fun o => by have := o.no (i := i) (by rw [← E1.out]; exact hik); rw [← Hx.out] at this; exact hx0 this
        clear hx0
        go_wp2_with (go_at_call 53; (with_reducible refine NB.out.mono ?_); rintro e w2 ⟨rfl, h2⟩; subst h2)
        go_ret
        exact ⟨by rw [F]; rfl, rfl⟩
      have NB := Lib.hid (below_is x 512 true (decide_eq_true hx0) wr)
      by_cases hi0 : i = 0
      · have y3 : decide ((0 : Int) < (i : Int)) = false := by rw [decide_eq_false_iff_not]; omega
        have y3' : decide (0 < i) = false := by rw [decide_eq_false_iff_not]; omega
        have Nx := Lib.hid (HK.out.next (by rw [← Hx.out]; omega) (fun p hp => by omega))
        clear hx0 hi0
        go_wp2_with (go_at_call 53; (with_reducible refine NB.out.mono ?_); rintro e w2 ⟨rfl, h2⟩; subst h2)
        go_roundw
        case rel => exact ⟨i + 1, by go_num, by omega, by trivial, Nx.out⟩
        case measure => simp [intOf]; omega
      · obtain ⟨p, hp⟩ : ∃ p, i = p + 1 := ⟨i - 1, by omega⟩
        obtain ⟨g', o', e, -, hc2⟩ := H.out.int (i := p) (by rw [← E1.out]; omega)
        injection e with e
        injection e with e e'
        subst e; subst e'
        obtain ⟨y, hy⟩ : ∃ y, y = Nd.at_ ks p := ⟨_, rfl⟩
        have Hy := Lib.hid hy
        rw [← hy] at hc2
        clear hy
        have y3 : decide ((0 : Int) < (i : Int)) = true := by rw [decide_eq_true_eq]; omega
        have y3' : decide (0 < i) = true := by rw [decide_eq_true_eq]; omega
        have s1 : (i : Int) - 1 = (p : Int) := by omega
        have s2 : IntKind.i64.wrap ((i : Int) - 1) = (p : Int) := by rw [s1, IntKind.wrap_i64]; omega
        have hpk : (p : Int) < (k1 : Int) := by omega
        have Hp := Lib.hid hp
        by_cases hxy : x ≤ y
        · have y4 : decide (x ≤ y) = true := by rw [decide_eq_true_eq]; exact hxy
          have F := no.out fun o => by have := o.2 p (by rw [← E1.out]; omega); rw [← Hp.out, ← Hx.out, ← Hy.out] at this; omega
          clear hx0 hxy hp hi0
          go_wp2_with (go_at_call 53; (with_reducible refine NB.out.mono ?_); rintro e w2 ⟨rfl, h2⟩; subst h2)
          go_ret
          exact ⟨by rw [F]; rfl, rfl⟩
        · have y4 : decide (x ≤ y) = false := by rw [decide_eq_false_iff_not]; exact hxy
          have Nx := Lib.hid (HK.out.next (by rw [← Hx.out]; omega) (fun q hq => by rw [show q = p by omega, ← Hx.out, ← Hy.out]; omega))
          clear hx0 hxy hp hi0
          go_wp2_with (go_at_call 53; (with_reducible refine NB.out.mono ?_); rintro e w2 ⟨rfl, h2⟩; subst h2)
          go_roundw
          case rel => exact ⟨i + 1, by go_num, by omega, by trivial, Nx.out⟩
          case measure => simp [intOf]; omega
    · have hik' : i = k1 := by omega
      have y0 : decide ((i : Int) < (k1 : Int)) = false := by rw [decide_eq_false_iff_not]; omega
      have y0' : decide (i < k1) = false := by rw [decide_eq_false_iff_not]; exact hik
      have F : R = true := HT.out.2 (by rw [← E1.out, ← hik']; exact HK.out)
      clear hik'
      go_wp2_with fail
      go_ret
      exact ⟨by rw [F]; rfl, rfl⟩
end Go.Proofs.Ytlcchefiicalpaa
