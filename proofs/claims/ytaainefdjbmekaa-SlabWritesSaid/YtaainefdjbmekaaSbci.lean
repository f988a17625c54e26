/- Nodes in memory; the document's run, gen, PlaceMay; the statements' Few. The document's PlaceMay and Find; the statements' Few. The document's Same at two nodes that say the same. The document's May. -/
import Derived.Test.YtaainefdjbmekaaSba
import Derived.Test.YtaainefdjbmekaaSbch
import Derived.Lib.Hide
import Derived.Deep.QuietTactic
import Derived.BigQuiet
import Derived.Test.YtaainefdjbmekaaChecked
import Derived.Handy
import Derived.Laws.StructEq
namespace Go.Proofs.Ytaainefdjbmekaa
open Go.RowKit
/-- Ints, and threes of ints, as cells. -/
def ivs (l : List Int) : List Value := l.map (Value.int .i64)
theorem ivs_len (l : List Int) : (ivs l).length = l.length := by unfold ivs; rw [List.length_map]
theorem ivs_at {l : List Int} {i : Nat} (h : i < l.length) : (ivs l)[i]? = some (.int .i64 (Nd.at_ l i)) := by
  unfold ivs Nd.at_
  rw [List.getElem?_map, List.getD_eq_getElem?_getD, List.getElem?_eq_getElem h]
  rfl
theorem ivs_app (l m : List Int) : ivs (l ++ m) = ivs l ++ ivs m := List.map_append
theorem ivs_one (l : List Int) : ∀ u ∈ ivs l, u.oneCell' = true := by
  intro u hu
  obtain ⟨x, _, rfl⟩ := List.mem_map.1 hu
  rfl
def tcs : List Nd.T3 → List Value
  | [] => []
  | x :: l => .int .i64 x.1 :: .int .i64 x.2.1 :: .int .i64 x.2.2 :: tcs l
theorem tcs_len : ∀ l : List Nd.T3, (tcs l).length = l.length * 3
  | [] => rfl
  | x :: l => by rw [tcs]; simp only [List.length_cons]; rw [tcs_len l]; omega
theorem tcs_app : ∀ l m : List Nd.T3, tcs (l ++ m) = tcs l ++ tcs m
  | [], _ => rfl
  | x :: l, m => by rw [List.cons_append, tcs, tcs, tcs_app l m]; rfl
theorem tcs_at : ∀ {l : List Nd.T3} {k : Nat}, k < l.length → (tcs l)[k * 3]? = some (.int .i64 (Nd.t3 l k).1) ∧ (tcs l)[k * 3 + 1]? = some (.int .i64 (Nd.t3 l k).2.1) ∧ (tcs l)[k * 3 + 2]? = some (.int .i64 (Nd.t3 l k).2.2)
  | x :: l, 0, _ => ⟨rfl, rfl, rfl⟩
  | x :: l, k + 1, h => by
    have := tcs_at (l := l) (k := k) (by simpa using h)
    rw [show (k + 1) * 3 = k * 3 + 1 + 1 + 1 by omega, tcs]
    simp only [List.getElem?_cons_succ]
    exact this
theorem tcs_one (l : List Nd.T3) : ∀ u ∈ tcs l, u.oneCell' = true := by
  induction l with
  | nil => simp [tcs]
  | cons a l ih =>
    intro u hu
    rw [tcs] at hu
    simp only [List.mem_cons] at hu
    rcases hu with rfl | rfl | rfl | hu
    · rfl
    · rfl
    · rfl
    · exact ih u hu
/-- A slice that may be read. -/
structure SlC (w : World) (B : Nat) (A : Option Addr) (c n : Nat) (xs : List Value) : Prop where
  le : n ≤ c
  nil : A = none → c = 0
  sl : Sl w B A xs
section
variable {w w' : World} {B B' : Nat} {A : Option Addr} {c n : Nat} {xs : List Value}
theorem SlC.below (h : SlC w B A c n xs) (hb : Below B w w') : SlC w' B A c n xs := ⟨h.le, h.nil, h.sl.below hb⟩
theorem SlC.more (h : SlC w B A c n xs) (hB : B ≤ B') : SlC w B' A c n xs := ⟨h.le, h.nil, h.sl.more hB⟩
theorem SlC.none_ (w : World) (B : Nat) : SlC w B none 0 0 [] := ⟨Nat.le_refl _, fun _ => rfl, .inl rfl⟩
theorem SlC.int {l : List Int} {m : Nat} (h : SlC w B A c m (ivs l)) {i : Nat} (hi : i < l.length) : ∃ b o, A = some ⟨b, o, none⟩ ∧ b < B ∧ w.cell? ⟨b, o + i, none⟩ = some (.int .i64 (Nd.at_ l i)) := by
  have hl : i < (ivs l).length := by rw [ivs_len]; exact hi
  obtain ⟨b, o, e, hb, hc⟩ := h.sl.at_ hl
  exact ⟨b, o, e, hb, by rw [hc i hl, ← List.getElem?_eq_getElem, ivs_at hi]⟩
theorem SlC.three {l : List Nd.T3} {m : Nat} (h : SlC w B A c m (tcs l)) {i : Nat} (hi : i < l.length) : ∃ b o, A = some ⟨b, o, none⟩ ∧ b < B ∧ w.cell? ⟨b, o + i * 3, none⟩ = some (.int .i64 (Nd.t3 l i).1) ∧ w.cell? ⟨b, o + i * 3 + 1, none⟩ = some (.int .i64 (Nd.t3 l i).2.1) ∧ w.cell? ⟨b, o + i * 3 + 2, none⟩ = some (.int .i64 (Nd.t3 l i).2.2) := by
  have hl := tcs_len l
  obtain ⟨b, o, e, hb, hc⟩ := h.sl.at_ (show i * 3 < (tcs l).length by omega)
  obtain ⟨e1, e2, e3⟩ := tcs_at hi
  refine ⟨b, o, e, hb, ?_, ?_, ?_⟩
  · rw [hc (i * 3) (by omega), ← List.getElem?_eq_getElem, e1]
  · rw [Nat.add_assoc, hc (i * 3 + 1) (by omega), ← List.getElem?_eq_getElem, e2]
  · rw [Nat.add_assoc, hc (i * 3 + 2) (by omega), ← List.getElem?_eq_getElem, e3]
end
/-- The five cells of a node, its slices below block B. -/
structure NdF (w : World) (B : Nat) (n : Nd.N) (A1 : Option Addr) (c1 : Nat) (A2 : Option Addr) (c2 : Nat) (A3 : Option Addr) (c3 : Nat) (A4 : Option Addr) (c4 : Nat) : Prop where
  ks : SlC w B A1 c1 n.ks.length (ivs n.ks)
  ps : SlC w B A2 c2 n.ps.length (tcs n.ps)
  gs : SlC w B A3 c3 n.gs.length (ivs n.gs)
  cs : SlC w B A4 c4 n.cs.length (tcs n.cs)
def NdAt (w : World) (B : Nat) (v : Value) (n : Nd.N) : Prop := ∃ A1 c1 A2 c2 A3 c3 A4 c4, v = .agg #[.int .i64 n.h, .slice A1 n.ks.length c1, .slice A2 n.ps.length c2, .slice A3 n.gs.length c3, .slice A4 n.cs.length c4] ∧ NdF w B n A1 c1 A2 c2 A3 c3 A4 c4
section
variable {w w' : World} {B B' : Nat} {v : Value} {n : Nd.N} {A1 A2 A3 A4 : Option Addr} {c1 c2 c3 c4 : Nat}
theorem NdF.below (h : NdF w B n A1 c1 A2 c2 A3 c3 A4 c4) (hb : Below B w w') : NdF w' B n A1 c1 A2 c2 A3 c3 A4 c4 := ⟨h.ks.below hb, h.ps.below hb, h.gs.below hb, h.cs.below hb⟩
theorem NdF.more (h : NdF w B n A1 c1 A2 c2 A3 c3 A4 c4) (hB : B ≤ B') : NdF w B' n A1 c1 A2 c2 A3 c3 A4 c4 := ⟨h.ks.more hB, h.ps.more hB, h.gs.more hB, h.cs.more hB⟩
theorem NdAt.below (h : NdAt w B v n) (hb : Below B w w') : NdAt w' B v n := by
  obtain ⟨A1, c1, A2, c2, A3, c3, A4, c4, e, hf⟩ := h
  exact ⟨A1, c1, A2, c2, A3, c3, A4, c4, e, hf.below hb⟩
theorem NdAt.more (h : NdAt w B v n) (hB : B ≤ B') : NdAt w B' v n := by
  obtain ⟨A1, c1, A2, c2, A3, c3, A4, c4, e, hf⟩ := h
  exact ⟨A1, c1, A2, c2, A3, c3, A4, c4, e, hf.more hB⟩
theorem NdAt.zero (w : World) (B : Nat) : NdAt w B (.agg #[.int .i64 0, .slice none 0 0, .slice none 0 0, .slice none 0 0, .slice none 0 0]) Nd.zero :=
  ⟨none, 0, none, 0, none, 0, none, 0, rfl, SlC.none_ _ _, SlC.none_ _ _, SlC.none_ _ _, SlC.none_ _ _⟩
end
instance (a n : Int) : Decidable (Nd.RunOk a n) := by unfold Nd.RunOk; infer_instance
instance (a : Int) : Decidable (Nd.GenOk a) := by unfold Nd.GenOk; infer_instance
instance (p : Nd.T3) (g : Int) : Decidable (Nd.PlaceOk p g) := by unfold Nd.PlaceOk; infer_instance
instance (c : Nd.T3) : Decidable (Nd.KidOk c) := by unfold Nd.KidOk; infer_instance
end Go.Proofs.Ytaainefdjbmekaa
namespace Go.Proofs.Ytaainefdjbmekaa
open Go.RowKit
/-- A node put into a block of its own. -/
theorem nd_box {w W : World} {n : Nd.N} {A1 A2 A3 A4 : Option Addr} {c1 c2 c3 c4 : Nat} {t : TypeId} (hW : w.alloc (.cells #[.int .i64 n.h, .slice A1 n.ks.length c1, .slice A2 n.ps.length c2, .slice A3 n.gs.length c3, .slice A4 n.cs.length c4] t) = W) :
    Blk W w.heap.size t #[.int .i64 n.h, .slice A1 n.ks.length c1, .slice A2 n.ps.length c2, .slice A3 n.gs.length c3, .slice A4 n.cs.length c4] ∧ Below w.heap.size w W := by
  rw [← hW]
  exact ⟨Blk.new _ _ _, (Below.refl _ _).alloc (Nat.le_refl _) _⟩
def FewOk (n : Nd.N) : Prop := n.ks.length ≤ 40 ∧ n.ps.length ≤ 40 ∧ n.gs.length ≤ 40 ∧ n.cs.length ≤ 40
instance (n : Nd.N) : Decidable (FewOk n) := by unfold FewOk; infer_instance
/-- The last of the first k keys that is not greater. -/
def Nd.last (ks : List Int) (key : Int) : Nat → Option Nat
  | 0 => none
  | k + 1 => if Nd.at_ ks k ≤ key then some k else Nd.last ks key k
/-- What Find answers. -/
def Nd.find (ks : List Int) (key : Int) : Nat × Bool := match Nd.last ks key ks.length with | none => (0, false) | some i => (i, decide (Nd.at_ ks i = key))
end Go.Proofs.Ytaainefdjbmekaa
namespace Go.Proofs.Ytaainefdjbmekaa
open Go.RowKit
theorem place_neq (a b c : Int) (w : World) : (binOp .neq 51 (.agg #[.int .i64 a, .int .i64 b, .int .i64 c]) (.agg #[.int .i64 a, .int .i64 b, .int .i64 c])).run Try.prog w = .ok (.bool false) w := by
  have u3 := Try.underlying3
  have a3 := Try.isAgg3
  have z3 := Try.sizeOf3
  have hS : Try.prog.underlying 51 = some (.struct (Try.prog.fieldsOf 51)) := by kernel_rfl
  have hp : Try.prog.stoodInHeld 51 = false := by kernel_rfl
  rw [run_neq_struct, show (10000 : Nat) = 9999 + 1 from rfl, run_equalIn_agg w 9999 51 _ _ hS hp]
  simp only [Program.fieldsOf, Try.underlying51]
  go_simp
theorem kid_neq (a b c : Int) (w : World) : (binOp .neq 105 (.agg #[.int .i64 a, .int .i64 b, .int .i64 c]) (.agg #[.int .i64 a, .int .i64 b, .int .i64 c])).run Try.prog w = .ok (.bool false) w := by
  have u3 := Try.underlying3
  have a3 := Try.isAgg3
  have z3 := Try.sizeOf3
  have hS : Try.prog.underlying 105 = some (.struct (Try.prog.fieldsOf 105)) := by kernel_rfl
  have hp : Try.prog.stoodInHeld 105 = false := by kernel_rfl
  rw [run_neq_struct, show (10000 : Nat) = 9999 + 1 from rfl, run_equalIn_agg w 9999 105 _ _ hS hp]
  simp only [Program.fieldsOf, Try.underlying105]
  go_simp
theorem drewN_zeroN (w : World) : w.drewN 0 = w := by cases w; rfl
set_option maxRecDepth 8000 in
set_option maxHeartbeats 16000000 in
theorem same_any {w : World} {v1 v2 : Value} {n : Nd.N} (h1 : NdAt w w.heap.size v1 n) (h2 : NdAt w w.heap.size v2 n) (hpg : n.ps.length ≤ n.gs.length) (hfw : FewOk n) :
    Calls Try.prog 21 #[v1, v2] w fun e w' => e = .returned (.bool true) ∧ Below w.heap.size w w' := by
  have kp := place_neq
  have kk := kid_neq
  obtain ⟨A1, c1, A2, c2, A3, c3, A4, c4, rfl, hf1⟩ := h1
  obtain ⟨B1, d1, B2, d2, B3, d3, B4, d4, rfl, hf2⟩ := h2
  obtain ⟨W1, hW1⟩ : ∃ W, w.alloc (.cells #[.int .i64 n.h, .slice A1 n.ks.length c1, .slice A2 n.ps.length c2, .slice A3 n.gs.length c3, .slice A4 n.cs.length c4] 55) = W := ⟨_, rfl⟩
  obtain ⟨W, hW⟩ : ∃ W, W1.alloc (.cells #[.int .i64 n.h, .slice B1 n.ks.length d1, .slice B2 n.ps.length d2, .slice B3 n.gs.length d3, .slice B4 n.cs.length d4] 55) = W := ⟨_, rfl⟩
  obtain ⟨bx, hb1⟩ := nd_box hW1
  obtain ⟨by_, hb2⟩ := nd_box hW
  have bx := bx.keep (w' := W) (hb2.block _ bx.lt)
  have hbl : Below w.heap.size w W := hb1.trans (hb2.mono hb1.size)
  have F1 := Lib.hid (hf1.below hbl)
  have F2 := Lib.hid (hf2.below hbl)
  have HB := Lib.hid hbl
  obtain ⟨k1, e1⟩ : ∃ k, k = n.ks.length := ⟨_, rfl⟩
  obtain ⟨k2, e2⟩ : ∃ k, k = n.ps.length := ⟨_, rfl⟩
  obtain ⟨k3, e3⟩ : ∃ k, k = n.gs.length := ⟨_, rfl⟩
  obtain ⟨k4, e4⟩ : ∃ k, k = n.cs.length := ⟨_, rfl⟩
  obtain ⟨f1, f2, f3, f4⟩ := hfw
  rw [← e1] at f1
  rw [← e2] at f2
  rw [← e3] at f3
  rw [← e4] at f4
  have E1 := Lib.hid e1
  have E2 := Lib.hid e2
  have E3 := Lib.hid e3
  have E4 := Lib.hid e4
  rw [← e1, ← e2, ← e3, ← e4] at hW1 hW bx by_ ⊢
  rw [← e2, ← e3] at hpg
  obtain ⟨b, hb⟩ : ∃ b, w.heap.size = b := ⟨_, rfl⟩
  obtain ⟨b2, hb2'⟩ : ∃ b, W1.heap.size = b := ⟨_, rfl⟩
  rw [hb] at bx HB F1 F2 ⊢
  rw [hb2'] at by_
  generalize n.h = k0 at *
  have x0 : W.cell? ⟨b, 0, none⟩ = some (.int .i64 k0) := bx.cell 0
  have x1 : W.cell? ⟨b, 1, none⟩ = some (.slice A1 k1 c1) := bx.cell 1
  have x2 : W.cell? ⟨b, 2, none⟩ = some (.slice A2 k2 c2) := bx.cell 2
  have x3 : W.cell? ⟨b, 3, none⟩ = some (.slice A3 k3 c3) := bx.cell 3
  have x4 : W.cell? ⟨b, 4, none⟩ = some (.slice A4 k4 c4) := bx.cell 4
  have y0 : W.cell? ⟨b2, 0, none⟩ = some (.int .i64 k0) := by_.cell 0
  have y1 : W.cell? ⟨b2, 1, none⟩ = some (.slice B1 k1 d1) := by_.cell 1
  have y2 : W.cell? ⟨b2, 2, none⟩ = some (.slice B2 k2 d2) := by_.cell 2
  have y3 : W.cell? ⟨b2, 3, none⟩ = some (.slice B3 k3 d3) := by_.cell 3
  have y4 : W.cell? ⟨b2, 4, none⟩ = some (.slice B4 k4 d4) := by_.cell 4
  have q0 : (k0 != k0) = false := by simp
  have q1 : ((k1 : Int) != (k1 : Int)) = false := by simp
  have q2 : ((k2 : Int) != (k2 : Int)) = false := by simp
  have q3 : ((k3 : Int) != (k3 : Int)) = false := by simp
  have q4 : ((k4 : Int) != (k4 : Int)) = false := by simp
  clear bx by_ hf1 hf2 hb1 hb2 hbl e1 e2 e3 e4
  go_enter Try.func21, Try.ntmps21
  go_wp2_with fail
  go_loopw [5] (fun v wr => ∃ i m : Nat, v = .int .i64 (i : Int) ∧ i ≤ k1 ∧ wr = W.drewN m) (fun v _ => k1 - (intOf v).toNat)
  case atStart => exact ⟨0, 0, rfl, Nat.zero_le _, (drewN_zeroN W).symm⟩
  case round =>
    obtain ⟨i, m, rfl, hi, rfl⟩ := hrel
    by_cases hik : i < k1
    · have z0 : decide ((i : Int) < (k1 : Int)) = true := by rw [decide_eq_true_eq]; omega
      have z0' : decide (i < k1) = true := by rw [decide_eq_true_eq]; exact hik
      have hki : (i : Int) < (k1 : Int) := by omega
      obtain ⟨g, o, rfl, -, hc⟩ := F1.out.ks.int (i := i) (by rw [← E1.out]; exact hik)
      obtain ⟨g2, o2, rfl, -, hc2⟩ := F2.out.ks.int (i := i) (by rw [← E1.out]; exact hik)
      generalize Nd.at_ n.ks i = x at *
      have q5 : (x != x) = false := by simp
      go_wp2_with fail
      go_quiet (fail)
      go_wp2_with fail
      go_roundw
      case rel => exact ⟨i + 1, _, by go_num, by omega, rfl⟩
      case measure => simp [intOf]; omega
    · have hik' : i = k1 := by omega
      subst hik'
      have z0 : decide ((i : Int) < (i : Int)) = false := by simp
      have z0' : decide (i < i) = false := by simp
      go_wp2_with fail
      go_loopw [6] (fun v wr => ∃ i m : Nat, v = .int .i64 (i : Int) ∧ i ≤ k2 ∧ wr = W.drewN m) (fun v _ => k2 - (intOf v).toNat)
      case atStart => exact ⟨0, m, rfl, Nat.zero_le _, rfl⟩
      case round =>
        obtain ⟨j, m, rfl, hj, rfl⟩ := hrel
        by_cases hjk : j < k2
        · have z0 : decide ((j : Int) < (k2 : Int)) = true := by rw [decide_eq_true_eq]; omega
          have z0' : decide (j < k2) = true := by rw [decide_eq_true_eq]; exact hjk
          have hki : (j : Int) < (k2 : Int) := by omega
          have hk3 : (j : Int) < (k3 : Int) := by omega
          obtain ⟨g, o, rfl, -, hc, hd, he⟩ := F1.out.ps.three (i := j) (by rw [← E2.out]; exact hjk)
          obtain ⟨g2, o2, rfl, -, hc2, hd2, he2⟩ := F2.out.ps.three (i := j) (by rw [← E2.out]; exact hjk)
          obtain ⟨g3, o3, rfl, -, hc3⟩ := F1.out.gs.int (i := j) (by rw [← E3.out]; omega)
          obtain ⟨g4, o4, rfl, -, hc4⟩ := F2.out.gs.int (i := j) (by rw [← E3.out]; omega)
          generalize (Nd.t3 n.ps j).1 = p1 at *
          generalize (Nd.t3 n.ps j).2.1 = p2 at *
          generalize (Nd.t3 n.ps j).2.2 = p3 at *
          generalize Nd.at_ n.gs j = x at *
          have q5 : (x != x) = false := by simp
          go_wp2_with fail
          go_quiet (fail)
          go_wp2_with fail
          go_roundw
          case rel => exact ⟨j + 1, _, by go_num, by omega, rfl⟩
          case measure => simp [intOf]; omega
        · have hjk' : j = k2 := by omega
          subst hjk'
          have z0 : decide ((j : Int) < (j : Int)) = false := by simp
          have z0' : decide (j < j) = false := by simp
          go_wp2_with fail
          go_loopw [7] (fun v wr => ∃ i m : Nat, v = .int .i64 (i : Int) ∧ i ≤ k4 ∧ wr = W.drewN m) (fun v _ => k4 - (intOf v).toNat)
          case atStart => exact ⟨0, m, rfl, Nat.zero_le _, rfl⟩
          case round =>
            obtain ⟨l, m, rfl, hl, rfl⟩ := hrel
            by_cases hlk : l < k4
            · have z0 : decide ((l : Int) < (k4 : Int)) = true := by rw [decide_eq_true_eq]; omega
              have z0' : decide (l < k4) = true := by rw [decide_eq_true_eq]; exact hlk
              have hki : (l : Int) < (k4 : Int) := by omega
              obtain ⟨g, o, rfl, -, hc, hd, he⟩ := F1.out.cs.three (i := l) (by rw [← E4.out]; exact hlk)
              obtain ⟨g2, o2, rfl, -, hc2, hd2, he2⟩ := F2.out.cs.three (i := l) (by rw [← E4.out]; exact hlk)
              generalize (Nd.t3 n.cs l).1 = p1 at *
              generalize (Nd.t3 n.cs l).2.1 = p2 at *
              generalize (Nd.t3 n.cs l).2.2 = p3 at *
              go_wp2_with fail
              go_quiet (fail)
              go_wp2_with fail
              go_roundw
              case rel => exact ⟨l + 1, _, by go_num, by omega, rfl⟩
              case measure => simp [intOf]; omega
            · have hlk' : l = k4 := by omega
              subst hlk'
              have z0 : decide ((l : Int) < (l : Int)) = false := by simp
              have z0' : decide (l < l) = false := by simp
              go_wp2_with fail
              go_ret
              exact ⟨rfl, by have t := HB.out; exact ⟨t.os, t.tape, t.output, t.size, t.block⟩⟩
end Go.Proofs.Ytaainefdjbmekaa
namespace Go.Proofs.Ytaainefdjbmekaa
open Go.RowKit
/-- Keys as they must be, as far as i. -/
def Nd.KeysOk (ks : List Int) (i : Nat) : Prop := (∀ j, j < i → 0 ≤ Nd.at_ ks j ∧ Nd.at_ ks j < 512) ∧ ∀ j, j + 1 < i → Nd.at_ ks j < Nd.at_ ks (j + 1)
theorem Nd.KeysOk.next {ks : List Int} {i : Nat} (h : Nd.KeysOk ks i) (h1 : 0 ≤ Nd.at_ ks i ∧ Nd.at_ ks i < 512) (h2 : ∀ p, i = p + 1 → Nd.at_ ks p < Nd.at_ ks i) : Nd.KeysOk ks (i + 1) := by
  refine ⟨fun j hj => ?_, fun j hj => ?_⟩
  · rcases Nat.lt_or_ge j i with c | c
    · exact h.1 j c
    · rw [show j = i by omega]; exact h1
  · rcases Nat.lt_or_ge (j + 1) i with c | c
    · exact h.2 j c
    · have : i = j + 1 := by omega
      rw [← this]; exact h2 j this
theorem Nd.Ok.keysOk {n : Nd.N} (h : Nd.Ok n) : Nd.KeysOk n.ks n.ks.length := ⟨h.key, h.asc⟩
section
variable {w W : World} {b : Nat} {n : Nd.N} {A1 A2 A3 A4 : Option Addr} {c1 c2 c3 c4 : Nat} {R : Bool}
/-- What the walk knows of a node in its block, at every later world. -/
structure NdW (W : World) (b : Nat) (n : Nd.N) (A1 : Option Addr) (c1 : Nat) (A2 : Option Addr) (c2 : Nat) (A3 : Option Addr) (c3 : Nat) (A4 : Option Addr) (c4 : Nat) : Prop where
  blk : Blk W b 55 #[.int .i64 n.h, .slice A1 n.ks.length c1, .slice A2 n.ps.length c2, .slice A3 n.gs.length c3, .slice A4 n.cs.length c4]
  row : NdF W W.heap.size n A1 c1 A2 c2 A3 c3 A4 c4
theorem NdW.below {W' : World} (h : NdW W b n A1 c1 A2 c2 A3 c3 A4 c4) (hb : Below W.heap.size W W') : NdW W' b n A1 c1 A2 c2 A3 c3 A4 c4 := ⟨h.blk.keep (hb.block b h.blk.lt), (h.row.below hb).more hb.size⟩
theorem NdW.drewN (h : NdW W b n A1 c1 A2 c2 A3 c3 A4 c4) (m : Nat) : NdW (W.drewN m) b n A1 c1 A2 c2 A3 c3 A4 c4 := ⟨h.blk, ⟨⟨h.row.ks.le, h.row.ks.nil, h.row.ks.sl⟩, ⟨h.row.ps.le, h.row.ps.nil, h.row.ps.sl⟩, ⟨h.row.gs.le, h.row.gs.nil, h.row.gs.sl⟩, ⟨h.row.cs.le, h.row.cs.nil, h.row.cs.sl⟩⟩⟩
end
end Go.Proofs.Ytaainefdjbmekaa
