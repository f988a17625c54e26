/- RunsGrow under the contracts. -/
import Derived.Test.YtdbgappaoeopbaaRunm
import Derived.Deep.RegionHeldLaw
namespace Go.Proofs.Ytdbgappaoeopbaa
open Go.RowKit

theorem swap_perm {α : Type} (a d : α) : ∀ (m : List α) (j : Nat), j < m.length → (a :: m).Perm (m.getD j d :: m.set j a)
  | c :: m, 0, _ => List.Perm.swap _ _ _
  | c :: m, j + 1, h => by
    have ih := swap_perm a d m j (by simpa using h)
    refine (List.Perm.swap c a m).trans ((ih.cons c).trans ?_)
    rw [List.getD_cons_succ, List.set_cons_succ]
    exact List.Perm.swap _ _ _
/-- Two places change theirs. -/
def swapL (L : List (Nat × Nat)) (i k : Nat) : List (Nat × Nat) := (L.set i (L.getD k (0, 0))).set k (L.getD i (0, 0))
theorem swapL_len (L : List (Nat × Nat)) (i k : Nat) : (swapL L i k).length = L.length := by unfold swapL; simp
theorem swapL_drop {L : List (Nat × Nat)} {i k : Nat} (hi : i ≤ k) (hk : k < L.length) : (L.drop i).Perm ((swapL L i k).drop i) ∧ (swapL L i k).drop i = L.getD k (0, 0) :: (swapL L i k).drop (i + 1) ∧ (swapL L i k).getD i (0, 0) = L.getD k (0, 0) := by
  have hil : i < L.length := by omega
  have h3 : (swapL L i k).getD i (0, 0) = L.getD k (0, 0) := by
    unfold swapL
    rw [List.getD_eq_getElem?_getD, List.getElem?_set]
    by_cases e : k = i
    · subst e; simp [hk]
    · rw [if_neg e, List.getElem?_set_self hil]; rfl
  have h2 : (swapL L i k).drop i = L.getD k (0, 0) :: (swapL L i k).drop (i + 1) := by
    have hl : i < (swapL L i k).length := by rw [swapL_len]; exact hil
    rw [List.drop_eq_getElem_cons hl, ← h3, List.getD_eq_getElem?_getD, List.getElem?_eq_getElem hl]
    rfl
  refine ⟨?_, h2, h3⟩
  rw [h2]
  obtain ⟨j, hj⟩ : ∃ j, k = i + j := ⟨k - i, by omega⟩
  have hd : L.drop i = L.getD i (0, 0) :: L.drop (i + 1) := by
    rw [List.drop_eq_getElem_cons hil, List.getD_eq_getElem?_getD, List.getElem?_eq_getElem hil]; rfl
  rcases Nat.eq_zero_or_pos j with h0 | h0
  · have e : k = i := by omega
    subst e
    have : swapL L k k = L := by
      unfold swapL
      rw [List.set_set]
      refine List.ext_getElem? fun m => ?_
      rw [List.getElem?_set]
      split
      · next e => subst e; rw [List.getD_eq_getElem?_getD, List.getElem?_eq_getElem hil]; rfl
      · rfl
    rw [this, hd]
  · have e1 : (swapL L i k).drop (i + 1) = (L.drop (i + 1)).set (j - 1) (L.getD i (0, 0)) := by
      unfold swapL
      rw [List.drop_set, if_neg (by omega), List.drop_set, if_pos (by omega), show k - (i + 1) = j - 1 by omega]
    have e2 : L.getD k (0, 0) = (L.drop (i + 1)).getD (j - 1) (0, 0) := by
      rw [List.getD_eq_getElem?_getD, List.getD_eq_getElem?_getD, List.getElem?_drop, show i + 1 + (j - 1) = k by omega]
    rw [e1, e2, hd]
    exact swap_perm _ _ _ _ (by rw [List.length_drop]; omega)
theorem rcs_set (L : List (Nat × Nat)) (i : Nat) (r : Nat × Nat) (hi : i < L.length) : ((rcs L).set (i * 2) (.int .i64 (r.1 : Int))).set (i * 2 + 1) (.int .i64 (r.2 : Int)) = rcs (L.set i r) := by
  induction L generalizing i with
  | nil => simp at hi
  | cons a L ih =>
    cases i with
    | zero => rfl
    | succ i =>
      rw [show (i + 1) * 2 = i * 2 + 1 + 1 by omega, rcs, List.set_cons_succ, List.set_cons_succ, List.set_cons_succ, List.set_cons_succ, ih i (by simpa using hi)]
      rfl

section
variable {Rep : World → Nat → (Nat → Prop) → List Bool → Prop} {O O' : Nat → Prop} {w w' : World} {ms : List (Nat × List Bool)}
/-- Foreign blocks change, and new ones become foreign. -/
theorem Maps.step (hC : RunsC Rep) (h : Maps Rep O w ms) (hc : Chg O w w') (hO : ∀ b, O' b → (O b ∨ w.heap.size ≤ b) ∧ b < w'.heap.size) : Maps Rep O' w' ms := by
  obtain ⟨X, h1, h2, h3⟩ := h.has
  refine ⟨fun b hb => (hO b hb).2, X, fun i g F hi => hC.keep (h1 i g F hi) fun b hX => hc.block b (h2 i b hX).2 (h2 i b hX).1, fun i b hX => ⟨fun ho => ?_, Nat.lt_of_lt_of_le (h2 i b hX).2 hc.size⟩, h3⟩
  have := h2 i b hX
  rcases (hO b ho).1 with e | e
  · exact this.1 e
  · omega
end

/-- Pieces of a row of one's own, beside maps. -/
structure Gro (Rep : World → Nat → (Nat → Prop) → List Bool → Prop) (B : Nat) (ms : List (Nat × List Bool)) (v : Value) (L : List (Nat × Nat)) (w0 wr : World) : Prop where
  row : OwnR wr B v L
  has : Maps Rep (fun b => b < B ∨ v.ownBlock = some b) wr ms
  bel : Below B w0 wr
  few : B ≤ wr.heap.size
section
variable {Rep : World → Nat → (Nat → Prop) → List Bool → Prop} {B g i : Nat} {F F' : List Bool} {ms : List (Nat × List Bool)} {v v' : Value} {L : List (Nat × Nat)} {w0 w w' : World}
theorem Gro.below (hC : RunsC Rep) (h : Gro Rep B ms v L w0 w) (hb : Below w.heap.size w w') : Gro Rep B ms v L w0 w' :=
  ⟨own_keep h.row fun b _ hlt => hb.block b hlt, h.has.below hC hb, h.bel.trans (hb.mono h.few), Nat.le_trans h.few hb.size⟩
theorem Gro.op {f : Nat} {args : Array Value} {Q : Ending → Prop} (h : Gro Rep B ms v L w0 w) {ms' : List (Nat × List Bool)}
    (P : Calls Try.prog f args w fun e w' => Q e ∧ Maps Rep (fun b => b < B ∨ v.ownBlock = some b) w' ms' ∧ Chg (fun b => ¬ (b < B ∨ v.ownBlock = some b)) w w') :
    Calls Try.prog f args w fun e w' => Q e ∧ Gro Rep B ms' v L w0 w' := by
  refine P.mono ?_
  rintro e w' ⟨hq, hm, hc⟩
  exact ⟨hq, own_keep h.row fun b hb hlt => hc.block b hlt fun hn => hn (.inr hb), hm, h.bel.trans (hc.below h.few fun b hb => Nat.le_of_not_lt fun e => hb (.inl e)), Nat.le_trans h.few hc.size⟩
theorem Gro.append (hC : RunsC Rep) (h : Gro Rep B ms v L w0 w) {r : Nat × Nat} (h1 : w'.ownsRow B 39 2 v' (L.length + 1) (rcs L ++ [.int .i64 (r.1 : Int), .int .i64 (r.2 : Int)])) (h2 : w.grownBy w' v.ownBlock)
    (h3 : v'.ownBlock = v.ownBlock ∨ v'.ownBlock = some w.heap.size) : Gro Rep B ms v' (L ++ [r]) w0 w' := by
  have hc : Chg (fun b => b < B ∨ v.ownBlock = some b) w w' := (Chg.refl _ w).grown h2 (fun k hk => .inl (.inr hk))
  have hlt := h1.lt
  refine ⟨by unfold OwnR; rw [List.length_append, rcs_app]; exact h1, h.has.step hC hc ?_, h.bel.grown h2 h.few fun k hk => (h.row.lt k hk).1, Nat.le_trans h.few hc.size⟩
  rintro b (hb | hb)
  · exact ⟨.inl (.inl hb), Nat.lt_of_lt_of_le hb (Nat.le_trans h.few hc.size)⟩
  · refine ⟨?_, (hlt b hb).2⟩
    rcases h3 with e | e
    · exact .inl (.inr (e.symm.trans hb))
    · rw [e] at hb; injection hb with hb; exact .inr (by omega)
end

theorem cell_some {w : World} {B g n c i : Nat} {xs : List Value} (h : w.ownsRow B 39 2 (.slice (some ⟨g, 0, none⟩) n c) n xs) (hi : i < n * 2) : ∃ u, w.cell? ⟨g, i, none⟩ = some u := by
  have hl : xs.length = n * 2 := h.1
  exact ⟨_, (h.cellAt i hi).trans (List.getElem?_eq_getElem (by omega))⟩
/-- What was taken: the pieces, one behind another from the start on. -/
structure Row1 (L : List (Nat × Nat)) (s t : Nat) : Prop where
  pcs : Rn.Pieces (Rn.pre s t) L
  fit : ∀ r ∈ L, r.1 + r.2 ≤ s
  sum : s + t = 200
  last : (L = [] ∧ s = 0) ∨ ∃ L0 a n, L = L0 ++ [(a, n)] ∧ a + n = s
theorem Row1.start : Row1 [] 0 200 := ⟨Rn.Pieces.start 200, by simp, rfl, .inl ⟨rfl, rfl⟩⟩
theorem Row1.next {L : List (Nat × Nat)} {s t n : Nat} (h : Row1 L s t) (h1 : 1 ≤ n) (hn : n ≤ t) : Row1 (L ++ [(s, n)]) (s + n) (t - n) := by
  obtain ⟨k1, k2⟩ := h.pcs.next h.fit h1 hn
  exact ⟨k1, k2, by have := h.sum; omega, .inr ⟨L, s, n, rfl, rfl⟩⟩
def Gr1 (Rep : World → Nat → (Nat → Prop) → List Bool → Prop) (B g i : Nat) (w0 : World) (v6 : Value) (wr : World) : Prop :=
  ∃ L s t, Row1 L s t ∧ L.length ≤ i ∧ Gro Rep B [(g, Rn.pre s t)] v6 L w0 wr
def Gr2 (Rep : World → Nat → (Nat → Prop) → List Bool → Prop) (B g gc q i : Nat) (A : Option Addr) (c : Nat) (G : List Bool) (w0 wr : World) : Prop :=
  ∃ L F, L.length = q ∧ F.length = 200 ∧ Rn.Pieces F (L.drop i) ∧ Gro Rep B [(g, F), (gc, G)] (.slice A q c) L w0 wr

set_option maxRecDepth 8000 in
set_option maxHeartbeats 16000000 in
theorem grow_any {Rep : World → Nat → (Nat → Prop) → List Bool → Prop} (hC : RunsC Rep) {w : World} {A1 A2 : Option Addr} {c1 c2 : Nat} {l m : List Nat} (s1 : Sl w w.heap.size A1 (byts l)) (s2 : Sl w w.heap.size A2 (byts m)) (hl : ∀ x ∈ l, x < 256) (hm : ∀ x ∈ m, x < 256) :
    Calls Try.prog 4 #[.slice A1 l.length c1, .slice A2 m.length c2] w fun e w' => e = .returned (.bool true) ∧ Below w.heap.size w w' := by
  have kt := run_two
  obtain ⟨i0, hi0, hz0, hs0, hb0⟩ := run_parts
  have AW := Lib.hid (rawake_any hC w)
  have HC := Lib.hid hC
  obtain ⟨B, hB⟩ : ∃ B, B = w.heap.size := ⟨_, rfl⟩
  have HBw := Lib.hid (show B ≤ w.heap.size by omega)
  rw [← hB] at AW s1 s2 ⊢
  have S1 := Lib.hid s1
  have S2 := Lib.hid s2
  have HL := Lib.hid hl
  have HM := Lib.hid hm
  obtain ⟨p, hp⟩ : ∃ p, p = l.length := ⟨_, rfl⟩
  have Hp := Lib.hid hp
  rw [← hp]
  obtain ⟨q, hq⟩ : ∃ q, q = m.length := ⟨_, rfl⟩
  have Hq := Lib.hid hq
  rw [← hq]
  clear hC hB s1 s2 hl hm hp hq
  by_cases h60 : 30 < p ∨ 100 < q
  · by_cases h61 : 30 < p
    · have q1 : decide (30 < (p : Int)) = true := by rw [decide_eq_true_eq]; omega
      have q2 : decide (30 < p) = true := by rw [decide_eq_true_eq]; exact h61
      clear h60 h61
      go_enter Try.func4, Try.ntmps4
      go_wp2_with fail
      refine AW.out.mono ?_
      rintro e w0 ⟨rfl, hb0⟩
      go_wp2_with fail
      go_ret
      exact ⟨rfl, hb0⟩
    · have q1 : decide (30 < (p : Int)) = false := by rw [decide_eq_false_iff_not]; omega
      have q2 : decide (30 < p) = false := by rw [decide_eq_false_iff_not]; exact h61
      have q3 : decide (100 < (q : Int)) = true := by rw [decide_eq_true_eq]; omega
      have q4 : decide (100 < q) = true := by rw [decide_eq_true_eq]; omega
      clear h60 h61
      go_enter Try.func4, Try.ntmps4
      go_wp2_with fail
      refine AW.out.mono ?_
      rintro e w0 ⟨rfl, hb0⟩
      go_wp2_with fail
      go_ret
      exact ⟨rfl, hb0⟩
  have q1 : decide (30 < (p : Int)) = false := by rw [decide_eq_false_iff_not]; omega
  have q2 : decide (30 < p) = false := by rw [decide_eq_false_iff_not]; omega
  have q3 : decide (100 < (q : Int)) = false := by rw [decide_eq_false_iff_not]; omega
  have q4 : decide (100 < q) = false := by rw [decide_eq_false_iff_not]; omega
  have hp60 : p ≤ 30 := by omega
  have hq60 : q ≤ 100 := by omega
  clear h60
  go_enter Try.func4, Try.ntmps4
  go_wp2_with fail
  refine AW.out.mono ?_
  rintro e w0 ⟨rfl, hb0⟩
  have S0 := Lib.hid (Nat.le_trans HBw.out hb0.size)
  have H0 := Lib.hid hb0
  have M0 := Lib.hid (Maps.none (Rep := Rep) (O := fun b => b < B) (w := w0) (fun b hb => Nat.lt_of_lt_of_le hb S0.out))
  have N1 := Lib.hid (new_at HC.out M0.out 200 (by unfold I64; omega))
  clear AW hb0
  go_wp2_with fail
  refine N1.out.mono ?_
  rintro e w1 ⟨g, rfl, m1, hb1⟩
  have C1 := Lib.hid (show Gr1 Rep B g 0 w (.slice none 0 0) w1 from ⟨[], 0, 200, Row1.start, Nat.le_refl _, by
    refine ⟨World.ownsRow_nil _ _ _ _, ?_, H0.out.trans (hb1.mono S0.out), Nat.le_trans S0.out hb1.size⟩
    have e : (fun b => b < B ∨ (Value.slice none 0 0).ownBlock = some b) = fun b => b < B := by funext b; simp [Value.ownBlock]
    rw [e]
    exact m1⟩)
  clear m1 hb1 N1 S0 H0 M0
  go_wp2_with fail
  go_loopw [6, 7] (fun v6 v7 wr => ∃ i : Nat, v7 = .int .i64 (i : Int) ∧ i ≤ p ∧ Gr1 Rep B g i w v6 wr) (fun _ v7 _ => p - (intOf v7).toNat)
  case atStart => exact ⟨0, rfl, Nat.zero_le _, C1.out⟩
  case round =>
    obtain ⟨i, rfl, hi, L, s, t, hrow, hLi, gr⟩ := hrel
    clear C1
    by_cases hip : i < p
    · have z0 : decide ((i : Int) < (p : Int)) = true := by rw [decide_eq_true_eq]; omega
      have z0' : decide (i < p) = true := by rw [decide_eq_true_eq]; exact hip
      obtain ⟨bb, o, rfl, hcx⟩ := sl_cell (S1.out.below gr.bel) (k := i) (by rw [← Hp.out]; exact hip)
      have hx := getB_lt HL.out i
      generalize l.getD i 0 = x at *
      obtain ⟨n, hn⟩ : ∃ n, n = 1 + x % 9 := ⟨_, rfl⟩
      have HK := Lib.hid (show (1 : Int) + (x : Int) % 9 = (n : Int) by omega)
      have hn1 : 1 ≤ n := by omega
      have hn9 : n ≤ 9 := by omega
      have hst := hrow.sum
      have N2 := gr.op (take_at HC.out gr.has (i := 0) (g := g) (F := Rn.pre s t) rfl (n : Int) (by unfold I64; omega))
      rw [Rn.take_pre hn1] at N2
      have HR := Lib.hid hrow
      obtain ⟨A, c, rfl⟩ := ownR_slice gr.row
      clear hn
      rcases hrow.last with ⟨hL0, hs0'⟩ | ⟨L0, a, b, hL0, hs0'⟩
      · subst hL0
        subst hs0'
        rw [if_pos (show n ≤ t by omega)] at N2
        have N2 := Lib.hid N2
        have zn : decide ((n : Int) ≤ 200) = true := by rw [decide_eq_true_eq]; omega
        have zn' : decide (n ≤ 200) = true := by rw [decide_eq_true_eq]; omega
        have Nx := Lib.hid (HR.out.next hn1 (show n ≤ t by omega))
        clear gr hrow HR
        go_upto_region 13 with fail
        rw [HK.out]
        go_wp2_with fail
        refine N2.out.mono ?_
        rintro e w3 ⟨rfl, g3⟩
        have G3 := Lib.hid g3
        clear g3 N2
        go_wp2_with fail
        go_quiet (fail)
        have G4 := Lib.hid (G3.out.below HC.out (w' := w3.drewN nq) (drewN_below nq))
        clear G3
        generalize w3.drewN nq = wv at *
        have hal : Below wv.heap.size wv (wv.alloc (.cells #[.int .i64 0, .int .i64 (n : Int)] 39)) := (Below.refl _ _).alloc (Nat.le_refl _) _
        have G5 := Lib.hid (G4.out.below HC.out hal)
        have Oz := Lib.hid G5.out.row
        have Fb := Lib.hid G5.out.few
        clear hal G4
        go_wp2_with (at_builtin; refine wpList_append_sls (base := B) _ rfl (.tmp 83) (.tmp 87) _ rfl Try.underlying37 hi0 hz0 hs0 hb0 rfl (by decide) rfl Oz.out (m := 1) (news := [.int .i64 0, .int .i64 (n : Int)]) rfl rfl (by simp) (Nat.le_refl _) sl_two (by simp [Value.oneCell']) (by unfold maxLen; simp) (by simp) Fb.out ?_; intro v8 w8 k1 k2 k3; have G8 := Lib.hid (G5.out.append HC.out (r := (0, n)) k1 k2 k3); clear k1 k2 k3)
        go_roundw
        case rel => exact ⟨i + 1, by go_num, by omega, _, _, _, Nx.out, by simp; skip, G8.out⟩
        case measure => simp [intOf]; omega
      · have hqp : L.length = L0.length + 1 := by rw [hL0, List.length_append]; rfl
        obtain ⟨gl, c', hv, -⟩ := ownR_at gr.row (by omega)
        injection hv with hA _ hc'
        subst hA
        subst hc'
        have hlast : L.getD L0.length (0, 0) = (a, b) := by rw [hL0, List.getD_eq_getElem?_getD, List.getElem?_append_right (Nat.le_refl _), Nat.sub_self]; rfl
        have Own3 := Lib.hid (fun (W : World) (F : List Bool) (h : Gro Rep B [(g, F)] (.slice (some ⟨gl, 0, none⟩) L.length c) L w W) => show W.cell? ⟨gl, L0.length * 2, none⟩ = some (.int .i64 (a : Int)) ∧ W.cell? ⟨gl, L0.length * 2 + 1, none⟩ = some (.int .i64 (b : Int)) by
          obtain ⟨gl2, c2, hv, -, -, hcell, -⟩ := ownR_at h.row (by omega)
          injection hv with hA _ _
          injection hA with hA
          injection hA with hA _ _
          subst hA
          have := hcell L0.length (by omega)
          rw [hlast] at this
          exact this)
        have hLq : L.length ≤ 30 := by omega
        have hab : a + b ≤ 200 := by omega
        obtain ⟨k, hk⟩ : ∃ k, k = L.length := ⟨_, rfl⟩
        obtain ⟨j, hj⟩ : ∃ j, j = L0.length := ⟨_, rfl⟩
        have Hk := Lib.hid hk
        rw [← hk] at N2 Own3 hqp hLq hLi
        rw [← hj] at Own3 hqp
        have w1' : (k : Int) - 1 = (j : Int) := by omega
        have w1w : IntKind.i64.wrap ((k : Int) - 1) = (j : Int) := by rw [w1', IntKind.wrap_i64]; omega
        have w1v : IntKind.i64.wrap (j : Int) = (j : Int) := by rw [IntKind.wrap_i64]; omega
        have w2 : (a : Int) + (b : Int) = (s : Int) := by omega
        have w2w : IntKind.i64.wrap ((a : Int) + (b : Int)) = (s : Int) := by rw [w2, IntKind.wrap_i64]; omega
        have w2v : IntKind.i64.wrap (s : Int) = (s : Int) := by rw [IntKind.wrap_i64]; omega
        obtain ⟨u, hu⟩ : ∃ u, u = s + n := ⟨_, rfl⟩
        have w3 : (s : Int) + (n : Int) = (u : Int) := by omega
        have w3w : IntKind.i64.wrap ((s : Int) + (n : Int)) = (u : Int) := by rw [w3, IntKind.wrap_i64]; omega
        have w3v : IntKind.i64.wrap (u : Int) = (u : Int) := by rw [IntKind.wrap_i64]; omega
        have zk : (0 : Int) < (k : Int) := by omega
        have zk1 : ((k : Int) == 0) = false := by rw [beq_eq_false_iff_ne]; omega
        have zk1' : (k == 0) = false := by rw [beq_eq_false_iff_ne]; omega
        have zk2 : decide ((0 : Int) < (k : Int)) = true := by rw [decide_eq_true_eq]; exact zk
        have zk2' : decide (0 < k) = true := by rw [decide_eq_true_eq]; omega
        have zj : (0 : Int) ≤ (j : Int) ∧ (j : Int) < (k : Int) := by omega
        have Hst := Lib.hid hst
        by_cases hnt : n ≤ t
        · rw [if_pos hnt] at N2
          have N2 := Lib.hid N2
          have Nx := Lib.hid (HR.out.next hn1 hnt)
          have zn : decide ((u : Int) ≤ 200) = true := by rw [decide_eq_true_eq]; omega
          have zn' : decide (u ≤ 200) = true := by rw [decide_eq_true_eq]; omega
          clear gr hrow HR hL0 hs0' hlast hk hj hu hst hqp
          go_upto_region 13 with fail
          rw [HK.out]
          rw [← Hk.out]
          go_wp2_with fail
          refine N2.out.mono ?_
          rintro e w3 ⟨rfl, g3⟩
          have G3 := Lib.hid g3
          obtain ⟨cl1, cl2⟩ := Own3.out _ _ g3
          clear g3 N2
          go_wp2_with fail
          go_quiet (fail)
          have G4 := Lib.hid (G3.out.below HC.out (w' := w3.drewN nq) (drewN_below nq))
          clear G3 cl1 cl2
          generalize w3.drewN nq = wv at *
          have hal : Below wv.heap.size wv (wv.alloc (.cells #[.int .i64 (s : Int), .int .i64 (n : Int)] 39)) := (Below.refl _ _).alloc (Nat.le_refl _) _
          have G5 := Lib.hid (G4.out.below HC.out hal)
          have Oz := Lib.hid (show World.ownsRow _ B 39 2 (.slice (some ⟨gl, 0, none⟩) k c) k (rcs L) from by have h := G5.out.row; unfold OwnR at h; rw [← Hk.out] at h; exact h)
          have Fb := Lib.hid G5.out.few
          clear hal G4
          go_wp2_with (at_builtin; refine wpList_append_sls (base := B) _ rfl (.tmp 83) (.tmp 87) _ rfl Try.underlying37 hi0 hz0 hs0 hb0 rfl (by decide) rfl Oz.out (m := 1) (news := [.int .i64 (s : Int), .int .i64 (n : Int)]) rfl rfl (by simp) (Nat.le_refl _) sl_two (by simp [Value.oneCell']) (by unfold maxLen; omega) (by omega) Fb.out ?_; intro v8 w8 k1 k2 k3; have G8 := Lib.hid (G5.out.append HC.out (r := (s, n)) (by rw [← Hk.out]; exact k1) k2 k3); clear k1 k2 k3)
          go_roundw
          case rel => exact ⟨i + 1, by go_num, by omega, _, _, _, Nx.out, by have := Hk.out; rw [List.length_append, List.length_singleton]; omega, G8.out⟩
          case measure => simp [intOf]; omega
        · rw [if_neg hnt] at N2
          have N2 := Lib.hid N2
          have zn : decide ((u : Int) ≤ 200) = false := by rw [decide_eq_false_iff_not]; omega
          have zn' : decide (u ≤ 200) = false := by rw [decide_eq_false_iff_not]; omega
          clear gr hrow hL0 hs0' hlast hk hj hu hst hqp
          go_upto_region 13 with fail
          rw [HK.out]
          rw [← Hk.out]
          go_wp2_with fail
          refine N2.out.mono ?_
          rintro e w3 ⟨rfl, g3⟩
          have G3 := Lib.hid g3
          obtain ⟨cl1, cl2⟩ := Own3.out _ _ g3
          clear g3 N2
          go_wp2_with fail
          go_quiet (fail)
          have G4 := Lib.hid (G3.out.below HC.out (w' := w3.drewN nq) (drewN_below nq))
          clear G3 cl1 cl2
          generalize w3.drewN nq = wv at *
          go_wp2_with fail
          go_roundw
          case rel => exact ⟨i + 1, by go_num, by omega, L, s, t, HR.out, by rw [← Hk.out]; omega, G4.out⟩
          case measure => simp [intOf]; omega
    · have hip' : i = p := by omega
      subst hip'
      have z0 : decide ((i : Int) < (i : Int)) = false := by simp
      have z0' : decide (i < i) = false := by simp
      obtain ⟨A, c, rfl⟩ := ownR_slice gr.row
      obtain ⟨k, hk⟩ : ∃ k, k = L.length := ⟨_, rfl⟩
      have hki : k ≤ i := by omega
      have N2 := Lib.hid (copy_at HC.out gr.has (i := 0) (g := g) (F := Rn.pre s t) rfl)
      have GR := Lib.hid gr
      have HR := Lib.hid hrow
      have Hk := Lib.hid hk
      rw [← hk]
      clear gr hrow hk hLi
      go_wp2_with fail
      refine N2.out.mono ?_
      rintro e w3 ⟨gc, rfl, m3, hb3⟩
      have M3 := Lib.hid (show Gro Rep B [(g, Rn.pre s t), (gc, Rn.pre s t)] (.slice A L.length c) L w w3 from ⟨own_keep GR.out.row fun b _ hlt => hb3.block b hlt, m3, GR.out.bel.trans (hb3.mono GR.out.few), Nat.le_trans GR.out.few hb3.size⟩)
      obtain ⟨G, hG⟩ : ∃ G, G = Rn.pre s t := ⟨_, rfl⟩
      have N3 := Lib.hid (free_at HC.out M3.out.has (i := 1) (g := gc) (F := Rn.pre s t) rfl)
      rw [← hG] at N3
      clear m3 hb3 N2 GR
      go_wp2_with fail
      refine N3.out.mono ?_
      rintro e w4 ⟨rfl, -, hb4⟩
      have C4 := Lib.hid (show Gr2 Rep B g gc k 0 A c G w w4 from ⟨L, Rn.pre s t, Hk.out.symm, by rw [Rn.pre_len]; exact HR.out.sum, HR.out.pcs, by rw [hG, Hk.out]; exact M3.out.below HC.out hb4⟩)
      obtain ⟨u, hu⟩ : ∃ u, u = Rn.freeN G := ⟨_, rfl⟩
      have Hu := Lib.hid hu
      rw [← hu]
      clear hb4 M3 N3 HR Hk hG hu
      clear L
      go_wp2_with fail
      go_loopw [13] (fun v13 wr => ∃ j : Nat, v13 = .int .i64 (j : Int) ∧ j ≤ k ∧ Gr2 Rep B g gc k j A c G w wr) (fun v13 _ => k - (intOf v13).toNat)
      case atStart => exact ⟨0, rfl, Nat.zero_le _, C4.out⟩
      case round =>
        obtain ⟨j, rfl, hj, L, F, hLk, hF, hP, gr⟩ := hrel
        clear C4
        by_cases hjk : j < k
        · have z1 : decide ((j : Int) < (k : Int)) = true := by rw [decide_eq_true_eq]; omega
          have z1' : decide (j < k) = true := by rw [decide_eq_true_eq]; exact hjk
          obtain ⟨gl, c', hv, -⟩ := ownR_at gr.row (by omega)
          injection hv with hA hlk0 hc'
          subst hA
          subst hc'
          have GR := Lib.hid gr
          have HP := Lib.hid hP
          have HF := Lib.hid hF
          have HLk := Lib.hid hLk
          clear hP hF gr hlk0 hLk
          have HM2 := Lib.hid HM.out
          clear HM
          by_cases hjq : j < q
          · have z2 : decide ((j : Int) < (q : Int)) = true := by rw [decide_eq_true_eq]; omega
            have z2' : decide (j < q) = true := by rw [decide_eq_true_eq]; exact hjq
            obtain ⟨bb, o, rfl, hcx⟩ := sl_cell (S2.out.below GR.out.bel) (k := j) (by rw [← Hq.out]; exact hjq)
            have hx := getB_lt HM2.out j
            generalize m.getD j 0 = x at *
            obtain ⟨d, hd⟩ : ∃ d, d = k - j := ⟨_, rfl⟩
            obtain ⟨r, hr⟩ : ∃ r, r = x % d := ⟨_, rfl⟩
            have hd1 : 1 ≤ d := by omega
            have hrd : r < d := by rw [hr]; exact Nat.mod_lt _ hd1
            obtain ⟨kk, hkk⟩ : ∃ kk, kk = j + r := ⟨_, rfl⟩
            have hjkk : j ≤ kk := by omega
            have hkkk : kk < k := by omega
            have D1 := Lib.hid (show (k : Int) - (j : Int) = (d : Int) by omega)
            have D2 := Lib.hid (show (x : Int) % (d : Int) = (r : Int) by rw [hr]; rfl)
            have D3 := Lib.hid (show (j : Int) + (r : Int) = (kk : Int) by omega)
            have D4 := Lib.hid (show wrap64 ((j : Int) + (x : Int) % ((k : Int) - (j : Int))) = (kk : Int) by
              rw [D1.out, D2.out, D3.out]
              unfold wrap64
              omega)
            have hd0 : ((d : Int) == 0) = false := by rw [beq_eq_false_iff_ne]; omega
            have hd0' : (d : Int) ≠ 0 := by omega
            clear hd hr hkk
            have hKK := Lib.hid (show j ≤ kk ∧ kk < k from ⟨hjkk, hkkk⟩)
            have own := GR.out.row
            unfold OwnR at own
            rw [HLk.out] at own
            obtain ⟨gl2, c2, hv, -, -, hcell, -, -⟩ := ownR_at GR.out.row (by rw [HLk.out]; omega)
            injection hv with hA hw1 hw2
            injection hA with hA
            injection hA with hA hw3 hw4
            subst hA
            clear hw1 hw2 hw3 hw4
            obtain ⟨cj1, cj2⟩ := hcell j (by rw [HLk.out]; exact hjk)
            obtain ⟨ck1, ck2⟩ := hcell kk (by rw [HLk.out]; exact hkkk)
            obtain ⟨p1, p2, p3⟩ := swapL_drop (L := L) hjkk (by rw [HLk.out]; exact hkkk)
            have hPs := HP.out.perm p1
            rw [p2] at hPs
            have hfit := hPs.fit _ (List.mem_cons_self ..)
            obtain ⟨v1, v2, v3⟩ := hPs.give
            have rs := rcs_set L j (L.getD kk (0, 0)) (by rw [HLk.out]; exact hjk)
            have rs2 := rcs_set (L.set j (L.getD kk (0, 0))) kk (L.getD j (0, 0)) (by rw [List.length_set, HLk.out]; exact hkkk)
            rw [show (L.set j (L.getD kk (0, 0))).set kk (L.getD j (0, 0)) = swapL L j kk from rfl] at rs2
            have hsl := swapL_len L j kk
            obtain ⟨M, hM⟩ : ∃ M, M = swapL L j kk := ⟨_, rfl⟩
            rw [← hM] at rs2 hsl v2 p3
            generalize L.set j (L.getD kk (0, 0)) = L1 at rs rs2
            rw [HF.out] at hfit
            obtain ⟨⟨a1, b1⟩, hx1⟩ : ∃ x, x = L.getD j (0, 0) := ⟨_, rfl⟩
            obtain ⟨⟨a2, b2⟩, hx2⟩ : ∃ x, x = L.getD kk (0, 0) := ⟨_, rfl⟩
            rw [← hx1] at cj1 cj2 rs2
            rw [← hx2] at ck1 ck2 rs v1 v2 v3 p3 hfit
            dsimp only at cj1 cj2 ck1 ck2 rs rs2 v1 v2 v3 hfit
            have hF2 := Rn.setN_len F a2 true b2
            rw [HF.out] at hF2
            obtain ⟨F2, hF2e⟩ : ∃ F2, F2 = Rn.setN F a2 true b2 := ⟨_, rfl⟩
            rw [← hF2e] at v1 v2 v3 hF2
            obtain ⟨W1, hW1⟩ : ∃ W, wr.setCell ⟨gl, j * 2, none⟩ (.int .i64 (a2 : Int)) = W := ⟨_, rfl⟩
            have r1 := (own.stored (j * 2) (.int .i64 (a2 : Int))).1
            rw [hW1] at r1
            obtain ⟨W2, hW2⟩ : ∃ W, W1.setCell ⟨gl, j * 2 + 1, none⟩ (.int .i64 (b2 : Int)) = W := ⟨_, rfl⟩
            have r2 := (r1.stored (j * 2 + 1) (.int .i64 (b2 : Int))).1
            rw [hW2, rs] at r2
            obtain ⟨W3, hW3⟩ : ∃ W, W2.setCell ⟨gl, kk * 2, none⟩ (.int .i64 (a1 : Int)) = W := ⟨_, rfl⟩
            have r3 := (r2.stored (kk * 2) (.int .i64 (a1 : Int))).1
            rw [hW3] at r3
            obtain ⟨W4, hW4⟩ : ∃ W, W3.setCell ⟨gl, kk * 2 + 1, none⟩ (.int .i64 (b1 : Int)) = W := ⟨_, rfl⟩
            have r4 := (r3.stored (kk * 2 + 1) (.int .i64 (b1 : Int))).1
            rw [hW4, rs2] at r4
            have fz0 := fun i => own.frozenAt i
            have fz1 := fun i => r1.frozenAt i
            have fz2 := fun i => r2.frozenAt i
            have fz3 := fun i => r3.frozenAt i
            obtain ⟨y1, f1⟩ := cell_some r1 (i := j * 2 + 1) (by omega)
            obtain ⟨y2, f2⟩ := cell_some r2 (i := kk * 2) (by omega)
            obtain ⟨y3, f3⟩ := cell_some r3 (i := kk * 2 + 1) (by omega)
            have hglB : B ≤ gl := (own.lt gl rfl).1
            have hch : Chg (fun b => b < B ∨ (Value.slice (some ⟨gl, 0, none⟩) k c).ownBlock = some b) wr W4 := by
              rw [← hW4, ← hW3, ← hW2, ← hW1]
              exact ((((Chg.refl _ _).setCell (.inl (.inr rfl)) _).setCell (.inl (.inr rfl)) _).setCell (.inl (.inr rfl)) _).setCell (.inl (.inr rfl)) _
            have hbe : Below B w W4 := by
              rw [← hW4, ← hW3, ← hW2, ← hW1]
              exact (((GR.out.bel.setCell hglB _).setCell hglB _).setCell hglB _).setCell hglB _
            have G4 := Lib.hid (show Gro Rep B [(g, F), (gc, G)] (.slice (some ⟨gl, 0, none⟩) k c) M w W4.drew from by
              refine Gro.below HC.out (w := W4) ⟨?_, GR.out.has.keep HC.out hch, hbe, Nat.le_trans GR.out.few hch.size⟩ (Below.refl _ _).drew
              unfold OwnR
              rw [hsl, HLk.out]
              exact r4)
            have HM := Lib.hid (show M.length = k by rw [hsl, HLk.out])
            have V1 := Lib.hid v1
            have V2 := Lib.hid v2
            have V3 := Lib.hid v3
            have P3 := Lib.hid p3
            have HF2 := Lib.hid hF2
            clear own r1 r2 r3 r4 hcell p1 p2 p3 hPs v1 v2 v3 rs rs2 hsl hM hx1 hx2 hF2 hF2e hch hbe GR HP HF HLk
            go_upto_region 26 with fail
            rw [D4.out]
            clear hd0 hd0' hx
            go_region
            have G5 := Lib.hid (G4.out)
            clear hW1 hW2 hW3 hW4 f1 f2 f3 fz0 fz1 fz2 fz3 cj1 cj2 ck1 ck2 G4
            generalize W4.drew = wv at *
            have Kp := Lib.hid (fun (W : World) (ms : List (Nat × List Bool)) (h : Gro Rep B ms (.slice (some ⟨gl, 0, none⟩) k c) M w W) => show W.cell? ⟨gl, j * 2, none⟩ = some (.int .i64 (a2 : Int)) ∧ W.cell? ⟨gl, j * 2 + 1, none⟩ = some (.int .i64 (b2 : Int)) by
              obtain ⟨gl2, c2, hv, -, -, hcell, -, -⟩ := ownR_at h.row (by rw [HM.out]; omega)
              injection hv with hA _ _
              injection hA with hA
              injection hA with hA _ _
              subst hA
              have := hcell j (by rw [HM.out]; exact hjk)
              rw [P3.out] at this
              exact this)
            have cc := Kp.out _ _ G5.out
            obtain ⟨cc1, cc2⟩ := cc
            have N2 := Gro.op (G5.out.below HC.out (w' := wv.drew) (Below.refl _ _).drew) (give_at HC.out (G5.out.below HC.out (w' := wv.drew) (Below.refl _ _).drew).has (i := 0) (g := g) (F := F) rfl (a2 : Int) (b2 : Int) (by unfold I64; omega) (by unfold I64; omega))
            rw [V1.out] at N2
            simp only [List.set_cons_zero] at N2
            have N2 := Lib.hid N2
            have N3 := Lib.hid (fun (W : World) (h : Gro Rep B [(g, F2), (gc, G)] (.slice (some ⟨gl, 0, none⟩) k c) M w W) => show Calls Try.prog 15 #[.pointer (some ⟨g, 0, none⟩), .int .i64 (a2 : Int), .int .i64 (b2 : Int)] W fun e w' => e = .returned (.bool false) ∧ Gro Rep B [(g, F2), (gc, G)] (.slice (some ⟨gl, 0, none⟩) k c) M w w' by
              have := h.op (give_at HC.out h.has (i := 0) (g := g) (F := F2) rfl (a2 : Int) (b2 : Int) (by unfold I64; omega) (by unfold I64; omega))
              rw [V3.out] at this
              simp only [List.set_cons_zero] at this
              exact this)
            go_wp2_with fail
            go_region_held_law (fun w' => w'.cell? ⟨gl, j * 2, none⟩ = some (.int .i64 (a2 : Int)) ∧ w'.cell? ⟨gl, j * 2 + 1, none⟩ = some (.int .i64 (b2 : Int))) (first | exact Kp.out _ _ gq | exact ⟨cc1, cc2⟩) (first
              | (go_at_call 15; (with_reducible refine N2.out.mono ?_); rintro e w3 ⟨rfl, gq⟩)
              | (go_at_call 15; (with_reducible refine (N3.out _ gq).mono ?_); rintro e w4 ⟨rfl, gq⟩))
            all_goals
              have G9 := Lib.hid gq
              go_wp2_with fail
              go_roundw
              case rel => exact ⟨j + 1, by go_num, by omega, M, F2, HM.out, HF2.out, V2.out, G9.out⟩
              case measure => simp [intOf]; omega
          · have z2 : decide ((j : Int) < (q : Int)) = false := by rw [decide_eq_false_iff_not]; omega
            have z2' : decide (j < q) = false := by rw [decide_eq_false_iff_not]; exact hjq
            have hjkk : j ≤ j := Nat.le_refl j
            have hkkk : j < k := hjk
            have hKK := Lib.hid (show j ≤ j ∧ j < k from ⟨hjkk, hkkk⟩)
            have own := GR.out.row
            unfold OwnR at own
            rw [HLk.out] at own
            obtain ⟨gl2, c2, hv, -, -, hcell, -, -⟩ := ownR_at GR.out.row (by rw [HLk.out]; omega)
            injection hv with hA hw1 hw2
            injection hA with hA
            injection hA with hA hw3 hw4
            subst hA
            clear hw1 hw2 hw3 hw4
            obtain ⟨cj1, cj2⟩ := hcell j (by rw [HLk.out]; exact hjk)
            obtain ⟨ck1, ck2⟩ := hcell j (by rw [HLk.out]; exact hkkk)
            obtain ⟨p1, p2, p3⟩ := swapL_drop (L := L) hjkk (by rw [HLk.out]; exact hkkk)
            have hPs := HP.out.perm p1
            rw [p2] at hPs
            have hfit := hPs.fit _ (List.mem_cons_self ..)
            obtain ⟨v1, v2, v3⟩ := hPs.give
            have rs := rcs_set L j (L.getD j (0, 0)) (by rw [HLk.out]; exact hjk)
            have rs2 := rcs_set (L.set j (L.getD j (0, 0))) j (L.getD j (0, 0)) (by rw [List.length_set, HLk.out]; exact hkkk)
            rw [show (L.set j (L.getD j (0, 0))).set j (L.getD j (0, 0)) = swapL L j j from rfl] at rs2
            have hsl := swapL_len L j j
            obtain ⟨M, hM⟩ : ∃ M, M = swapL L j j := ⟨_, rfl⟩
            rw [← hM] at rs2 hsl v2 p3
            generalize L.set j (L.getD j (0, 0)) = L1 at rs rs2
            rw [HF.out] at hfit
            obtain ⟨⟨a1, b1⟩, hx1⟩ : ∃ x, x = L.getD j (0, 0) := ⟨_, rfl⟩
            obtain ⟨⟨a2, b2⟩, hx2⟩ : ∃ x, x = L.getD j (0, 0) := ⟨_, rfl⟩
            rw [← hx1] at cj1 cj2 rs2
            rw [← hx2] at ck1 ck2 rs v1 v2 v3 p3 hfit
            obtain ⟨rfl, rfl⟩ : a2 = a1 ∧ b2 = b1 := by have := hx2.trans hx1.symm; simpa using this
            dsimp only at cj1 cj2 ck1 ck2 rs rs2 v1 v2 v3 hfit
            have hF2 := Rn.setN_len F a2 true b2
            rw [HF.out] at hF2
            obtain ⟨F2, hF2e⟩ : ∃ F2, F2 = Rn.setN F a2 true b2 := ⟨_, rfl⟩
            rw [← hF2e] at v1 v2 v3 hF2
            obtain ⟨W1, hW1⟩ : ∃ W, wr.setCell ⟨gl, j * 2, none⟩ (.int .i64 (a2 : Int)) = W := ⟨_, rfl⟩
            have r1 := (own.stored (j * 2) (.int .i64 (a2 : Int))).1
            rw [hW1] at r1
            obtain ⟨W2, hW2⟩ : ∃ W, W1.setCell ⟨gl, j * 2 + 1, none⟩ (.int .i64 (b2 : Int)) = W := ⟨_, rfl⟩
            have r2 := (r1.stored (j * 2 + 1) (.int .i64 (b2 : Int))).1
            rw [hW2, rs] at r2
            obtain ⟨W3, hW3⟩ : ∃ W, W2.setCell ⟨gl, j * 2, none⟩ (.int .i64 (a2 : Int)) = W := ⟨_, rfl⟩
            have r3 := (r2.stored (j * 2) (.int .i64 (a2 : Int))).1
            rw [hW3] at r3
            obtain ⟨W4, hW4⟩ : ∃ W, W3.setCell ⟨gl, j * 2 + 1, none⟩ (.int .i64 (b2 : Int)) = W := ⟨_, rfl⟩
            have r4 := (r3.stored (j * 2 + 1) (.int .i64 (b2 : Int))).1
            rw [hW4, rs2] at r4
            have fz0 := fun i => own.frozenAt i
            have fz1 := fun i => r1.frozenAt i
            have fz2 := fun i => r2.frozenAt i
            have fz3 := fun i => r3.frozenAt i
            obtain ⟨y1, f1⟩ := cell_some r1 (i := j * 2 + 1) (by omega)
            obtain ⟨y2, f2⟩ := cell_some r2 (i := j * 2) (by omega)
            obtain ⟨y3, f3⟩ := cell_some r3 (i := j * 2 + 1) (by omega)
            have hglB : B ≤ gl := (own.lt gl rfl).1
            have hch : Chg (fun b => b < B ∨ (Value.slice (some ⟨gl, 0, none⟩) k c).ownBlock = some b) wr W4 := by
              rw [← hW4, ← hW3, ← hW2, ← hW1]
              exact ((((Chg.refl _ _).setCell (.inl (.inr rfl)) _).setCell (.inl (.inr rfl)) _).setCell (.inl (.inr rfl)) _).setCell (.inl (.inr rfl)) _
            have hbe : Below B w W4 := by
              rw [← hW4, ← hW3, ← hW2, ← hW1]
              exact (((GR.out.bel.setCell hglB _).setCell hglB _).setCell hglB _).setCell hglB _
            have G4 := Lib.hid (show Gro Rep B [(g, F), (gc, G)] (.slice (some ⟨gl, 0, none⟩) k c) M w W4.drew from by
              refine Gro.below HC.out (w := W4) ⟨?_, GR.out.has.keep HC.out hch, hbe, Nat.le_trans GR.out.few hch.size⟩ (Below.refl _ _).drew
              unfold OwnR
              rw [hsl, HLk.out]
              exact r4)
            have HM := Lib.hid (show M.length = k by rw [hsl, HLk.out])
            have V1 := Lib.hid v1
            have V2 := Lib.hid v2
            have V3 := Lib.hid v3
            have P3 := Lib.hid p3
            have HF2 := Lib.hid hF2
            clear own r1 r2 r3 r4 hcell p1 p2 p3 hPs v1 v2 v3 rs rs2 hsl hM hx1 hx2 hF2 hF2e hch hbe GR HP HF HLk
            go_wp2_with fail
            go_region
            have G5 := Lib.hid (G4.out)
            clear hW1 hW2 hW3 hW4 f1 f2 f3 fz0 fz1 fz2 fz3 cj1 cj2 ck1 ck2 G4
            generalize W4.drew = wv at *
            have Kp := Lib.hid (fun (W : World) (ms : List (Nat × List Bool)) (h : Gro Rep B ms (.slice (some ⟨gl, 0, none⟩) k c) M w W) => show W.cell? ⟨gl, j * 2, none⟩ = some (.int .i64 (a2 : Int)) ∧ W.cell? ⟨gl, j * 2 + 1, none⟩ = some (.int .i64 (b2 : Int)) by
              obtain ⟨gl2, c2, hv, -, -, hcell, -, -⟩ := ownR_at h.row (by rw [HM.out]; omega)
              injection hv with hA _ _
              injection hA with hA
              injection hA with hA _ _
              subst hA
              have := hcell j (by rw [HM.out]; exact hjk)
              rw [P3.out] at this
              exact this)
            have cc := Kp.out _ _ G5.out
            obtain ⟨cc1, cc2⟩ := cc
            have N2 := Gro.op (G5.out.below HC.out (w' := wv.drew) (Below.refl _ _).drew) (give_at HC.out (G5.out.below HC.out (w' := wv.drew) (Below.refl _ _).drew).has (i := 0) (g := g) (F := F) rfl (a2 : Int) (b2 : Int) (by unfold I64; omega) (by unfold I64; omega))
            rw [V1.out] at N2
            simp only [List.set_cons_zero] at N2
            have N2 := Lib.hid N2
            have N3 := Lib.hid (fun (W : World) (h : Gro Rep B [(g, F2), (gc, G)] (.slice (some ⟨gl, 0, none⟩) k c) M w W) => show Calls Try.prog 15 #[.pointer (some ⟨g, 0, none⟩), .int .i64 (a2 : Int), .int .i64 (b2 : Int)] W fun e w' => e = .returned (.bool false) ∧ Gro Rep B [(g, F2), (gc, G)] (.slice (some ⟨gl, 0, none⟩) k c) M w w' by
              have := h.op (give_at HC.out h.has (i := 0) (g := g) (F := F2) rfl (a2 : Int) (b2 : Int) (by unfold I64; omega) (by unfold I64; omega))
              rw [V3.out] at this
              simp only [List.set_cons_zero] at this
              exact this)
            go_wp2_with fail
            go_region_held_law (fun w' => w'.cell? ⟨gl, j * 2, none⟩ = some (.int .i64 (a2 : Int)) ∧ w'.cell? ⟨gl, j * 2 + 1, none⟩ = some (.int .i64 (b2 : Int))) (first | exact Kp.out _ _ gq | exact ⟨cc1, cc2⟩) (first
              | (go_at_call 15; (with_reducible refine N2.out.mono ?_); rintro e w3 ⟨rfl, gq⟩)
              | (go_at_call 15; (with_reducible refine (N3.out _ gq).mono ?_); rintro e w4 ⟨rfl, gq⟩))
            all_goals
              have G9 := Lib.hid gq
              go_wp2_with fail
              go_roundw
              case rel => exact ⟨j + 1, by go_num, by omega, M, F2, HM.out, HF2.out, V2.out, G9.out⟩
              case measure => simp [intOf]; omega
        · have hjk' : j = k := by omega
          subst hjk'
          have z1 : decide ((j : Int) < (j : Int)) = false := by simp
          have z1' : decide (j < j) = false := by simp
          rw [List.drop_eq_nil_of_le (by omega)] at hP
          have hFt := hP.none
          rw [hF] at hFt
          have N2 := list_at HC.out gr.has (i := 0) (g := g) (F := F) rfl
          rw [hFt, show (200 : Nat) = 199 + 1 from rfl, Rn.list_all] at N2
          have N2 := Lib.hid N2
          have Fb := Lib.hid gr.few
          have Bb := Lib.hid gr.bel
          have HC1 := Lib.hid (HC.out)
          clear hP hF hFt gr hLk
          go_wp2_with fail
          refine N2.out.mono ?_
          rintro e w5 ⟨v5, rfl, own5, m5, hb5⟩
          obtain ⟨g5, c5, rfl, hg5, hg52, hc5, -⟩ := ownR_at own5 (by decide)
          obtain ⟨cl1, cl2⟩ := hc5 0 (by decide)
          have N3 := free_at HC.out m5 (i := 1) (g := gc) (F := G) rfl
          rw [← Hu.out] at N3
          have N3 := Lib.hid N3
          have Fin := Lib.hid (Bb.out.trans (hb5.mono Fb.out))
          have Fb5 := Lib.hid (Nat.le_trans Fb.out hb5.size)
          have cl1' : w5.cell? ⟨g5, 0, none⟩ = some (.int .i64 0) := cl1
          have cl2' : w5.cell? ⟨g5, 1, none⟩ = some (.int .i64 200) := cl2
          clear N2 own5 m5 hb5 hc5 cl1 cl2
          go_wp2_with fail
          refine N3.out.mono ?_
          rintro e w6 ⟨rfl, -, hb6⟩
          have Fin2 := Lib.hid (Fin.out.trans (hb6.mono Fb5.out))
          clear hb6 N3 cl1' cl2'
          go_wp2_with fail
          go_ret
          exact ⟨rfl, Fin2.out⟩
end Go.Proofs.Ytdbgappaoeopbaa
