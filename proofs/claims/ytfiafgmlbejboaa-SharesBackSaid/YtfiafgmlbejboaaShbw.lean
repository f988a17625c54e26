/- SharesBack under the contracts. -/
import Derived.Test.YtfiafgmlbejboaaShbk
import Derived.Test.YtfiafgmlbejboaaShcp
import Derived.Test.YtfiafgmlbejboaaShla
import Derived.Test.YtfiafgmlbejboaaRpla
namespace Go.Proofs.Ytfiafgmlbejboaa
open Go.RowKit

/-- Numbers as cells, in a list. -/
def lcs (l : List Nat) : List Value := l.map fun n : Nat => Value.int .i64 (n : Int)
theorem lcs_len (l : List Nat) : (lcs l).length = l.length := by unfold lcs; rw [List.length_map]
theorem lint_row : ∃ i : TypeInfo, Try.prog.info? 3 = some i ∧ i.zero = some (.int .i64 0) ∧ i.size = 1 ∧ i.bytes = 8 := by
  obtain ⟨i, hi, hh⟩ := Option.map_eq_some_iff.1 lint_info
  simp only [Prod.mk.injEq] at hh
  exact ⟨i, hi, hh.1, hh.2.1, hh.2.2⟩
theorem lcs_at {l : List Nat} {i : Nat} (h : i < l.length) : (lcs l)[i]? = some (.int .i64 ((l.getD i 0 : Nat) : Int)) := by
  unfold lcs
  rw [List.getElem?_map, List.getElem?_eq_getElem h, List.getD_eq_getElem?_getD, List.getElem?_eq_getElem h]
  rfl
theorem sl_one {w : World} {a : Value} {t : TypeId} : Sl (w.alloc (.cells #[a] t)) (w.heap.size + 1) (some ⟨w.heap.size, 0, none⟩) [a] := .inr ⟨w.heap.size, 0, rfl, by omega, fun i hi => by
  have : i < 1 := hi
  obtain rfl : i = 0 := by omega
  exact (Blk.new w t _).cell 0⟩
theorem rows_ne {w : World} {B B' : Nat} {e e' : TypeId} {s s' n n' : Nat} {v v' : Value} {xs xs' : List Value} (h : w.ownsRow B e s v n xs) (h' : w.ownsRow B' e' s' v' n' xs') (hne : e ≠ e') {b : Nat} (hb : v.ownBlock = some b) : v'.ownBlock ≠ some b := fun hb' => by
  rcases h.2 with ⟨e1, _⟩ | ⟨g, cap, cur, e1, _, hg, _⟩
  · subst e1; cases hb
  rcases h'.2 with ⟨e2, _⟩ | ⟨g', cap', cur', e2, _, hg', _⟩
  · subst e2; cases hb'
  subst e1; subst e2
  injection hb with hb
  injection hb' with hb'
  subst hb
  have hb'' : g' = g := hb'
  subst hb''
  exact (Blk.ne_ (g := g') (g' := g') hg hg' hne) rfl
theorem lst_small {N : Nat} {l : List Sh.U} (h : Cap N l) (b : Bool) : ∀ r ∈ Sh.lst b l, r.1 ≤ 1000000 := fun r hr => by
  obtain ⟨u, hu, rfl⟩ := List.mem_map.1 hr
  exact (h.2 u (List.mem_filter.1 hu).1).1
theorem lst_few2 {N : Nat} {l : List Sh.U} (h : Cap N l) (b : Bool) : (Sh.lst b l).length ≤ N := by unfold Sh.lst; rw [List.length_map]; exact Nat.le_trans (List.length_filter_le _ _) h.1
/-- How often each was used. -/
def oft (U : List Sh.U) (L : List (Nat × Nat)) : List Nat := L.map fun r => Sh.uses U (r.1 : Int)
theorem oft_next {U : List Sh.U} {L : List (Nat × Nat)} {i : Nat} (h : i < L.length) : oft U (L.take (i + 1)) = oft U (L.take i) ++ [Sh.uses U ((L.getD i (0, 0)).1 : Int)] := by
  have hg : L[i]? = some (L.getD i (0, 0)) := by rw [List.getD_eq_getElem?_getD, List.getElem?_eq_getElem h]; rfl
  unfold oft
  rw [List.take_add_one, hg, List.map_append]
  rfl
theorem oft_len (U : List Sh.U) (L : List (Nat × Nat)) : (oft U L).length = L.length := by unfold oft; rw [List.length_map]
theorem oft_at {U : List Sh.U} {L : List (Nat × Nat)} {i : Nat} (h : i < L.length) : (oft U L).getD i 0 = Sh.uses U ((L.getD i (0, 0)).1 : Int) := by
  unfold oft
  rw [List.getD_eq_getElem?_getD, List.getElem?_map, List.getElem?_eq_getElem h, List.getD_eq_getElem?_getD, List.getElem?_eq_getElem h]
  rfl
theorem uses_few {N : Nat} {l : List Sh.U} (h : Cap N l) (a : Int) : Sh.uses l a ≤ N := by
  unfold Sh.uses
  cases hx : Sh.idx l a with
  | none => exact Nat.zero_le _
  | some k =>
    obtain ⟨hk, -⟩ := Sh.idx_some hx
    show (Sh.at_ l k).2.2 ≤ N
    unfold Sh.at_
    rw [List.getD_eq_getElem?_getD, List.getElem?_eq_getElem hk]
    exact (h.2 _ (List.getElem_mem hk)).2.2
theorem lint_cell {w : World} {B n c : Nat} {A : Option Addr} {vs : List Nat} (h : w.ownsRow B 3 1 (.slice A n c) n (lcs vs)) {i : Nat} (hi : i < n) (hn : n = vs.length) : ∃ g, A = some ⟨g, 0, none⟩ ∧ g < w.heap.size ∧ w.cell? ⟨g, i, none⟩ = some (.int .i64 ((vs.getD i 0 : Nat) : Int)) := by
  have hlt := h.lt
  rcases h.2 with ⟨h', h0⟩ | ⟨g, cap, cur, h', hg, _⟩
  · omega
  · injection h' with hA h2 h3
    subst hA
    subst h3
    exact ⟨g, rfl, (hlt g rfl).2, by rw [h.cellAt i (by omega), lcs_at (by omega)]⟩
/-- What is in use, and the rows that tell what was. -/
structure Bk2 (RepB : World → Nat → Nat → (Nat → Prop) → List Bool → List Sh.U → List Sh.U → Prop) (B B1 g gs : Nat) (F : List Bool) (now U : List Sh.U) (LW LF : List (Nat × Nat)) (vs : List Nat) (v4 v5 v13 : Value) (w wr : World) : Prop where
  far : FarS RepB B (fun b => b < B ∨ v4.ownBlock = some b ∨ v5.ownBlock = some b ∨ v13.ownBlock = some b) g gs F now U w wr
  was : OwnR wr B1 v4 LW
  fre : OwnR wr B1 v5 LF
  use : wr.ownsRow B1 3 1 v13 vs.length (lcs vs)
  few1 : B1 ≤ wr.heap.size
section
variable {Rep : World → Nat → (Nat → Prop) → List Bool → Prop} {RepB : World → Nat → Nat → (Nat → Prop) → List Bool → List Sh.U → List Sh.U → Prop} {B B1 g gs : Nat} {F F' : List Bool} {now now' U : List Sh.U} {LW LF : List (Nat × Nat)} {vs : List Nat} {v4 v5 v13 v' : Value} {w wr w' : World}
theorem Bk2.chg (h : Bk2 RepB B B1 g gs F now U LW LF vs v4 v5 v13 w wr) (hf : FarS RepB B (fun b => b < B ∨ v4.ownBlock = some b ∨ v5.ownBlock = some b ∨ v13.ownBlock = some b) g gs F' now' U w w') (hc : Chg (fun b => ¬ (b < B ∨ v4.ownBlock = some b ∨ v5.ownBlock = some b ∨ v13.ownBlock = some b)) wr w') : Bk2 RepB B B1 g gs F' now' U LW LF vs v4 v5 v13 w w' :=
  ⟨hf, own_keep h.was fun b hb hlt => hc.block b hlt fun hn => hn (.inr (.inl hb)), own_keep h.fre fun b hb hlt => hc.block b hlt fun hn => hn (.inr (.inr (.inl hb))), own_keep h.use fun b hb hlt => hc.block b hlt fun hn => hn (.inr (.inr (.inr hb))), Nat.le_trans h.few1 hc.size⟩
theorem Bk2.below (hS : ShC Rep RepB) (h : Bk2 RepB B B1 g gs F now U LW LF vs v4 v5 v13 w wr) (hb : Below wr.heap.size wr w') : Bk2 RepB B B1 g gs F now U LW LF vs v4 v5 v13 w w' :=
  ⟨h.far.below hS hb, own_keep h.was fun b _ hlt => hb.block b hlt, own_keep h.fre fun b _ hlt => hb.block b hlt, own_keep h.use fun b _ hlt => hb.block b hlt, Nat.le_trans h.few1 hb.size⟩
theorem Bk2.append (hS : ShC Rep RepB) (h : Bk2 RepB B B1 g gs F now U LW LF vs v4 v5 v13 w wr) (hB1 : B ≤ B1) {n : Nat} (h1 : w'.ownsRow B1 3 1 v' (vs.length + 1) (lcs vs ++ [.int .i64 (n : Int)])) (h2 : wr.grownBy w' v13.ownBlock)
    (h3 : v'.ownBlock = v13.ownBlock ∨ v'.ownBlock = some wr.heap.size) : Bk2 RepB B B1 g gs F now U LW LF (vs ++ [n]) v4 v5 v' w w' := by
  have hc : Chg (fun b => b < B ∨ v4.ownBlock = some b ∨ v5.ownBlock = some b ∨ v13.ownBlock = some b) wr w' := (Chg.refl _ wr).grown h2 (fun k hk => .inl (.inr (.inr (.inr hk))))
  have hlt := h1.lt
  have hw4 : ∀ b, v4.ownBlock = some b → b < wr.heap.size := fun b hb => (h.was.lt b hb).2
  have hw5 : ∀ b, v5.ownBlock = some b → b < wr.heap.size := fun b hb => (h.fre.lt b hb).2
  refine ⟨h.far.step hS hc ?_ (fun b hb => .inl hb) (h.far.bel.grown h2 h.far.few fun k hk => Nat.le_trans hB1 (h.use.lt k hk).1), own_keep h.was fun b hb hl => h2.block b hl fun e => ?_, own_keep h.fre fun b hb hl => h2.block b hl fun e => ?_, ?_, Nat.le_trans h.few1 hc.size⟩
  · rintro b (hb | hb | hb | hb)
    · exact ⟨.inl (.inl hb), Nat.lt_of_lt_of_le hb (Nat.le_trans h.far.few hc.size)⟩
    · exact ⟨.inl (.inr (.inl hb)), Nat.lt_of_lt_of_le (hw4 b hb) hc.size⟩
    · exact ⟨.inl (.inr (.inr (.inl hb))), Nat.lt_of_lt_of_le (hw5 b hb) hc.size⟩
    · refine ⟨?_, (hlt b hb).2⟩
      rcases h3 with e | e
      · exact .inl (.inr (.inr (.inr (e.symm.trans hb))))
      · rw [e] at hb; injection hb with hb; exact .inr (by omega)
  · exact rows_ne h.was h.use (by decide) hb e.symm
  · exact rows_ne h.fre h.use (by decide) hb e.symm
  · rw [List.length_append, List.length_singleton]
    unfold lcs at h1 ⊢
    rw [List.map_append]
    exact h1
end
/-- The first loop: what is in use. -/
def Bk1 (RepB : World → Nat → Nat → (Nat → Prop) → List Bool → List Sh.U → List Sh.U → Prop) (B g gs N : Nat) (w wr : World) : Prop :=
  ∃ F now, F.length = 60 ∧ Cap N now ∧ MineS RepB B g gs F now [] w wr

set_option maxRecDepth 8000 in
set_option maxHeartbeats 16000000 in
theorem back_any {Rep : World → Nat → (Nat → Prop) → List Bool → Prop} {RepB : World → Nat → Nat → (Nat → Prop) → List Bool → List Sh.U → List Sh.U → Prop} (hC : RunsC Rep) (hS : ShC Rep RepB) {w : World} {A1 A2 : Option Addr} {c1 c2 p : Nat} {l : List Nat} (s1 : Sl w w.heap.size A1 (byts l)) (hl : ∀ x ∈ l, x < 256)
    (D : Nat → Int × Int × Int) (hD : ∀ i, I64 (D i).2.1 ∧ I64 (D i).2.2) (hcs : DeedCells w w.heap.size A2 p D) :
    Calls Try.prog 9 #[.slice A1 l.length c1, .slice A2 p c2] w fun e w' => e = .returned (.bool true) ∧ Below w.heap.size w w' := by
  have AW := Lib.hid (shawake_any hC hS w)
  obtain ⟨B, hB⟩ : ∃ B, B = w.heap.size := ⟨_, rfl⟩
  have HC := Lib.hid hC
  have HS := Lib.hid hS
  have HBw := Lib.hid (show B ≤ w.heap.size by omega)
  rw [← hB] at AW s1 hcs ⊢
  have S1 := Lib.hid s1
  have CS := Lib.hid hcs
  have HL := Lib.hid hl
  have HD := Lib.hid hD
  obtain ⟨q, hq⟩ : ∃ q, q = l.length := ⟨_, rfl⟩
  have Hq := Lib.hid hq
  rw [← hq]
  clear hC hS hB s1 hcs hl hD hq
  by_cases h60 : 30 < q ∨ 80 < p
  · by_cases h61 : 30 < q
    · have q1 : decide (30 < (q : Int)) = true := by rw [decide_eq_true_eq]; omega
      have q2 : decide (30 < q) = true := by rw [decide_eq_true_eq]; exact h61
      clear h60 h61
      go_enter Try.func9, Try.ntmps9
      go_wp2_with fail
      refine AW.out.mono ?_
      rintro e w0 ⟨rfl, hb0⟩
      go_wp2_with fail
      go_ret
      exact ⟨rfl, hb0⟩
    · have q1 : decide (30 < (q : Int)) = false := by rw [decide_eq_false_iff_not]; omega
      have q2 : decide (30 < q) = false := by rw [decide_eq_false_iff_not]; exact h61
      have q3 : decide (80 < (p : Int)) = true := by rw [decide_eq_true_eq]; omega
      have q4 : decide (80 < p) = true := by rw [decide_eq_true_eq]; omega
      clear h60 h61
      go_enter Try.func9, Try.ntmps9
      go_wp2_with fail
      refine AW.out.mono ?_
      rintro e w0 ⟨rfl, hb0⟩
      go_wp2_with fail
      go_ret
      exact ⟨rfl, hb0⟩
  have q1 : decide (30 < (q : Int)) = false := by rw [decide_eq_false_iff_not]; omega
  have q2 : decide (30 < q) = false := by rw [decide_eq_false_iff_not]; omega
  have q3 : decide (80 < (p : Int)) = false := by rw [decide_eq_false_iff_not]; omega
  have q4 : decide (80 < p) = false := by rw [decide_eq_false_iff_not]; omega
  have hq30 : q ≤ 30 := by omega
  have hp80 : p ≤ 80 := by omega
  clear h60
  go_enter Try.func9, Try.ntmps9
  go_wp2_with fail
  refine AW.out.mono ?_
  rintro e w0 ⟨rfl, hb0⟩
  have S0 := Lib.hid (Nat.le_trans HBw.out hb0.size)
  have H0 := Lib.hid hb0
  have N1 := Lib.hid (new_mine HC.out 60 w0 (by unfold I64; omega))
  clear AW hb0
  go_wp2_with fail
  refine N1.out.mono ?_
  rintro e w1 ⟨g, rfl, m1, hb1⟩
  have N2 := Lib.hid (MineS.new (w0 := w) HS.out (show MineR Rep w1 B g (Rn.new 60) from by obtain ⟨X, e1, e2⟩ := m1; exact ⟨X, e1, fun b hb => Nat.le_trans S0.out (e2 b hb)⟩) (Nat.le_trans S0.out hb1.size) (H0.out.trans (hb1.mono S0.out)))
  clear m1 hb1 N1
  go_wp2_with fail
  refine N2.out.mono ?_
  rintro e w2 ⟨gs, rfl, m2⟩
  have M0 := Lib.hid (show Bk1 RepB B g gs (3 * 0) w w2 from ⟨_, _, by decide, ⟨by decide, by simp⟩, m2⟩)
  clear m2 N2
  go_wp2_with fail
  go_loopw [7] (fun v7 wr => ∃ i : Nat, v7 = .int .i64 (i : Int) ∧ i ≤ q ∧ Bk1 RepB B g gs (3 * i) w wr) (fun v7 _ => q - (intOf v7).toNat)
  case atStart => exact ⟨0, rfl, Nat.zero_le _, M0.out⟩
  case round =>
    obtain ⟨i, rfl, hi, F, now, hF, hcap, mm⟩ := hrel
    clear M0
    by_cases hiq : i < q
    · have z0 : decide ((i : Int) < (q : Int)) = true := by rw [decide_eq_true_eq]; omega
      have z0' : decide (i < q) = true := by rw [decide_eq_true_eq]; exact hiq
      have BY := Lib.hid (fun X (hb : Below B w X) => sl_cell (S1.out.below hb) (k := i) (by rw [← Hq.out]; exact hiq))
      obtain ⟨bb, o, rfl, hcx⟩ := BY.out _ mm.bel
      have hx := getB_lt HL.out i
      obtain ⟨x, hxe⟩ : ∃ x, x = l.getD i 0 := ⟨_, rfl⟩
      rw [← hxe] at hcx hx
      have CX := Lib.hid (fun X (hb : Below B w X) => show X.cell? ⟨bb, o + i, none⟩ = some (.int .u8 (x : Int)) by
        obtain ⟨b2, o2, e2, h2⟩ := BY.out _ hb
        injection e2 with e2
        injection e2 with e3 e4 _
        subst e3; subst e4
        rw [hxe]; exact h2)
      obtain ⟨n, hn⟩ : ∃ n, n = 1 + x % 4 := ⟨_, rfl⟩
      have ha3 : bits BinOp.and IntKind.u8 (x : Int) 3 = ((n - 1 : Nat) : Int) := by rw [and3_u8 hx, hn]; congr 1; omega
      obtain ⟨n1, hn1⟩ : ∃ n1, n1 = n - 1 := ⟨_, rfl⟩
      rw [← hn1] at ha3
      have hsum : (1 : Int) + (n1 : Int) = (n : Int) := by omega
      have hnn : 1 ≤ n := by omega
      have hn4 : n ≤ 4 := by omega
      obtain ⟨b4, hb4⟩ : ∃ b, (bits BinOp.and IntKind.u8 (x : Int) 4 == 4) = b := ⟨_, rfl⟩
      obtain ⟨b24, hb24⟩ : ∃ b, (bits BinOp.and IntKind.u8 (x : Int) 24 == 24) = b := ⟨_, rfl⟩
      clear hxe hn hn1
      rcases Sh.take_some (F := F) hnn with ⟨a, ht, haf, hfree⟩ | ht
      · have st := shst_taken mm.st hnn haf (by omega) (by have := hcap.1; omega) hfree
        have N := mm.take HC.out HS.out (n : Int) (by unfold I64; omega) (by rw [ht]; exact st.1)
        rw [ht] at N
        have N1 := Lib.hid N
        have ST := Lib.hid st
        have HCap := Lib.hid hcap
        have hF2 : (Rn.setN F a false n).length = 60 := by rw [Rn.setN_len]; exact hF
        have ha60 : a ≤ 60 := by omega
        clear st N ht hcap mm hfree haf hF
        generalize Rn.setN F a false n = G at *
        go_wp2_with fail
        refine N1.out.mono ?_
        rintro e w4 ⟨rfl, m4⟩
        have N := m4.add HS.out (a : Int) (n : Int) (by unfold I64; omega) (by unfold I64; omega) (by rw [ST.out.2.1]; exact ST.out.2.2)
        rw [ST.out.2.1] at N
        have N2 := Lib.hid N
        clear N m4 N1
        go_wp2_with fail
        refine N2.out.mono ?_
        rintro e w5 ⟨rfl, m5⟩
        have hcx5 := CX.out _ m5.bel
        have cap5 := HCap.out.ins (a := a) (n := n) (by omega) (by omega)
        clear N2 hcx
        cases b4 with
        | false =>
          cases b24 with
          | false =>
            have Fn := Lib.hid (show Bk1 RepB B g gs (3 * (i + 1)) w _ from ⟨G, _, hF2, (cap5).more (by omega), m5⟩)
            clear m5
            go_wp2_with fail
            go_roundw
            case rel => exact ⟨i + 1, by go_num, by omega, Fn.out⟩
            case measure => simp [intOf]; omega
          | true =>
            have N := m5.less HS.out (a : Int) (by unfold I64; omega) ((cap5.change (a : Int) false).uok (by omega))
            have N4 := Lib.hid N
            clear N m5
            go_wp2_with fail
            refine N4.out.mono ?_
            rintro e w7 ⟨rfl, m7⟩
            have cap7 := cap5.change (a : Int) false
            clear N4
            have Fn := Lib.hid (show Bk1 RepB B g gs (3 * (i + 1)) w _ from ⟨G, _, hF2, (cap7).more (by omega), m7⟩)
            clear m7
            go_wp2_with fail
            go_roundw
            case rel => exact ⟨i + 1, by go_num, by omega, Fn.out⟩
            case measure => simp [intOf]; omega
        | true =>
          cases b24 with
          | false =>
            have N := m5.more HS.out (a : Int) (by unfold I64; omega) ((cap5.change (a : Int) true).uok (by omega))
            have N3 := Lib.hid N
            have M5 := Lib.hid m5
            clear N m5
            go_wp2_with fail
            refine N3.out.mono ?_
            rintro e w6 ⟨rfl, m6⟩
            have hcx6 := CX.out _ m6.bel
            have cap6 := cap5.change (a : Int) true
            clear N3 hcx5
            have Fn := Lib.hid (show Bk1 RepB B g gs (3 * (i + 1)) w _ from ⟨G, _, hF2, (cap6).more (by omega), m6⟩)
            clear m6
            go_wp2_with fail
            go_roundw
            case rel => exact ⟨i + 1, by go_num, by omega, Fn.out⟩
            case measure => simp [intOf]; omega
          | true =>
            have N := m5.more HS.out (a : Int) (by unfold I64; omega) ((cap5.change (a : Int) true).uok (by omega))
            have N3 := Lib.hid N
            have M5 := Lib.hid m5
            clear N m5
            go_wp2_with fail
            refine N3.out.mono ?_
            rintro e w6 ⟨rfl, m6⟩
            have hcx6 := CX.out _ m6.bel
            have cap6 := cap5.change (a : Int) true
            clear N3 hcx5
            have N := m6.less HS.out (a : Int) (by unfold I64; omega) ((cap6.change (a : Int) false).uok (by omega))
            have N4 := Lib.hid N
            clear N m6
            go_wp2_with fail
            refine N4.out.mono ?_
            rintro e w7 ⟨rfl, m7⟩
            have cap7 := cap6.change (a : Int) false
            clear N4
            have Fn := Lib.hid (show Bk1 RepB B g gs (3 * (i + 1)) w _ from ⟨G, _, hF2, (cap7).more (by omega), m7⟩)
            clear m7
            go_wp2_with fail
            go_roundw
            case rel => exact ⟨i + 1, by go_num, by omega, Fn.out⟩
            case measure => simp [intOf]; omega
      · have N := mm.take HC.out HS.out (n : Int) (by unfold I64; omega) (by rw [ht]; exact mm.st)
        rw [ht] at N
        have N1 := Lib.hid N
        clear N ht mm
        go_wp2_with fail
        refine N1.out.mono ?_
        rintro e w4 ⟨rfl, m4⟩
        have Fn := Lib.hid (show Bk1 RepB B g gs (3 * (i + 1)) w _ from ⟨F, now, hF, hcap.more (by omega), m4⟩)
        clear m4 N1 hcx
        go_wp2_with fail
        go_roundw
        case rel => exact ⟨i + 1, by go_num, by omega, Fn.out⟩
        case measure => simp [intOf]; omega
    · have hiq' : i = q := by omega
      have z0 : decide ((i : Int) < (q : Int)) = false := by rw [decide_eq_false_iff_not]; omega
      have z0' : decide (i < q) = false := by rw [decide_eq_false_iff_not]; exact hiq
      have hcap90 := hcap.more (M := 90) (by omega)
      clear hiq' hcap
      have N := mm.settle HS.out
      have hok2 := mm.st.ok.settle
      have hlF : (Sh.giveAll F (Sh.lates now)).length = 60 := by rw [(Sh.giveAll_at (mm.st.ok.heldL (l := Sh.lates now) List.filter_sublist)).1, hF]
      have hcu : Cap 90 (Sh.used now) := hcap90.sub List.filter_sublist
      have hlt := Sh.lates_used now
      obtain ⟨F0, hF0⟩ : ∃ F0, F0 = Sh.giveAll F (Sh.lates now) := ⟨_, rfl⟩
      obtain ⟨U, hU⟩ : ∃ U, U = Sh.used now := ⟨_, rfl⟩
      rw [← hF0, ← hU] at N
      rw [← hF0] at hlF
      rw [← hU] at hcu hlt
      have N3 := Lib.hid N
      have HlF := Lib.hid hlF
      have HCu := Lib.hid hcu
      have HLt := Lib.hid hlt
      clear N mm hok2 hF hF0 hU hlF hcu hlt hcap90
      go_wp2_with fail
      refine N3.out.mono ?_
      rintro e w3 ⟨rfl, m3⟩
      have F3 := Lib.hid m3.far
      have N4 := Lib.hid (F3.out.list HS.out)
      clear m3 N3
      go_wp2_with fail
      refine N4.out.mono ?_
      rintro e w4 ⟨v4, rfl, own4, f4, hb4⟩
      obtain ⟨A4, c4, rfl⟩ := ownR_slice own4
      obtain ⟨LW, hLW⟩ : ∃ LW, LW = Sh.lst false U := ⟨_, rfl⟩
      rw [← hLW] at own4 ⊢
      have HLW := Lib.hid hLW
      have hsm := lst_small HCu.out false
      have hfw := lst_few2 HCu.out false
      rw [← hLW] at hsm hfw
      have SM := Lib.hid hsm
      clear hLW hsm
      obtain ⟨k, hk⟩ : ∃ k, k = LW.length := ⟨_, rfl⟩
      rw [← hk] at hfw ⊢
      have HK := Lib.hid hk
      have OW := Lib.hid own4
      have F4 := Lib.hid (F3.out.step (O' := fun b => b < B ∨ (Value.slice A4 k c4).ownBlock = some b) HS.out (Chg.of_below _ hb4) (fun b hb => hb.elim (fun h => ⟨.inl h, Nat.lt_of_lt_of_le (F3.out.old b h) hb4.size⟩) (fun h => by rw [hk] at h; exact ⟨.inr (own4.lt b h).1, (own4.lt b h).2⟩)) (fun b hb => .inl hb) f4.bel)
      have HB34 := Lib.hid hb4.size
      have N5 := Lib.hid (F4.out.rlist HC.out HS.out)
      clear own4 f4 hb4 N4 hk
      go_wp2_with fail
      refine N5.out.mono ?_
      rintro e w5 ⟨v5, rfl, own5, f5, hb5⟩
      obtain ⟨A5, c5, rfl⟩ := ownR_slice own5
      obtain ⟨LF, hLF⟩ : ∃ LF, LF = Rn.list F0 := ⟨_, rfl⟩
      rw [← hLF] at own5 ⊢
      have HLF := Lib.hid hLF
      have hfl : LF.length ≤ 60 := by rw [hLF]; have := listK_few F0 F0.length; have h6 := HlF.out; unfold Rn.list; omega
      obtain ⟨kf, hkf⟩ : ∃ k, k = LF.length := ⟨_, rfl⟩
      rw [← hkf] at hfl ⊢
      have HKF := Lib.hid hkf
      have B2 := Lib.hid (show Bk2 RepB B w3.heap.size g gs F0 U U LW LF [] (.slice A4 k c4) (.slice A5 kf c5) (.slice none 0 0) w w5 from ⟨F4.out.step HS.out (Chg.of_below _ hb5) (fun b hb => by
        rcases hb with h | h | h | h
        · exact ⟨.inl (.inl h), Nat.lt_of_lt_of_le (F4.out.old b (.inl h)) hb5.size⟩
        · exact ⟨.inl (.inr h), Nat.lt_of_lt_of_le (F4.out.old b (.inr h)) hb5.size⟩
        · rw [hkf] at h; exact ⟨.inr (own5.lt b h).1, (own5.lt b h).2⟩
        · cases h) (fun b hb => .inl hb) f5.bel, by rw [HK.out]; exact own_keep OW.out fun b _ hlt => hb5.block b hlt, by rw [HKF.out]; exact World.ownsRow_base own5 HB34.out, World.ownsRow_nil _ _ _ _, Nat.le_trans HB34.out hb5.size⟩)
      have HB13 := Lib.hid (show B ≤ w3.heap.size from F3.out.few)
      clear own5 f5 hb5 N5 F4 OW hLF hkf F3
      obtain ⟨i0, hi0, hz0, hs0, hb0⟩ := lint_row
      go_wp2_with fail
      go_loopw [13, 14] (fun v13 v14 wr => ∃ n : Nat, v14 = .int .i64 (n : Int) ∧ n ≤ k ∧ Bk2 RepB B w3.heap.size g gs F0 U U LW LF (oft U (LW.take n)) (.slice A4 k c4) (.slice A5 kf c5) v13 w wr) (fun _ v14 _ => k - (intOf v14).toNat)
      case atStart => exact ⟨0, rfl, Nat.zero_le _, B2.out⟩
      case round =>
        obtain ⟨n, rfl, hn, bk⟩ := hrel
        clear B2
        obtain ⟨A13, c13, rfl⟩ := own_slice bk.use
        obtain ⟨kv, hkv⟩ : ∃ kv, kv = (oft U (LW.take n)).length := ⟨_, rfl⟩
        have hkvn : kv = n := by rw [hkv, oft_len, List.length_take, ← HK.out]; omega
        rw [← hkv]
        by_cases hnk : n < k
        · have y0 : decide ((n : Int) < (k : Int)) = true := by rw [decide_eq_true_eq]; omega
          have y0' : decide (n < k) = true := by rw [decide_eq_true_eq]; exact hnk
          have hnl : n < LW.length := by rw [← HK.out]; exact hnk
          have was := bk.was
          rw [HK.out] at was
          obtain ⟨gl, hA, -, a1, -⟩ := ownR_cells was n hnl
          subst hA
          have nx := oft_next (U := U) hnl
          have hsm : (LW.getD n (0, 0)).1 ≤ 1000000 := by
            rw [List.getD_eq_getElem?_getD, List.getElem?_eq_getElem hnl]
            exact SM.out _ (List.getElem_mem hnl)
          have BKV := Lib.hid bk
          have N := bk.far.uses HS.out ((LW.getD n (0, 0)).1 : Int) (by unfold I64; omega)
          obtain ⟨uu, huu⟩ : ∃ uu, uu = Sh.uses U ((LW.getD n (0, 0)).1 : Int) := ⟨_, rfl⟩
          rw [← huu] at N nx
          have N6 := Lib.hid N
          have Nx := Lib.hid nx
          have HKV := Lib.hid hkv
          generalize (LW.getD n (0, 0)).1 = x at *
          clear N nx huu was bk hkv hnl hkvn
          have hkv90 : kv ≤ 90 := by rw [HKV.out, oft_len, List.length_take]; omega
          go_upto_region 26 with fail
          go_wp2_with (first
            | (go_at_call 42; (refine N6.out.mono ?_); rintro e w6 ⟨rfl, -, hb6⟩; have BKA := Lib.hid ((BKV.out.below HS.out hb6).below HS.out ((Below.refl w6.heap.size w6).alloc (Nat.le_refl _) (.cells #[.int .i64 (uu : Int)] 3))); have US := Lib.hid (show World.ownsRow (w6.alloc (.cells #[.int .i64 (uu : Int)] 3)) w3.heap.size 3 1 (.slice A13 kv c13) kv (lcs (oft U (LW.take n))) by (have h := BKA.out.use; rw [← HKV.out] at h; exact h)))
            | (at_builtin; (refine wpList_append_sls (base := w3.heap.size) _ rfl (.tmp 95) (.tmp 103) _ rfl Try.underlying56 hi0 hz0 hs0 hb0 rfl (by decide) rfl US.out (m := 1) (news := [.int .i64 (uu : Int)]) rfl rfl (by simp) (Nat.le_refl _) sl_one (by simp [Value.oneCell']) (by unfold maxLen; omega) (by omega) BKA.out.few1 ?_; intro v8 w8 k1 k2 k3; have Fn := Lib.hid (BKA.out.append HS.out HB13.out (by (rw [← HKV.out]; exact k1)) (by (rw [← HKV.out]; exact k2)) (by (rw [← HKV.out]; exact k3))); clear k1 k2 k3)))
          rw [← Nx.out] at Fn
          go_roundw
          case rel => exact ⟨n + 1, by go_num, by omega, Fn.out⟩
          case measure => simp [intOf]; omega
        · have hnk' : n = k := by omega
          have y0 : decide ((n : Int) < (k : Int)) = false := by rw [decide_eq_false_iff_not]; omega
          have y0' : decide (n < k) = false := by rw [decide_eq_false_iff_not]; exact hnk
          have htk : LW.take n = LW := by rw [hnk', HK.out, List.take_length]
          rw [htk, oft_len, ← HK.out] at hkv
          rw [htk, oft_len, ← HK.out] at bk
          have hkv := hkv.symm
          subst hkv
          have B3 := Lib.hid (show ∃ F now, F.length = 60 ∧ Cap (90 + 0) now ∧ Sh.giveAll F (Sh.news now U) = F0 ∧ Bk2 RepB B w3.heap.size g gs F now U LW LF (oft U LW) (.slice A4 k c4) (.slice A5 kf c5) (.slice A13 k c13) w wr from ⟨F0, U, HlF.out, HCu.out, by rw [Sh.news_same]; rfl, bk⟩)
          clear hnk' htk bk hkvn
          go_wp2_with fail
          go_loopw [15] (fun v15 wr => ∃ j : Nat, v15 = .int .i64 (j : Int) ∧ j ≤ p ∧ ∃ F now, F.length = 60 ∧ Cap (90 + j) now ∧ Sh.giveAll F (Sh.news now U) = F0 ∧ Bk2 RepB B w3.heap.size g gs F now U LW LF (oft U LW) (.slice A4 k c4) (.slice A5 kf c5) (.slice A13 k c13) w wr) (fun v15 _ => p - (intOf v15).toNat)
          case atStart => exact ⟨0, rfl, Nat.zero_le _, B3.out⟩
          case round =>
            obtain ⟨j, rfl, hjp, F, now, hF, hcap, hj, bk⟩ := hrel
            clear B3
            by_cases hjp2 : j < p
            · have y0 : decide ((j : Int) < (p : Int)) = true := by rw [decide_eq_true_eq]; omega
              have y0' : decide (j < p) = true := by rw [decide_eq_true_eq]; exact hjp2
              obtain ⟨db, dd, rfl, hdB, d0, d1, d2⟩ := (CS.out.below bk.far.bel) j hjp2
              have T0 := Lib.hid (HD.out j).1
              have T1 := Lib.hid (HD.out j).2
              obtain ⟨⟨x, y, z⟩, hxyz⟩ : ∃ t, t = D j := ⟨_, rfl⟩
              rw [← hxyz] at d0 d1 d2 T0 T1
              dsimp only at d0 d1 d2 T0 T1
              clear hxyz
              obtain ⟨d, hd⟩ : ∃ d, wr.heap.size = d := ⟨_, rfl⟩
              obtain ⟨W1, hW1⟩ : ∃ W, wr.alloc (.cells #[.int .i64 x, .int .i64 y, .int .i64 z] 50) = W := ⟨_, rfl⟩
              have bd := bk.below HS.out (w' := W1) (by rw [← hW1]; exact (Below.refl _ _).alloc (Nat.le_refl _) _)
              have bkd : Blk W1 d 50 #[.int .i64 x, .int .i64 y, .int .i64 z] := by rw [← hW1, ← hd]; exact Blk.new _ _ _
              have t0 : W1.cell? ⟨d, 0, none⟩ = some (.int .i64 x) := bkd.cell 0
              have t1 : W1.cell? ⟨d, 1, none⟩ = some (.int .i64 y) := bkd.cell 1
              have t2 : W1.cell? ⟨d, 2, none⟩ = some (.int .i64 z) := bkd.cell 2
              clear bk bkd
              by_cases hx0 : x = 0
              · subst hx0
                obtain ⟨t, ht3⟩ : ∃ t, t = (z % 4).toNat := ⟨_, rfl⟩
                have ha3 : bits BinOp.and IntKind.i64 z 3 = (t : Int) := by rw [and3_i64 z T1.out, ht3]
                have ht4 : t < 4 := by omega
                obtain ⟨n, hn⟩ : ∃ n, n = 1 + t := ⟨_, rfl⟩
                have hsum : (1 : Int) + (t : Int) = (n : Int) := by omega
                have hnn : 1 ≤ n := by omega
                have hn4 : n ≤ 4 := by omega
                clear hn ht3
                rcases Sh.take_some (F := F) hnn with ⟨a, ht, haf, hfree⟩ | ht
                · have st := shst_taken bd.far.st hnn haf (by omega) (by have := hcap.1; omega) hfree
                  have hj2 := Sh.back_taken bd.far.st.ok hj hnn haf hfree
                  have N := bd.far.take HC.out HS.out (n : Int) (by unfold I64; omega) (by rw [ht]; exact st.1)
                  rw [ht] at N
                  have N1 := Lib.hid N
                  have ST := Lib.hid st
                  have BD := Lib.hid bd
                  have HCap := Lib.hid hcap
                  have hF2 : (Rn.setN F a false n).length = 60 := by rw [Rn.setN_len]; exact hF
                  have HF2 := Lib.hid hF2
                  have HJ2 := Lib.hid hj2
                  have ha60 : a ≤ 60 := by omega
                  clear st N ht hcap bd hfree haf hF hj hF2 hj2
                  generalize Rn.setN F a false n = G at *
                  go_wp2_with fail
                  refine N1.out.mono ?_
                  rintro e w7 ⟨rfl, f7, hc7⟩
                  have BD7 := Lib.hid (BD.out.chg f7 hc7)
                  have N := BD7.out.far.add HS.out (a : Int) (n : Int) (by unfold I64; omega) (by unfold I64; omega) (by rw [ST.out.2.1]; exact ST.out.2.2)
                  rw [ST.out.2.1] at N
                  have N2 := Lib.hid N
                  clear N f7 hc7 N1
                  go_wp2_with fail
                  refine N2.out.mono ?_
                  rintro e w8 ⟨rfl, f8, hc8⟩
                  have Fn := Lib.hid (show ∃ F now, F.length = 60 ∧ Cap (90 + (j + 1)) now ∧ Sh.giveAll F (Sh.news now U) = F0 ∧ Bk2 RepB B w3.heap.size g gs F now U LW LF (oft U LW) (.slice A4 k c4) (.slice A5 kf c5) (.slice A13 k c13) w _ from ⟨G, Sh.ins now a n, HF2.out, (HCap.out.ins (a := a) (n := n) (by omega) (by omega)).more (by omega), HJ2.out, BD7.out.chg f8 hc8⟩)
                  clear f8 hc8 N2
                  go_wp2_with fail
                  go_roundw
                  case rel => exact ⟨j + 1, by go_num, by omega, Fn.out⟩
                  case measure => simp [intOf]; omega
                · have N := bd.far.take HC.out HS.out (n : Int) (by unfold I64; omega) (by rw [ht]; exact bd.far.st)
                  rw [ht] at N
                  have N1 := Lib.hid N
                  have BD := Lib.hid bd
                  clear N ht bd
                  go_wp2_with fail
                  refine N1.out.mono ?_
                  rintro e w7 ⟨rfl, f7, hc7⟩
                  have Fn := Lib.hid (show ∃ F now, F.length = 60 ∧ Cap (90 + (j + 1)) now ∧ Sh.giveAll F (Sh.news now U) = F0 ∧ Bk2 RepB B w3.heap.size g gs F now U LW LF (oft U LW) (.slice A4 k c4) (.slice A5 kf c5) (.slice A13 k c13) w _ from ⟨F, now, hF, hcap.more (by omega), hj, BD.out.chg f7 hc7⟩)
                  clear f7 hc7 N1
                  go_wp2_with fail
                  go_roundw
                  case rel => exact ⟨j + 1, by go_num, by omega, Fn.out⟩
                  case measure => simp [intOf]; omega
              by_cases hx1 : x = 1
              · subst hx1
                obtain ⟨t, ht3⟩ : ∃ t, t = (z % 4).toNat := ⟨_, rfl⟩
                have ha3 : bits BinOp.and IntKind.i64 z 3 = (t : Int) := by rw [and3_i64 z T1.out, ht3]
                have ht4 : t < 4 := by omega
                obtain ⟨n, hn⟩ : ∃ n, n = 1 + t := ⟨_, rfl⟩
                have hsum : (1 : Int) + (t : Int) = (n : Int) := by omega
                have hnn : 1 ≤ n := by omega
                have hn4 : n ≤ 4 := by omega
                clear hn ht3
                rcases Sh.take_some (F := F) hnn with ⟨a, ht, haf, hfree⟩ | ht
                · have st := shst_taken bd.far.st hnn haf (by omega) (by have := hcap.1; omega) hfree
                  have hj2 := Sh.back_taken bd.far.st.ok hj hnn haf hfree
                  have N := bd.far.take HC.out HS.out (n : Int) (by unfold I64; omega) (by rw [ht]; exact st.1)
                  rw [ht] at N
                  have N1 := Lib.hid N
                  have ST := Lib.hid st
                  have BD := Lib.hid bd
                  have HCap := Lib.hid hcap
                  have hF2 : (Rn.setN F a false n).length = 60 := by rw [Rn.setN_len]; exact hF
                  have HF2 := Lib.hid hF2
                  have HJ2 := Lib.hid hj2
                  have ha60 : a ≤ 60 := by omega
                  clear st N ht hcap bd hfree haf hF hj hF2 hj2
                  generalize Rn.setN F a false n = G at *
                  go_wp2_with fail
                  refine N1.out.mono ?_
                  rintro e w7 ⟨rfl, f7, hc7⟩
                  have BD7 := Lib.hid (BD.out.chg f7 hc7)
                  have N := BD7.out.far.add HS.out (a : Int) (n : Int) (by unfold I64; omega) (by unfold I64; omega) (by rw [ST.out.2.1]; exact ST.out.2.2)
                  rw [ST.out.2.1] at N
                  have N2 := Lib.hid N
                  clear N f7 hc7 N1
                  go_wp2_with fail
                  refine N2.out.mono ?_
                  rintro e w8 ⟨rfl, f8, hc8⟩
                  have Fn := Lib.hid (show ∃ F now, F.length = 60 ∧ Cap (90 + (j + 1)) now ∧ Sh.giveAll F (Sh.news now U) = F0 ∧ Bk2 RepB B w3.heap.size g gs F now U LW LF (oft U LW) (.slice A4 k c4) (.slice A5 kf c5) (.slice A13 k c13) w _ from ⟨G, Sh.ins now a n, HF2.out, (HCap.out.ins (a := a) (n := n) (by omega) (by omega)).more (by omega), HJ2.out, BD7.out.chg f8 hc8⟩)
                  clear f8 hc8 N2
                  go_wp2_with fail
                  go_roundw
                  case rel => exact ⟨j + 1, by go_num, by omega, Fn.out⟩
                  case measure => simp [intOf]; omega
                · have N := bd.far.take HC.out HS.out (n : Int) (by unfold I64; omega) (by rw [ht]; exact bd.far.st)
                  rw [ht] at N
                  have N1 := Lib.hid N
                  have BD := Lib.hid bd
                  clear N ht bd
                  go_wp2_with fail
                  refine N1.out.mono ?_
                  rintro e w7 ⟨rfl, f7, hc7⟩
                  have Fn := Lib.hid (show ∃ F now, F.length = 60 ∧ Cap (90 + (j + 1)) now ∧ Sh.giveAll F (Sh.news now U) = F0 ∧ Bk2 RepB B w3.heap.size g gs F now U LW LF (oft U LW) (.slice A4 k c4) (.slice A5 kf c5) (.slice A13 k c13) w _ from ⟨F, now, hF, hcap.more (by omega), hj, BD.out.chg f7 hc7⟩)
                  clear f7 hc7 N1
                  go_wp2_with fail
                  go_roundw
                  case rel => exact ⟨j + 1, by go_num, by omega, Fn.out⟩
                  case measure => simp [intOf]; omega
              by_cases hx2 : x = 2
              · subst hx2
                obtain ⟨t, ht3⟩ : ∃ t, t = (z % 4).toNat := ⟨_, rfl⟩
                have ha3 : bits BinOp.and IntKind.i64 z 3 = (t : Int) := by rw [and3_i64 z T1.out, ht3]
                have ht4 : t < 4 := by omega
                obtain ⟨n, hn⟩ : ∃ n, n = 1 + t := ⟨_, rfl⟩
                have hsum : (1 : Int) + (t : Int) = (n : Int) := by omega
                have hnn : 1 ≤ n := by omega
                have hn4 : n ≤ 4 := by omega
                clear hn ht3
                rcases Sh.take_some (F := F) hnn with ⟨a, ht, haf, hfree⟩ | ht
                · have st := shst_taken bd.far.st hnn haf (by omega) (by have := hcap.1; omega) hfree
                  have hj2 := Sh.back_taken bd.far.st.ok hj hnn haf hfree
                  have N := bd.far.take HC.out HS.out (n : Int) (by unfold I64; omega) (by rw [ht]; exact st.1)
                  rw [ht] at N
                  have N1 := Lib.hid N
                  have ST := Lib.hid st
                  have BD := Lib.hid bd
                  have HCap := Lib.hid hcap
                  have hF2 : (Rn.setN F a false n).length = 60 := by rw [Rn.setN_len]; exact hF
                  have HF2 := Lib.hid hF2
                  have HJ2 := Lib.hid hj2
                  have ha60 : a ≤ 60 := by omega
                  clear st N ht hcap bd hfree haf hF hj hF2 hj2
                  generalize Rn.setN F a false n = G at *
                  go_wp2_with fail
                  refine N1.out.mono ?_
                  rintro e w7 ⟨rfl, f7, hc7⟩
                  have BD7 := Lib.hid (BD.out.chg f7 hc7)
                  have N := BD7.out.far.add HS.out (a : Int) (n : Int) (by unfold I64; omega) (by unfold I64; omega) (by rw [ST.out.2.1]; exact ST.out.2.2)
                  rw [ST.out.2.1] at N
                  have N2 := Lib.hid N
                  clear N f7 hc7 N1
                  go_wp2_with fail
                  refine N2.out.mono ?_
                  rintro e w8 ⟨rfl, f8, hc8⟩
                  have Fn := Lib.hid (show ∃ F now, F.length = 60 ∧ Cap (90 + (j + 1)) now ∧ Sh.giveAll F (Sh.news now U) = F0 ∧ Bk2 RepB B w3.heap.size g gs F now U LW LF (oft U LW) (.slice A4 k c4) (.slice A5 kf c5) (.slice A13 k c13) w _ from ⟨G, Sh.ins now a n, HF2.out, (HCap.out.ins (a := a) (n := n) (by omega) (by omega)).more (by omega), HJ2.out, BD7.out.chg f8 hc8⟩)
                  clear f8 hc8 N2
                  go_wp2_with fail
                  go_roundw
                  case rel => exact ⟨j + 1, by go_num, by omega, Fn.out⟩
                  case measure => simp [intOf]; omega
                · have N := bd.far.take HC.out HS.out (n : Int) (by unfold I64; omega) (by rw [ht]; exact bd.far.st)
                  rw [ht] at N
                  have N1 := Lib.hid N
                  have BD := Lib.hid bd
                  clear N ht bd
                  go_wp2_with fail
                  refine N1.out.mono ?_
                  rintro e w7 ⟨rfl, f7, hc7⟩
                  have Fn := Lib.hid (show ∃ F now, F.length = 60 ∧ Cap (90 + (j + 1)) now ∧ Sh.giveAll F (Sh.news now U) = F0 ∧ Bk2 RepB B w3.heap.size g gs F now U LW LF (oft U LW) (.slice A4 k c4) (.slice A5 kf c5) (.slice A13 k c13) w _ from ⟨F, now, hF, hcap.more (by omega), hj, BD.out.chg f7 hc7⟩)
                  clear f7 hc7 N1
                  go_wp2_with fail
                  go_roundw
                  case rel => exact ⟨j + 1, by go_num, by omega, Fn.out⟩
                  case measure => simp [intOf]; omega
              by_cases hx3 : x = 3
              · subst hx3
                have N := bd.far.more HS.out y T0.out ((hcap.change y true).uok (by omega))
                have N1 := Lib.hid N
                have BD := Lib.hid bd
                clear N bd
                go_wp2_with fail
                refine N1.out.mono ?_
                rintro e w7 ⟨rfl, f7, hc7⟩
                have Fn := Lib.hid (show ∃ F now, F.length = 60 ∧ Cap (90 + (j + 1)) now ∧ Sh.giveAll F (Sh.news now U) = F0 ∧ Bk2 RepB B w3.heap.size g gs F now U LW LF (oft U LW) (.slice A4 k c4) (.slice A5 kf c5) (.slice A13 k c13) w _ from ⟨F, (Sh.change now y true).2, hF, hcap.change y true, Sh.back_change hj y true, BD.out.chg f7 hc7⟩)
                clear f7 hc7 N1
                go_wp2_with fail
                go_roundw
                case rel => exact ⟨j + 1, by go_num, by omega, Fn.out⟩
                case measure => simp [intOf]; omega
              by_cases hx4 : x = 4
              · subst hx4
                have N := bd.far.less HS.out y T0.out ((hcap.change y false).uok (by omega))
                have N1 := Lib.hid N
                have BD := Lib.hid bd
                clear N bd
                go_wp2_with fail
                refine N1.out.mono ?_
                rintro e w7 ⟨rfl, f7, hc7⟩
                have Fn := Lib.hid (show ∃ F now, F.length = 60 ∧ Cap (90 + (j + 1)) now ∧ Sh.giveAll F (Sh.news now U) = F0 ∧ Bk2 RepB B w3.heap.size g gs F now U LW LF (oft U LW) (.slice A4 k c4) (.slice A5 kf c5) (.slice A13 k c13) w _ from ⟨F, (Sh.change now y false).2, hF, hcap.change y false, Sh.back_change hj y false, BD.out.chg f7 hc7⟩)
                clear f7 hc7 N1
                go_wp2_with fail
                go_roundw
                case rel => exact ⟨j + 1, by go_num, by omega, Fn.out⟩
                case measure => simp [intOf]; omega
              by_cases hx5 : x = 5
              · subst hx5
                have N := bd.far.less HS.out y T0.out ((hcap.change y false).uok (by omega))
                have N1 := Lib.hid N
                have BD := Lib.hid bd
                clear N bd
                go_wp2_with fail
                refine N1.out.mono ?_
                rintro e w7 ⟨rfl, f7, hc7⟩
                have Fn := Lib.hid (show ∃ F now, F.length = 60 ∧ Cap (90 + (j + 1)) now ∧ Sh.giveAll F (Sh.news now U) = F0 ∧ Bk2 RepB B w3.heap.size g gs F now U LW LF (oft U LW) (.slice A4 k c4) (.slice A5 kf c5) (.slice A13 k c13) w _ from ⟨F, (Sh.change now y false).2, hF, hcap.change y false, Sh.back_change hj y false, BD.out.chg f7 hc7⟩)
                clear f7 hc7 N1
                go_wp2_with fail
                go_roundw
                case rel => exact ⟨j + 1, by go_num, by omega, Fn.out⟩
                case measure => simp [intOf]; omega
              have o0 : (x == 0) = false := by rw [beq_eq_false_iff_ne]; exact hx0
              have o1 : (x == 1) = false := by rw [beq_eq_false_iff_ne]; exact hx1
              have o2 : (x == 2) = false := by rw [beq_eq_false_iff_ne]; exact hx2
              have o3 : (x == 3) = false := by rw [beq_eq_false_iff_ne]; exact hx3
              have o4 : (x == 4) = false := by rw [beq_eq_false_iff_ne]; exact hx4
              have o5 : (x == 5) = false := by rw [beq_eq_false_iff_ne]; exact hx5
              have Fn := Lib.hid (show ∃ F now, F.length = 60 ∧ Cap (90 + (j + 1)) now ∧ Sh.giveAll F (Sh.news now U) = F0 ∧ Bk2 RepB B w3.heap.size g gs F now U LW LF (oft U LW) (.slice A4 k c4) (.slice A5 kf c5) (.slice A13 k c13) w _ from ⟨F, now, hF, hcap.more (by omega), hj, bd⟩)
              clear bd
              go_wp2_with fail
              go_roundw
              case rel => exact ⟨j + 1, by go_num, by omega, Fn.out⟩
              case measure => simp [intOf]; omega
            · have y0 : decide ((j : Int) < (p : Int)) = false := by rw [decide_eq_false_iff_not]; omega
              have y0' : decide (j < p) = false := by rw [decide_eq_false_iff_not]; exact hjp2
              have BK := Lib.hid bk
              have N := bk.far.back HS.out
              rw [hj] at N
              have N1 := Lib.hid N
              clear N bk hj hF hcap
              go_wp2_with fail
              refine N1.out.mono ?_
              rintro e w7 ⟨rfl, f7, hc7⟩
              have BK7 := Lib.hid (BK.out.chg f7 hc7)
              have N := BK7.out.far.list HS.out
              rw [← HLW.out] at N
              have N2 := Lib.hid N
              clear N f7 hc7 N1 BK
              clear F now
              go_wp2_with fail
              refine N2.out.mono ?_
              rintro e w8 ⟨v8, rfl, own8, -, hb8⟩
              obtain ⟨A8, c8, rfl⟩ := ownR_slice own8
              have BK8 := Lib.hid (BK7.out.below HS.out hb8)
              have was8 := BK8.out.was
              rw [HK.out] at was8
              have N := runlist_any (c1 := c8) (c2 := c4) (ownR_cells own8) (ownR_cells was8) (by rw [← HK.out]; omega)
              rw [← HK.out] at N ⊢
              have N3 := Lib.hid N
              clear N own8 hb8 N2 BK7 was8
              go_wp2_with fail
              refine N3.out.mono ?_
              rintro e w9 ⟨rfl, n9, rfl⟩
              have BK9 := Lib.hid (BK8.out.below HS.out (drewN_below n9))
              clear N3 BK8
              generalize w8.drewN n9 = w9 at *
              have N := BK9.out.far.rlist HC.out HS.out
              rw [← HLF.out] at N
              have N4 := Lib.hid N
              clear N
              go_wp2_with fail
              refine N4.out.mono ?_
              rintro e w10 ⟨v10, rfl, own10, -, hb10⟩
              obtain ⟨A10, c10, rfl⟩ := ownR_slice own10
              have BK10 := Lib.hid (BK9.out.below HS.out hb10)
              have fre10 := BK10.out.fre
              rw [HKF.out] at fre10
              have N := runlist_any (c1 := c10) (c2 := c5) (ownR_cells own10) (ownR_cells fre10) (by rw [← HKF.out]; omega)
              rw [← HKF.out] at N ⊢
              have N5 := Lib.hid N
              clear N own10 hb10 N4 BK9 fre10
              go_wp2_with fail
              refine N5.out.mono ?_
              rintro e w11 ⟨rfl, n11, rfl⟩
              have BK11 := Lib.hid (BK10.out.below HS.out (drewN_below n11))
              clear N5 BK10
              generalize w10.drewN n11 = w11 at *
              have N6 := Lib.hid (BK11.out.far.late HS.out)
              have L6 := Lib.hid (show (Sh.lst true U).length = 0 by rw [(Sh.lst_len U).1, HLt.out]; rfl)
              go_wp2_with fail
              refine N6.out.mono ?_
              rintro e w12 ⟨v12, rfl, own12, -, hb12⟩
              obtain ⟨A12, c12, rfl⟩ := ownR_slice own12
              have BK12 := Lib.hid (BK11.out.below HS.out hb12)
              rw [L6.out]
              clear own12 hb12 N6 BK11
              go_wp2_with fail
              go_loopw [20] (fun v20 wr => ∃ n : Nat, v20 = .int .i64 (n : Int) ∧ n ≤ k ∧ Bk2 RepB B w3.heap.size g gs F0 U U LW LF (oft U LW) (.slice A4 k c4) (.slice A5 kf c5) (.slice A13 k c13) w wr) (fun v20 _ => k - (intOf v20).toNat)
              case atStart => exact ⟨0, rfl, Nat.zero_le _, BK12.out⟩
              case round =>
                obtain ⟨n, rfl, hn, bk⟩ := hrel
                clear BK12
                by_cases hnk : n < k
                · have z3 : decide ((n : Int) < (k : Int)) = true := by rw [decide_eq_true_eq]; omega
                  have z3' : decide (n < k) = true := by rw [decide_eq_true_eq]; exact hnk
                  have zn : (0 : Int) ≤ (n : Int) ∧ (n : Int) < (k : Int) := by omega
                  have hnl : n < LW.length := by rw [← HK.out]; exact hnk
                  have was := bk.was
                  rw [HK.out] at was
                  obtain ⟨gl, hA, hgl, a1, -⟩ := ownR_cells was n hnl
                  subst hA
                  have use := bk.use
                  rw [oft_len, ← HK.out] at use
                  obtain ⟨gv, hA, hgv, u1⟩ := lint_cell use hnk (by rw [oft_len, ← HK.out])
                  subst hA
                  rw [oft_at hnl] at u1
                  have hsm : (LW.getD n (0, 0)).1 ≤ 1000000 := by
                    rw [List.getD_eq_getElem?_getD, List.getElem?_eq_getElem hnl]
                    exact SM.out _ (List.getElem_mem hnl)
                  have hdr := bk.below HS.out (w' := wr.drew) (Below.refl _ _).drew
                  have N := hdr.far.uses HS.out ((LW.getD n (0, 0)).1 : Int) (by unfold I64; omega)
                  have HDR := Lib.hid hdr
                  have Kp := Lib.hid (fun X (hb : Below wr.heap.size wr X) => (⟨(hb.cell (p := ⟨gl, n * 2, none⟩) hgl).trans a1, (hb.cell (p := ⟨gv, n, none⟩) hgv).trans u1⟩ : X.cell? ⟨gl, n * 2, none⟩ = some (.int .i64 ((LW.getD n (0, 0)).1 : Int)) ∧ X.cell? ⟨gv, n, none⟩ = some (.int .i64 (Sh.uses U ((LW.getD n (0, 0)).1 : Int) : Int))))
                  have N7 := Lib.hid N
                  generalize (LW.getD n (0, 0)).1 = x at *
                  generalize Sh.uses U (x : Int) = uu at *
                  have hbc := (Below.refl wr.heap.size wr).drew
                  clear N was use hnl bk hdr
                  go_wp2_with fail
                  go_region_held_law (fun X => X.cell? ⟨gl, n * 2, none⟩ = some (.int .i64 (x : Int)) ∧ X.cell? ⟨gv, n, none⟩ = some (.int .i64 (uu : Int))) (first | exact Kp.out _ hbc | exact ⟨a1, u1⟩) (first
                    | (go_at_call 42; (refine N7.out.mono ?_); rintro e w14 ⟨rfl, -, hb14⟩; have hbc := ((Below.refl wr.heap.size wr).drew).trans hb14))
                  all_goals
                    have Fn := Lib.hid (HDR.out.below HS.out hb14)
                    clear hb14 hbc
                    go_wp2_with fail
                    go_roundw
                    case rel => exact ⟨n + 1, by go_num, by omega, Fn.out⟩
                    case measure => simp [intOf]; omega
                · have z3 : decide ((n : Int) < (k : Int)) = false := by rw [decide_eq_false_iff_not]; omega
                  have z3' : decide (n < k) = false := by rw [decide_eq_false_iff_not]; exact hnk
                  have Fin := Lib.hid bk.far.bel
                  clear bk
                  go_wp2_with fail
                  go_ret
                  exact ⟨rfl, Fin.out⟩
end Go.Proofs.Ytfiafgmlbejboaa
