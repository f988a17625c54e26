/- The program's partsOf. The program's open. -/
import Derived.Test.YtlcchefiicalpaaZwba
import Derived.Test.YtlcchefiicalpaaZwbe
import Derived.Test.YtlcchefiicalpaaZwbf
namespace Go.Proofs.Ytlcchefiicalpaa
open Go.RowKit
section
variable {σ : Type} (D : StoI σ) {w : World} {X : Nat → Prop} {st : σ}
/-- What a function answers that gives parts, or an error. -/
def PsR (D : StoI σ) (w : World) (X G : Nat → Prop) (h : Nat) (st' : σ) (r : Except Int (List (Tr.Pt h))) (e : Ending) (w' : World) : Prop := StR σ D.Rep w X st' (fun w' X' => ∃ A n c q, e = .returned (.tuple #[.slice A n c, .int .i64 q]) ∧ (match r with
    | .error e => q = e ∧ e ≠ 0 ∧ A = none ∧ n = 0 ∧ c = 0
    | .ok l => q = 0 ∧ n = l.length ∧ PLX (fun b => X' b ∨ G b) w' h l A c)) w'
/-- The same, of parts that are one's own. -/
def PsO (D : StoI σ) (w : World) (X : Nat → Prop) (h : Nat) (st' : σ) (r : Except Int (List (Tr.Pt h))) (e : Ending) (w' : World) : Prop := StR σ D.Rep w X st' (fun w' X' => ∃ A n c q, e = .returned (.tuple #[.slice A n c, .int .i64 q]) ∧ (match r with
    | .error e => q = e ∧ e ≠ 0 ∧ A = none ∧ n = 0 ∧ c = 0
    | .ok l => q = 0 ∧ n = l.length ∧ PO (fun b => X' b ∨ b < w.heap.size) w' w.heap.size h l (.slice A n c))) w'
theorem load_err {b : Tr.Br} {e : Int} (h : (Tr.load D.S st b).2 = .error e) : e ≠ 0 := by
  unfold Tr.load at h
  rcases hl : D.S.ld st b.k with ⟨st', e' | n⟩
  · rw [hl] at h
    injection h with h
    subst h
    exact D.err (by rw [hl])
  · rw [hl] at h
    dsimp only at h
    split at h
    · cases h
    · injection h with h; subst h; decide
theorem load_fits {b : Tr.Br} {n : Nd.N} (h : (Tr.load D.S st b).2 = .ok n) : Tr.FitsB b n := by
  unfold Tr.load at h
  rcases hl : D.S.ld st b.k with ⟨st', e' | n⟩
  · rw [hl] at h; cases h
  · rw [hl] at h
    dsimp only at h
    split at h
    · injection h with h; subst h; assumption
    · cases h
theorem made_own {w : World} {B n c : Nat} {A : Option Addr} (h : w.ownsRow B 160 14 (.slice A n c) n (madeCells (Value.agg #[.int .i64 0, .int .i64 0, .int .i64 0, .int .i64 0, .int .i64 0, .int .i64 0, .int .i64 0, .int .i64 0, .int .i64 0, .int .i64 0, .int .i64 0, .int .i64 0, .bool false, .slice none 0 0]).cells (n * 14)).toList) : w.ownsRow B 160 14 (.slice A n c) n (pcs (List.replicate n Tr.pz)) := by rw [← made_parts]; exact h
theorem grown_none {w w' : World} (h : w.grownBy w' none) : Below w.heap.size w w' := ⟨h.os, h.tape, h.output, h.size, fun i hi => h.block i hi (by simp)⟩
/-- The row while it is filled. -/
def upTo {α : Type} (q i : Nat) (f : Nat → α) (z : α) : List α := (List.range q).map fun j => if j < i then f j else z
theorem upTo_zero {α : Type} (q : Nat) (f : Nat → α) (z : α) : upTo q 0 f z = List.replicate q z := by
  unfold upTo
  simp [List.map_const']
theorem upTo_len {α : Type} (q i : Nat) (f : Nat → α) (z : α) : (upTo q i f z).length = q := by unfold upTo; rw [List.length_map, List.length_range]
theorem upTo_get {α : Type} (q i : Nat) (f : Nat → α) (z : α) (j : Nat) : (upTo q i f z)[j]? = if j < q then some (if j < i then f j else z) else none := by
  unfold upTo
  rw [List.getElem?_map]
  by_cases hj : j < q
  · rw [List.getElem?_range hj, if_pos hj]; rfl
  · rw [List.getElem?_eq_none (by rw [List.length_range]; omega), if_neg hj]; rfl
theorem upTo_next {α : Type} (q i : Nat) (f : Nat → α) (z : α) : (upTo q i f z).set i (f i) = upTo q (i + 1) f z := by
  refine List.ext_getElem? fun j => ?_
  rw [List.getElem?_set, upTo_get, upTo_get, upTo_len]
  by_cases hij : i = j
  · subst hij
    rw [if_pos rfl, if_pos (show i < i + 1 by omega)]
  · rw [if_neg hij]
    by_cases hj : j < i
    · rw [if_pos hj, if_pos (show j < i + 1 by omega)]
    · rw [if_neg hj, if_neg (show ¬ j < i + 1 by omega)]
theorem upTo_all {α : Type} (q : Nat) (f : Nat → α) (z : α) : upTo q q f z = (List.range q).map f := by
  unfold upTo
  refine List.map_congr_left fun j hj => ?_
  rw [if_pos (List.mem_range.1 hj)]
def pc0 (n : Nd.N) (i : Nat) : Tr.PC := ⟨Nd.at_ n.ks i, Tr.leafE n i, Tr.bz, false, none, 0, 0⟩
def pcB (b : Tr.Br) (n : Nd.N) (i : Nat) : Tr.PC := ⟨Nd.at_ n.ks i, Tr.z, Tr.kidB b n i, false, none, 0, 0⟩
theorem map_get {α β : Type} {q : Nat} {f : Nat → α} {g : Nat → β} {i : Nat} {x : α} {y : β} (h1 : ((List.range q).map f)[i]? = some x) (h2 : ((List.range q).map g)[i]? = some y) : x = f i ∧ y = g i := by
  rw [List.getElem?_map] at h1 h2
  obtain ⟨j, hj, rfl⟩ := Option.map_eq_some_iff.1 h1
  obtain ⟨k, hk, rfl⟩ := Option.map_eq_some_iff.1 h2
  rw [hj] at hk
  injection hk with hk
  subst hk
  have := (List.getElem?_eq_some_iff.1 hj).2
  rw [List.getElem_range] at this
  subst this
  exact ⟨rfl, rfl⟩
theorem leaf_len (n : Nd.N) : (Tr.leaf n).length = n.ks.length := (List.length_map ..).trans (List.length_range ..)
theorem prs_0 (w : World) (n : Nd.N) : PRs w 0 (Tr.leaf n) ((List.range n.ks.length).map (pc0 n)) := by
  refine ⟨by rw [show Tr.leaf n = (List.range n.ks.length).map (Tr.leafE n) from rfl]; exact (List.length_map ..).trans (List.length_map ..).symm, fun i p q hp hq => ?_⟩
  obtain ⟨rfl, rfl⟩ := map_get (f := Tr.leafE n) hp hq
  rfl
theorem PO.base {X : Nat → Prop} {w : World} {B B' h : Nat} {l : List (Tr.Pt h)} {v : Value} (hp : PO X w B h l v) (hB : B' ≤ B) : PO X w B' h l v := by
  obtain ⟨cs, h1, h2, h3⟩ := hp
  exact ⟨cs, World.ownsRow_base h1 hB, h2, h3⟩
theorem po_leaf {X : Nat → Prop} {w : World} {B g c : Nat} {n : Nd.N} (ho : w.ownsRow B 160 14 (.slice (some ⟨g, 0, none⟩) n.ks.length c) n.ks.length (pcs (upTo n.ks.length n.ks.length (pc0 n) Tr.pz))) (hX : ¬ X g) : n.ks.length = (Tr.leaf n).length ∧ PO X w B 0 (Tr.leaf n) (.slice (some ⟨g, 0, none⟩) n.ks.length c) := by
  have e := leaf_len n
  rw [upTo_all] at ho
  have h : PO X w B 0 (Tr.leaf n) (.slice (some ⟨g, 0, none⟩) n.ks.length c) := ⟨(List.range n.ks.length).map (pc0 n), by
    have e' : @List.length (Tr.Pt 0) (Tr.leaf n) = n.ks.length := e
    rw [e']; exact ho, fun k hk => by injection hk with hk; subst hk; exact ⟨hX, (ho.lt _ rfl).2⟩, fun u _ => prs_0 u n⟩
  exact ⟨e.symm, h⟩
theorem prs_b (w : World) (h : Nat) (b : Tr.Br) (n : Nd.N) : PRs w (h + 1) ((Tr.kidsB b n).map Tr.old) ((List.range n.ks.length).map (pcB b n)) := by
  refine ⟨by rw [List.length_map, List.length_map]; unfold Tr.kidsB; rw [List.length_map], fun i p q hp hq => ?_⟩
  have hp : ((List.range n.ks.length).map fun i => Tr.old (h := h) (Tr.kidB b n i))[i]? = some p := by
    rw [← hp, show Tr.kidsB b n = (List.range n.ks.length).map (Tr.kidB b n) from rfl, List.map_map]; rfl
  obtain ⟨rfl, rfl⟩ := map_get hp hq
  rfl
theorem po_kids {X : Nat → Prop} {w : World} {B g c h : Nat} {b : Tr.Br} {n : Nd.N} (ho : w.ownsRow B 160 14 (.slice (some ⟨g, 0, none⟩) n.ks.length c) n.ks.length (pcs (upTo n.ks.length n.ks.length (pcB b n) Tr.pz))) (hX : ¬ X g) : n.ks.length = ((Tr.kidsB b n).map (Tr.old (h := h))).length ∧ PO X w B (h + 1) ((Tr.kidsB b n).map (Tr.old (h := h))) (.slice (some ⟨g, 0, none⟩) n.ks.length c) := by
  have e : ((Tr.kidsB b n).map (Tr.old (h := h))).length = n.ks.length := by rw [List.length_map]; unfold Tr.kidsB; rw [List.length_map, List.length_range]
  rw [upTo_all] at ho
  have h : PO X w B (h + 1) ((Tr.kidsB b n).map (Tr.old (h := h))) (.slice (some ⟨g, 0, none⟩) n.ks.length c) := ⟨(List.range n.ks.length).map (pcB b n), by
    rw [e]; exact ho, fun k hk => by injection hk with hk; subst hk; exact ⟨hX, (ho.lt _ rfl).2⟩, fun u _ => prs_b u h b n⟩
  exact ⟨e.symm, h⟩
set_option maxRecDepth 8000 in
set_option maxHeartbeats 8000000 in
theorem partsof_own (hr : D.Rep w X st) (b : Tr.Br) (h : Nat) (hh : b.h.toNat = h ∧ Tr.KR b.k) :
    Calls Try.prog 94 #[D.val, Tr.brV b] w (PsO D w X h (Tr.partsOf D.S h st b).1 (Tr.partsOf D.S h st b).2) := by
  obtain ⟨W0, hW0⟩ : ∃ W, w.alloc (.cells #[.int .i64 b.k.1, .int .i64 b.k.2.1, .int .i64 b.k.2.2, .int .i64 b.h, .int .i64 b.f, .int .i64 b.t] 137) = W := ⟨_, rfl⟩
  have bx0 : Blk W0 w.heap.size 137 #[.int .i64 b.k.1, .int .i64 b.k.2.1, .int .i64 b.k.2.2, .int .i64 b.h, .int .i64 b.f, .int .i64 b.t] := by rw [← hW0]; exact Blk.new _ _ _
  have hb0 : Below w.heap.size w W0 := by rw [← hW0]; exact below_alloc1 _ _
  have hXx := D.fresh hr
  have FX := Lib.hid (Fast.blk bx0 hXx)
  have hR := D.below hr hb0
  have HSt := Lib.hid (Stp.of_below X hb0)
  obtain ⟨bb, hbb⟩ : ∃ g, w.heap.size = g := ⟨_, rfl⟩
  rw [hbb] at FX bx0 hXx
  have x0 : W0.cell? ⟨bb, 0, none⟩ = some (.int .i64 b.k.1) := bx0.cell 0
  have x1 : W0.cell? ⟨bb, 1, none⟩ = some (.int .i64 b.k.2.1) := bx0.cell 1
  have x2 : W0.cell? ⟨bb, 2, none⟩ = some (.int .i64 b.k.2.2) := bx0.cell 2
  have x3 : W0.cell? ⟨bb, 3, none⟩ = some (.int .i64 b.h) := bx0.cell 3
  have x4 : W0.cell? ⟨bb, 4, none⟩ = some (.int .i64 b.f) := bx0.cell 4
  have x5 : W0.cell? ⟨bb, 5, none⟩ = some (.int .i64 b.t) := bx0.cell 5
  have HC := load_any D hR b hh.2
  have Herr := fun e => load_err D (st := st) (b := b) (e := e)
  have Hfit := fun n => load_fits D (st := st) (b := b) (n := n)
  unfold Tr.partsOf
  rcases hld : Tr.load D.S st b with ⟨st1, er | n⟩
  · -- an error
    rw [hld] at HC Herr
    dsimp only at HC Herr ⊢
    have Her := Lib.hid (Herr er rfl)
    have z0 : ((er : Int) != 0) = true := by have := Herr er rfl; simpa using this
    clear Herr Hfit bx0 hb0 hXx hR hld
    unfold Tr.brV at HC ⊢
    unfold LoR ndZ at HC
    go_enter Try.func94, Try.ntmps94
    go_wp2_with (go_at_call 72; (with_reducible refine HC.mono ?_); rintro e w2 ⟨X2, hR2, hS2, v, c, rfl, rfl, rfl⟩; (have HR2 := Lib.hid hR2); (have HS2 := Lib.hid hS2); clear hR2 hS2)
    go_returns
    exact ⟨X2, D.below HR2.out (below_alloc1 _ _), (HSt.out.trans HS2.out).below (below_alloc1 _ _), none, 0, 0, c, rfl, rfl, Her.out, rfl, rfl, rfl⟩
  · rw [hld] at HC Hfit
    dsimp only at HC Hfit ⊢
    have HF := Lib.hid (Hfit n rfl)
    obtain ⟨i0, hi0, hz0, hs0, hb0'⟩ := part_parts
    clear Herr Hfit bx0 hb0 hXx hR hld
    unfold Tr.brV at HC ⊢
    unfold LoR at HC
    go_enter Try.func94, Try.ntmps94
    go_wp2_with (first
      | (go_at_call 72; (with_reducible refine HC.mono ?_); rintro e w2 ⟨X2, hR2, hS2, v, c, rfl, rfl, hv⟩; obtain ⟨A1, c1, A2, c2, A3, c3, A4, c4, rfl, hf⟩ := hv.x.now; (obtain ⟨W3, hW3⟩ : ∃ W, w2.alloc (.cells #[.int .i64 n.h, .slice A1 n.ks.length c1, .slice A2 n.ps.length c2, .slice A3 n.gs.length c3, .slice A4 n.cs.length c4] 35) = W := ⟨_, rfl⟩); (obtain ⟨hb3, hMid⟩ := ld_mid hS2 FX.out hf hW3); (have HM := Lib.hid hMid); (obtain ⟨-, -, y0, y1, y2, y3, y4⟩ := HM.out W3 (Below.refl _ _)); (have HR2 := Lib.hid hR2); (have HS2 := Lib.hid hS2); (have HB3 := Lib.hid hb3); clear hf hv hR2 hS2 hMid hb3)
      | (at_make; refine wpList_make_full _ rfl _ _ 158 rfl W3.heap.size 160 i0 _ 14 Try.underlying158 hi0 hz0 hs0 .i64 .i64 _ _ n.ks.length rfl rfl rfl rfl (by rw [hb0']; have := HF.out.1.few; omega) (by have := HF.out.1.few; unfold maxLen; omega) (Nat.le_refl _) ?_; intro w5 hown hgr; (obtain ⟨-, -, v0, v1, v2, v3, v4⟩ := HM.out w5 (grown_none hgr)); (have hown := made_own hown); (have HO5 := Lib.hid hown); (have HB5 := Lib.hid (grown_none hgr)); clear hown hgr))
    cases h with
    | zero =>
      have hbh : b.h = 0 := by have := HF.out.1.h0; have := HF.out.2.1; omega
      have zh : ((n.h : Int) == 0) = true := by rw [HF.out.2.1, hbh]; rfl
      have Hbh := Lib.hid hbh
      clear hbh
      go_loopw [27] (fun v27 wr => ∃ i : Nat, v27 = .int .i64 (i : Int) ∧ i ≤ n.ks.length ∧ wr.ownsRow W3.heap.size 160 14 (.slice (some ⟨W3.heap.size, 0, none⟩) n.ks.length n.ks.length) n.ks.length (pcs (upTo n.ks.length i (pc0 n) Tr.pz)) ∧ Below W3.heap.size W3 wr) (fun v27 _ => n.ks.length - (intOf v27).toNat)
      case atStart => exact ⟨0, rfl, Nat.zero_le _, by rw [upTo_zero]; exact HO5.out, HB5.out⟩
      case round =>
        obtain ⟨i, rfl, hi, ho, hb⟩ := hrel
        have HO := Lib.hid ho
        have HB := Lib.hid hb
        by_cases hiq : i < n.ks.length
        · have z0 : decide ((i : Int) < (n.ks.length : Int)) = true := by rw [decide_eq_true_eq]; omega
          have z0' : decide (i < n.ks.length) = true := by rw [decide_eq_true_eq]; exact hiq
          have z1 : (i : Int) < (n.ks.length : Int) := by omega
          have z2 : wrap64 ((i : Int) + 1) = (i : Int) + 1 := by have := HF.out.1.few; simp only [wrap64]; omega
          obtain ⟨⟨hbu, hNd, hks⟩, -, r0, r1, r2, r3, r4⟩ := HM.out wr hb
          obtain ⟨l1, l2, -, -⟩ := HF.out.1.leaf (HF.out.2.1.trans Hbh.out)
          have HE := entryof_any hNd i hiq (by omega) (by omega)
          obtain ⟨e0, he0⟩ : ∃ e, e = Tr.leafE n i := ⟨_, rfl⟩
          obtain ⟨k0, hk0⟩ : ∃ e, e = Nd.at_ n.ks i := ⟨_, rfl⟩
          have Hx := Lib.hid (show pc0 n i = ⟨k0, e0, Tr.bz, false, none, 0, 0⟩ by rw [he0, hk0]; rfl)
          rw [← he0] at HE
          dsimp only [ev, evv] at HE
          obtain ⟨kb, ko, rfl, -, dk⟩ := hks.int hiq
          rw [← hk0] at dk
          have HN := Lib.hid hiq
          clear ho hb hbu hNd hks l1 l2 hiq he0 hk0
          go_wp2_with (first
            | (go_at_call 70; (with_reducible refine HE.mono ?_); rintro e w6 ⟨rfl, hb6⟩; (have HB6 := Lib.hid hb6); clear hb6)
            | ((with_reducible show wpList _ _ _ (⟨none, Op.store 160 _ _, _, _, _, _⟩ :: _) _ _); refine wpList_store_mid rfl 160 _ _ rfl W3.heap.size (i * 14) _ rfl rfl (own_there (own_below HO.out HB6.out) HN.out) part_size (all_oneCell_toArray (pcs_one [⟨k0, e0, Tr.bz, false, none, 0, 0⟩])) ?_; skip))
          go_roundw
          case rel =>
            exact ⟨i + 1, by go_num, HN.out, by rw [← upTo_next, Hx.out]; exact own_part (own_below HO.out HB6.out) (by rw [upTo_len]; exact HN.out) ⟨k0, e0, Tr.bz, false, none, 0, 0⟩, below_setC (Nat.le_refl _) _ _ _ (HB.out.trans (HB6.out.mono HB.out.size))⟩
          case measure => rw [z2]; exact meas_up HN.out
        · obtain rfl : i = n.ks.length := by omega
          have z0 : decide ((n.ks.length : Int) < (n.ks.length : Int)) = false := by rw [decide_eq_false_iff_not]; omega
          clear ho hb hiq
          go_wp2_with fail
          go_returns
          obtain ⟨p1, p2⟩ := po_leaf HO.out (X := fun b => X2 b ∨ b < w.heap.size) (fun hX => hX.elim (fun hX => Nat.lt_irrefl _ (Nat.lt_of_lt_of_le (D.lt HR2.out hX) HB3.out.size)) (fun hX => Nat.lt_irrefl _ (Nat.lt_of_lt_of_le hX (Nat.le_trans (HSt.out.trans HS2.out).chg.size HB3.out.size))))
          exact ⟨X2, D.below (D.below HR2.out HB3.out) HB.out, ((HSt.out.trans HS2.out).below HB3.out).below HB.out, _, _, _, _, rfl, rfl, p1, p2.base (Nat.le_trans (HSt.out.trans HS2.out).chg.size HB3.out.size)⟩
    | succ h =>
      have hbh : b.h = ((h + 1 : Nat) : Int) := by have := HF.out.1.h0; have := HF.out.2.1; omega
      have zh : ((n.h : Int) == 0) = false := by rw [HF.out.2.1, hbh, beq_eq_false_iff_ne]; omega
      have Hbh := Lib.hid hbh
      clear hbh
      go_loopw [27] (fun v27 wr => ∃ i : Nat, v27 = .int .i64 (i : Int) ∧ i ≤ n.ks.length ∧ wr.ownsRow W3.heap.size 160 14 (.slice (some ⟨W3.heap.size, 0, none⟩) n.ks.length n.ks.length) n.ks.length (pcs (upTo n.ks.length i (pcB b n) Tr.pz)) ∧ Below W3.heap.size W3 wr) (fun v27 _ => n.ks.length - (intOf v27).toNat)
      case atStart => exact ⟨0, rfl, Nat.zero_le _, by rw [upTo_zero]; exact HO5.out, HB5.out⟩
      case round =>
        obtain ⟨i, rfl, hi, ho, hb⟩ := hrel
        have HO := Lib.hid ho
        have HB := Lib.hid hb
        by_cases hiq : i < n.ks.length
        · have z0 : decide ((i : Int) < (n.ks.length : Int)) = true := by rw [decide_eq_true_eq]; omega
          have z0' : decide (i < n.ks.length) = true := by rw [decide_eq_true_eq]; exact hiq
          have z1 : (i : Int) < (n.ks.length : Int) := by omega
          have z2 : wrap64 ((i : Int) + 1) = (i : Int) + 1 := by have := HF.out.1.few; simp only [wrap64]; omega
          obtain ⟨⟨hbu, hNd, hks⟩, -, r0, r1, r2, r3, r4⟩ := HM.out wr hb
          obtain ⟨l1, -⟩ := HF.out.1.inner (by rw [HF.out.2.1, Hbh.out]; omega)
          have HE := branchof_any b hNd i hiq (by omega) (by rw [Hbh.out]; have := HF.out.1.h6; have := HF.out.2.1; have := Hbh.out; omega) HF.out.1.few
          have bwr := (FX.out.step ((HS2.out.below HB3.out).below hb)).now
          have s0 : wr.cell? ⟨bb, 0, none⟩ = some (.int .i64 b.k.1) := bwr.cell 0
          have s1 : wr.cell? ⟨bb, 1, none⟩ = some (.int .i64 b.k.2.1) := bwr.cell 1
          have s2 : wr.cell? ⟨bb, 2, none⟩ = some (.int .i64 b.k.2.2) := bwr.cell 2
          have s3 : wr.cell? ⟨bb, 3, none⟩ = some (.int .i64 b.h) := bwr.cell 3
          have s4 : wr.cell? ⟨bb, 4, none⟩ = some (.int .i64 b.f) := bwr.cell 4
          have s5 : wr.cell? ⟨bb, 5, none⟩ = some (.int .i64 b.t) := bwr.cell 5
          obtain ⟨e0, he0⟩ : ∃ e, e = Tr.kidB b n i := ⟨_, rfl⟩
          obtain ⟨k0, hk0⟩ : ∃ e, e = Nd.at_ n.ks i := ⟨_, rfl⟩
          have Hx := Lib.hid (show pcB b n i = ⟨k0, Tr.z, e0, false, none, 0, 0⟩ by rw [he0, hk0]; rfl)
          rw [← he0] at HE
          dsimp only [Tr.brV] at HE
          obtain ⟨kb, ko, rfl, -, dk⟩ := hks.int hiq
          rw [← hk0] at dk
          have HN := Lib.hid hiq
          clear ho hb hbu hNd hks l1 hiq he0 bwr hk0
          go_wp2_with (first
            | (go_at_call 73; (with_reducible refine HE.mono ?_); rintro e w6 ⟨rfl, hb6⟩; (have HB6 := Lib.hid hb6); clear hb6)
            | ((with_reducible show wpList _ _ _ (⟨none, Op.store 160 _ _, _, _, _, _⟩ :: _) _ _); refine wpList_store_mid rfl 160 _ _ rfl W3.heap.size (i * 14) _ rfl rfl (own_there (own_below HO.out HB6.out) HN.out) part_size (all_oneCell_toArray (pcs_one [⟨k0, Tr.z, e0, false, none, 0, 0⟩])) ?_; skip))
          go_roundw
          case rel =>
            exact ⟨i + 1, by go_num, HN.out, by rw [← upTo_next, Hx.out]; exact own_part (own_below HO.out HB6.out) (by rw [upTo_len]; exact HN.out) ⟨k0, Tr.z, e0, false, none, 0, 0⟩, below_setC (Nat.le_refl _) _ _ _ (HB.out.trans (HB6.out.mono HB.out.size))⟩
          case measure => rw [z2]; exact meas_up HN.out
        · obtain rfl : i = n.ks.length := by omega
          have z0 : decide ((n.ks.length : Int) < (n.ks.length : Int)) = false := by rw [decide_eq_false_iff_not]; omega
          clear ho hb hiq
          go_wp2_with fail
          go_returns
          obtain ⟨p1, p2⟩ := po_kids HO.out (X := fun b => X2 b ∨ b < w.heap.size) (fun hX => hX.elim (fun hX => Nat.lt_irrefl _ (Nat.lt_of_lt_of_le (D.lt HR2.out hX) HB3.out.size)) (fun hX => Nat.lt_irrefl _ (Nat.lt_of_lt_of_le hX (Nat.le_trans (HSt.out.trans HS2.out).chg.size HB3.out.size))))
          exact ⟨X2, D.below (D.below HR2.out HB3.out) HB.out, ((HSt.out.trans HS2.out).below HB3.out).below HB.out, _, _, _, _, rfl, rfl, p1, p2.base (Nat.le_trans (HSt.out.trans HS2.out).chg.size HB3.out.size)⟩
theorem partsof_any (hr : D.Rep w X st) (b : Tr.Br) (h : Nat) (hh : b.h.toNat = h ∧ Tr.KR b.k) :
    Calls Try.prog 94 #[D.val, Tr.brV b] w (PsR D w X (fun b => b < w.heap.size) h (Tr.partsOf D.S h st b).1 (Tr.partsOf D.S h st b).2) := by
  refine (partsof_own D hr b h hh).mono ?_
  rintro e w' ⟨X', h1, h2, A, n, c, q, h3, h4⟩
  refine ⟨X', h1, h2, A, n, c, q, h3, ?_⟩
  cases hr : (Tr.partsOf D.S h st b).2 with
  | error er => rw [hr] at h4; exact h4
  | ok l =>
    rw [hr] at h4
    exact ⟨h4.1, h4.2.1, h4.2.2.plx.2⟩
end
end Go.Proofs.Ytlcchefiicalpaa
namespace Go.Proofs.Ytlcchefiicalpaa
open Go.RowKit
section
variable {σ : Type} (D : StoI σ) {w : World} {X : Nat → Prop} {st : σ}
theorem PsR.anti {w : World} {G G' : Nat → Prop} {h : Nat} {st' : σ} {r : Except Int (List (Tr.Pt h))} {e : Ending} {w' : World} (hG : ∀ b, G b → G' b) (hp : PsR D w X G' h st' r e w') : PsR D w X G h st' r e w' := by
  obtain ⟨X', h1, h2, A, n, c, q, e, hm⟩ := hp
  refine ⟨X', h1, h2, A, n, c, q, e, ?_⟩
  cases r with
  | error er => exact hm
  | ok l => exact ⟨hm.1, hm.2.1, hm.2.2.anti fun b hb => hb.imp id (hG b)⟩
theorem PsR.from_ {w W : World} {G : Nat → Prop} {h : Nat} {st' : σ} {r : Except Int (List (Tr.Pt h))} {e : Ending} {w' : World} (hS : Stp w X W X) (hp : PsR D W X G h st' r e w') : PsR D w X G h st' r e w' := by
  obtain ⟨X', h1, h2, h3⟩ := hp
  exact ⟨X', h1, hS.trans h2, h3⟩
set_option maxRecDepth 8000 in
set_option maxHeartbeats 8000000 in
theorem open_any (hr : D.Rep w X st) (h : Nat) (p : Tr.Pt (h + 1)) (x : Tr.PC) (G : Nat → Prop) (hG : ∀ b, G b → b < w.heap.size) (hx : PRX (fun b => X b ∨ G b) w (h + 1) p x) (hh : ∀ b, p = Tr.old b → b.h.toNat = h ∧ Tr.KR b.k) :
    Calls Try.prog 103 #[D.val, pcv x] w (PsR D w X G h (Tr.opn D.S h st p).1 (Tr.opn D.S h st p).2) := by
  cases p with
  | inl b =>
    obtain rfl : x = ⟨b.f, Tr.z, b, false, none, 0, 0⟩ := hx.now
    obtain ⟨W0, hW0⟩ : ∃ W, w.alloc (.cells #[.int .i64 b.f, .int .i64 0, .int .i64 0, .int .i64 0, .int .i64 0, .int .i64 0, .int .i64 b.k.1, .int .i64 b.k.2.1, .int .i64 b.k.2.2, .int .i64 b.h, .int .i64 b.f, .int .i64 b.t, .bool false, .slice none 0 0] 160) = W := ⟨_, rfl⟩
    have bx0 : Blk W0 w.heap.size 160 #[.int .i64 b.f, .int .i64 0, .int .i64 0, .int .i64 0, .int .i64 0, .int .i64 0, .int .i64 b.k.1, .int .i64 b.k.2.1, .int .i64 b.k.2.2, .int .i64 b.h, .int .i64 b.f, .int .i64 b.t, .bool false, .slice none 0 0] := by rw [← hW0]; exact Blk.new _ _ _
    have hb0 : Below w.heap.size w W0 := by rw [← hW0]; exact below_alloc1 _ _
    have HS := Lib.hid (Stp.of_below X hb0)
    have HG := Lib.hid (fun b (hb : G b) => Nat.lt_of_lt_of_le (hG b hb) hb0.size)
    have x0 : W0.cell? ⟨w.heap.size, 6, none⟩ = some (.int .i64 b.k.1) := bx0.cell 6
    have x1 : W0.cell? ⟨w.heap.size, 7, none⟩ = some (.int .i64 b.k.2.1) := bx0.cell 7
    have x2 : W0.cell? ⟨w.heap.size, 8, none⟩ = some (.int .i64 b.k.2.2) := bx0.cell 8
    have x3 : W0.cell? ⟨w.heap.size, 9, none⟩ = some (.int .i64 b.h) := bx0.cell 9
    have x4 : W0.cell? ⟨w.heap.size, 10, none⟩ = some (.int .i64 b.f) := bx0.cell 10
    have x5 : W0.cell? ⟨w.heap.size, 11, none⟩ = some (.int .i64 b.t) := bx0.cell 11
    have x6 : W0.cell? ⟨w.heap.size, 12, none⟩ = some (.bool false) := bx0.cell 12
    have HC := partsof_any D (D.below hr hb0) b h (hh b rfl)
    dsimp only [pcv, Tr.brV, Tr.z, Tr.bz] at HC ⊢
    show Calls _ _ _ _ (PsR D w X G h (Tr.partsOf D.S h st b).1 (Tr.partsOf D.S h st b).2)
    clear bx0 hb0 hx hh hr hG
    go_enter Try.func103, Try.ntmps103
    go_wp2_with (go_at_call 94; (with_reducible refine HC.mono ?_); rintro e w2 ⟨X2, hR2, hS2, A, n, c, q, rfl, hm⟩; (have H2 := Lib.hid (show PsR D W0 X (fun b => b < W0.heap.size) h (Tr.partsOf D.S h st b).1 (Tr.partsOf D.S h st b).2 (.returned (.tuple #[.slice A n c, .int .i64 q])) w2 from ⟨X2, hR2, hS2, A, n, c, q, rfl, hm⟩)); clear hR2 hS2 hm)
    go_returns
    exact PsR.from_ D HS.out (PsR.anti D HG.out H2.out)
  | inr l =>
    obtain ⟨e, -⟩ := hx.now.list
    obtain ⟨A, hA⟩ : ∃ A, x.A = A := ⟨_, rfl⟩
    obtain ⟨c, hc⟩ : ∃ A, x.c = A := ⟨_, rfl⟩
    rw [hA, hc] at e
    have HL := Lib.hid (show PLX (fun b => X b ∨ G b) w h l A c from fun u k => by have := (hx u k).list.2; rwa [hA, hc] at this)
    clear hA hc hx
    subst e
    dsimp only [pcv, Tr.z, Tr.bz]
    obtain ⟨n, hn⟩ : ∃ n, l.length = n := ⟨_, rfl⟩
    have Hn := Lib.hid hn
    have Hr := Lib.hid hr
    rw [hn]
    clear hn hr hh hG
    go_enter Try.func103, Try.ntmps103
    go_wp2_with fail
    go_returns
    exact ⟨X, D.below Hr.out (below_alloc1 _ _), .of_below X (below_alloc1 _ _), A, n, c, 0, rfl, rfl, Hn.out.symm, HL.out.below (below_alloc1 _ _)⟩
end
end Go.Proofs.Ytlcchefiicalpaa
