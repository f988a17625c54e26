/- The document's map of free blocks: List, Greatest. -/
import Derived.Test.YtfiafgmlbejboaaRref
import Derived.BigRegion
import Derived.BigQuiet
namespace Go.Proofs.Ytfiafgmlbejboaa
open Go.RowKit

/-- Runs as cells. -/
def rcs : List (Nat × Nat) → List Value
  | [] => []
  | r :: l => .int .i64 (r.1 : Int) :: .int .i64 (r.2 : Int) :: rcs l
theorem rcs_len : ∀ l : List (Nat × Nat), (rcs l).length = l.length * 2
  | [] => rfl
  | r :: l => by rw [rcs, List.length_cons, List.length_cons, rcs_len l, List.length_cons]; omega
theorem rcs_app : ∀ l m : List (Nat × Nat), rcs (l ++ m) = rcs l ++ rcs m
  | [], _ => rfl
  | r :: l, m => by rw [List.cons_append, rcs, rcs, rcs_app l m]; rfl
theorem rcs_at : ∀ {l : List (Nat × Nat)} {k : Nat}, k < l.length → (rcs l)[k * 2]? = some (.int .i64 ((l.getD k (0, 0)).1 : Int)) ∧ (rcs l)[k * 2 + 1]? = some (.int .i64 ((l.getD k (0, 0)).2 : Int))
  | r :: l, 0, _ => ⟨rfl, rfl⟩
  | r :: l, k + 1, h => by
    have := rcs_at (l := l) (k := k) (by simpa using h)
    rw [show (k + 1) * 2 = k * 2 + 1 + 1 by omega, rcs, List.getElem?_cons_succ, List.getElem?_cons_succ, List.getElem?_cons_succ, List.getElem?_cons_succ]
    exact this
theorem rcs_two (l : List (Nat × Nat)) (a n : Nat) : (rcs (l ++ [(a, n)])).set (l.length * 2 + 1) (.int .i64 ((n + 1 : Nat) : Int)) = rcs (l ++ [(a, n + 1)]) := by
  rw [rcs_app, rcs_app, List.set_append_right _ _ (by rw [rcs_len]; omega), rcs_len, show l.length * 2 + 1 - l.length * 2 = 1 by omega]
  rfl
theorem run_parts : ∃ i, Try.prog.info? 39 = some i ∧ i.zero = some (.agg #[.int .i64 0, .int .i64 0]) ∧ i.size = 2 ∧ i.bytes = 16 := by
  have h : (Try.prog.info? 39).map (fun i => (i.zero, i.size, i.bytes)) = some (some (.agg #[.int .i64 0, .int .i64 0]), 2, 16) := by kernel_rfl
  obtain ⟨i, hi, hh⟩ := Option.map_eq_some_iff.1 h
  simp only [Prod.mk.injEq] at hh
  exact ⟨i, hi, hh.1, hh.2.1, hh.2.2⟩
/-- A row of runs of one's own. -/
abbrev OwnR (w : World) (B : Nat) (v : Value) (l : List (Nat × Nat)) : Prop := w.ownsRow B 39 2 v l.length (rcs l)
theorem ownR_at {w : World} {B : Nat} {v : Value} {l : List (Nat × Nat)} (h : OwnR w B v l) (hn : 0 < l.length) : ∃ g c, v = .slice (some ⟨g, 0, none⟩) l.length c ∧ B ≤ g ∧ g < w.heap.size ∧ (∀ k, k < l.length → w.cell? ⟨g, k * 2, none⟩ = some (.int .i64 ((l.getD k (0, 0)).1 : Int)) ∧ w.cell? ⟨g, k * 2 + 1, none⟩ = some (.int .i64 ((l.getD k (0, 0)).2 : Int))) ∧ (∀ i, w.frozen? ⟨g, i, none⟩ = false) ∧
    ∀ i u, u.oneCell' = true → (w.setCell ⟨g, i, none⟩ u).ownsRow B 39 2 v l.length ((rcs l).set i u) := by
  have hlt := h.lt
  rcases h.2 with ⟨h', h0⟩ | ⟨g, cap, cur, h', hg, _⟩
  · omega
  · subst h'
    refine ⟨g, cap, rfl, hg, (hlt g rfl).2, fun k hk => ?_, fun i => h.frozenAt i, fun i u _ => (h.stored i u).1⟩
    obtain ⟨e1, e2⟩ := rcs_at hk
    exact ⟨by rw [h.cellAt (k * 2) (by omega), e1], by rw [h.cellAt (k * 2 + 1) (by omega), e2]⟩
theorem ownR_slice {w : World} {B : Nat} {v : Value} {l : List (Nat × Nat)} (h : OwnR w B v l) : ∃ A c, v = .slice A l.length c := own_slice h
theorem listK_few (F : List Bool) : ∀ k, (Rn.listK F k).length ≤ k
  | 0 => Nat.le_refl _
  | k + 1 => by
    have := listK_few F k
    rw [Rn.listK]
    split
    · unfold Rn.push
      cases hl : (Rn.listK F k).getLast? with
      | none => simp
      | some r =>
        simp only
        split
        · rw [List.length_append, List.length_dropLast, List.length_singleton]; omega
        · rw [List.length_append, List.length_singleton]; omega
    · omega

theorem sl_two {w : World} {a b : Value} {t : TypeId} : Sl (w.alloc (.cells #[a, b] t)) (w.heap.size + 1) (some ⟨w.heap.size, 0, none⟩) [a, b] := .inr ⟨w.heap.size, 0, rfl, by omega, fun i hi => by
  rw [Nat.zero_add, cell_fresh rfl]
  have : i < 2 := hi
  have : i = 0 ∨ i = 1 := by omega
  rcases this with rfl | rfl <;> rfl⟩
theorem push_nil (i : Nat) : Rn.push [] i = [(i, 1)] := rfl
theorem push_last (l : List (Nat × Nat)) (a n i : Nat) : Rn.push (l ++ [(a, n)]) i = if a + n = i then l ++ [(a, n + 1)] else l ++ [(a, n)] ++ [(i, 1)] := by
  unfold Rn.push
  rw [List.getLast?_append, List.getLast?_singleton]
  simp
theorem listK_end (F : List Bool) : ∀ k, ∀ r ∈ Rn.listK F k, 1 ≤ r.2 ∧ r.1 + r.2 ≤ k := Rn.listK_end F
/-- Between two blocks. -/
structure Lst (w wr : World) (F : List Bool) (k : Nat) (v : Value) : Prop where
  own : OwnR wr w.heap.size v (Rn.listK F k)
  bel : Below w.heap.size w wr

set_option maxRecDepth 8000 in
set_option maxHeartbeats 8000000 in
theorem rlist_any {w : World} {g gb : Nat} {F : List Bool} (h : RRef w g gb F) :
    Calls Try.prog 46 #[.pointer (some ⟨g, 0, none⟩)] w fun e w' => ∃ v, e = .returned v ∧ OwnR w' w.heap.size v (Rn.list F) ∧ Below w.heap.size w w' := by
  obtain ⟨i0, hi0, hz0, hs0, hb0⟩ := run_parts
  have H := Lib.hid h
  have hf := h.few
  obtain ⟨m, hm⟩ : ∃ m, m = F.length := ⟨_, rfl⟩
  rw [← hm] at hf
  have Hm := Lib.hid hm
  clear h hm
  go_enter Try.func46, Try.ntmps46
  go_wp2_with fail
  go_loopw [3, 4] (fun v i wr => ∃ k : Nat, i = .int .i64 (k : Int) ∧ k ≤ m ∧ Lst w wr F k v) (fun _ i _ => m - (intOf i).toNat)
  case atStart => exact ⟨0, rfl, Nat.zero_le _, World.ownsRow_nil _ _ _ _, Below.refl _ _⟩
  case round =>
    obtain ⟨k, rfl, hk, hd⟩ := hrel
    have D := Lib.hid hd
    have hr : RRef wr g gb F := H.out.keep (hd.bel.block g H.out.map.lt) (hd.bel.block gb H.out.blks.lt)
    have c0 : wr.cell? ⟨g, 0, none⟩ = some (.slice (some ⟨gb, 0, none⟩) m m) := by rw [Hm.out]; exact hr.map.cell 0
    clear hd
    by_cases hkm : k < m
    · have z0 : decide ((k : Int) < (m : Int)) = true := by rw [decide_eq_true_eq]; omega
      have z0' : decide (k < m) = true := by rw [decide_eq_true_eq]; exact hkm
      have cx : wr.cell? ⟨gb, k, none⟩ = some (.bool (F.getD k false)) := by rw [hr.blks.cell, bls_at (by rw [← Hm.out]; exact hkm)]
      cases hy : F.getD k false with
      | false =>
        rw [hy] at cx
        have Nx := Lib.hid (show Lst w wr F (k + 1) u3 from ⟨by rw [Rn.listK, hy]; exact D.out.own, D.out.bel⟩)
        clear hy hr
        go_wp2_with fail
        go_roundw
        case rel => exact ⟨k + 1, by go_num, by omega, Nx.out⟩
        case measure => simp [intOf]; omega
      | true =>
        rw [hy] at cx
        have hnx : Rn.listK F (k + 1) = Rn.push (Rn.listK F k) k := by rw [Rn.listK, hy]; rfl
        have hfew := listK_few F k
        obtain ⟨L, hL⟩ : ∃ L, L = Rn.listK F k := ⟨_, rfl⟩
        have own := D.out.own
        rw [← hL] at hnx hfew own
        have Hy := Lib.hid hy
        clear hy hr
        rcases List.eq_nil_or_concat L with hl | ⟨L0, r, hl⟩
        · subst hl
          obtain ⟨A, c, rfl⟩ := ownR_slice own
          have Own := Lib.hid own
          have HL := Lib.hid hL
          have Hnx := Lib.hid (show Rn.listK F (k + 1) = [(k, 1)] by rw [hnx]; rfl)
          clear own hL hnx hfew
          go_wp2_with fail
          go_quiet (fail)
          have Ov := Lib.hid (own_keep Own.out (w' := wr.drewN nq) fun _ _ _ => rfl)
          have Bv := Lib.hid (show Below w.heap.size w (wr.drewN nq) from ⟨D.out.bel.os, D.out.bel.tape, D.out.bel.output, D.out.bel.size, D.out.bel.block⟩)
          clear c0 cx D Own
          generalize wr.drewN nq = wv at *
          have hal : Below w.heap.size wv (wv.alloc (.cells #[.int .i64 (k : Int), .int .i64 1] 39)) := (Below.refl _ _).alloc Bv.out.size _
          have Oz := Lib.hid (own_keep Ov.out fun b hb hlt => Below.heap_alloc wv (.cells #[.int .i64 (k : Int), .int .i64 1] 39) b hlt)
          have Bz := Lib.hid (Bv.out.trans hal)
          clear hal
          go_wp2_with (at_builtin; refine wpList_append_sls (base := w.heap.size) _ rfl (.tmp 54) (.tmp 57) _ rfl Try.underlying37 hi0 hz0 hs0 hb0 rfl (by decide) rfl Oz.out (m := 1) (news := [.int .i64 (k : Int), .int .i64 1]) rfl rfl (by simp) (Nat.le_refl _) sl_two (by simp [Value.oneCell']) (by unfold maxLen; simp) (by simp) Bz.out.size ?_; intro v8 w8 k1 k2 _; have K1 := Lib.hid k1; have B8 := Lib.hid (Bz.out.grown k2 Bz.out.size fun g hg => (Oz.out.lt g hg).1); clear k1 k2)
          go_roundw
          case rel => exact ⟨k + 1, by go_num, by omega, by rw [Hnx.out]; exact K1.out, B8.out⟩
          case measure => simp [intOf]; omega
        · obtain ⟨a, n⟩ := r
          rw [List.concat_eq_append] at hl
          have hrk : 1 ≤ n ∧ a + n ≤ k := listK_end F k (a, n) (by rw [← hL, hl]; exact List.mem_append_right _ (List.mem_singleton.2 rfl))
          rw [hl, push_last] at hnx
          rw [hl] at own
          obtain ⟨p, hp⟩ : ∃ p, p = L0.length := ⟨_, rfl⟩
          obtain ⟨q, hq⟩ : ∃ q, q = (L0 ++ [(a, n)]).length := ⟨_, rfl⟩
          have hqp : q = p + 1 := by rw [hq, List.length_append, hp]; rfl
          have hqk : q ≤ k := by rw [hl] at hfew; omega
          obtain ⟨gl, c, rfl, hgl, hgl2, hcell, hfz, hset⟩ := ownR_at own (by omega)
          obtain ⟨cl1, cl2⟩ := hcell p (by omega)
          rw [show (L0 ++ [(a, n)]).getD p (0, 0) = (a, n) by rw [List.getD_eq_getElem?_getD, List.getElem?_append_right (by omega), hp, Nat.sub_self]; rfl] at cl1 cl2
          rw [← hq] at own ⊢
          have fz := hfz (p * 2 + 1)
          have s1 : (q : Int) - 1 = (p : Int) := by omega
          have s1w : IntKind.i64.wrap ((q : Int) - 1) = (p : Int) := by rw [s1, IntKind.wrap_i64]; omega
          have s1v : IntKind.i64.wrap (p : Int) = (p : Int) := by rw [IntKind.wrap_i64]; omega
          obtain ⟨e, he⟩ : ∃ e : Nat, e = a + n := ⟨_, rfl⟩
          have s2 : (a : Int) + (n : Int) = (e : Int) := by omega
          have s2w : IntKind.i64.wrap ((a : Int) + (n : Int)) = (e : Int) := by rw [s2, IntKind.wrap_i64]; omega
          have s2v : IntKind.i64.wrap (e : Int) = (e : Int) := by rw [IntKind.wrap_i64]; omega
          have zq : (0 : Int) < (q : Int) := by omega
          have zq' : decide ((0 : Int) < (q : Int)) = true := by rw [decide_eq_true_eq]; exact zq
          have zq2 : decide (0 < q) = true := by rw [decide_eq_true_eq]; omega
          have zp : (0 : Int) ≤ (p : Int) ∧ (p : Int) < (q : Int) := by omega
          have Own := Lib.hid own
          have Hset := Lib.hid (hset (p * 2 + 1) (.int .i64 ((n + 1 : Nat) : Int)) rfl)
          have Hp := Lib.hid hp
          have Hq := Lib.hid hq
          have Hqp := Lib.hid hqp
          have hk9 : k ≤ 8192 := by omega
          have hn9 : n ≤ 8192 := by omega
          rw [← he] at hnx
          by_cases hek : e = k
          · rw [if_pos hek] at hnx
            have Hnx := Lib.hid hnx
            have z1 : ((e : Int) == (k : Int)) = true := by rw [beq_iff_eq]; omega
            have z1' : (e == k) = true := by rw [beq_iff_eq]; exact hek
            obtain ⟨n2, hn2⟩ : ∃ n2 : Nat, n2 = n + 1 := ⟨_, rfl⟩
            have s3 : (n : Int) + 1 = (n2 : Int) := by omega
            have Hn2 := Lib.hid hn2
            rw [← hn2] at Hset
            have hn29 : n2 ≤ 9000 := by omega
            clear hl hL hnx hfew own hcell hfz hset hp hq hqp he hek hrk hn2 hqk
            go_wp2_with fail
            go_quiet (fail)
            have D7 := Lib.hid (show Below w.heap.size w (wr.drewN nq) from ⟨D.out.bel.os, D.out.bel.tape, D.out.bel.output, D.out.bel.size, D.out.bel.block⟩)
            have d2 : (wr.drewN nq).cell? ⟨gl, p * 2 + 1, none⟩ = some (.int .i64 (n : Int)) := cl2
            have e2 : (wr.drewN nq).frozen? ⟨gl, p * 2 + 1, none⟩ = false := fz
            have Fin := Lib.hid (show Lst w ((wr.drewN nq).setCell ⟨gl, p * 2 + 1, none⟩ (.int .i64 (n2 : Int))) F (k + 1) (.slice (some ⟨gl, 0, none⟩) q c) from by
              refine ⟨?_, D7.out.setCell (p := ⟨gl, p * 2 + 1, none⟩) hgl _⟩
              rw [Hnx.out, ← Hn2.out]
              have h := Hset.out
              rw [Hp.out, Hn2.out, rcs_two, ← Hn2.out, List.length_append, List.length_singleton] at h
              have hq2 : q = L0.length + 1 := by rw [Hqp.out, Hp.out]
              show World.ownsRow _ _ _ _ _ _ _
              rw [List.length_append, List.length_singleton, Hp.out, hq2]
              exact own_keep h (w' := _) fun _ _ _ => rfl)
            clear c0 cx cl1 cl2 fz D
            generalize wr.drewN nq = wv at *
            go_wp2_with fail
            go_roundw
            case rel => exact ⟨k + 1, by go_num, by omega, Fin.out⟩
            case measure => simp [intOf]; omega
          · rw [if_neg hek] at hnx
            have Hnx := Lib.hid hnx
            have z1 : ((e : Int) == (k : Int)) = false := by rw [beq_eq_false_iff_ne]; omega
            have z1' : (e == k) = false := by rw [beq_eq_false_iff_ne]; exact hek
            clear hl hL hnx hfew own hcell hfz hset hp hq hqp he hek hrk Hset
            go_wp2_with fail
            go_quiet (fail)
            have Ov := Lib.hid (own_keep Own.out (w' := wr.drewN nq) fun _ _ _ => rfl)
            have Bv := Lib.hid (show Below w.heap.size w (wr.drewN nq) from ⟨D.out.bel.os, D.out.bel.tape, D.out.bel.output, D.out.bel.size, D.out.bel.block⟩)
            clear c0 cx cl1 cl2 fz D Own
            generalize wr.drewN nq = wv at *
            have hal : Below w.heap.size wv (wv.alloc (.cells #[.int .i64 (k : Int), .int .i64 1] 39)) := (Below.refl _ _).alloc Bv.out.size _
            have Oz := Lib.hid (own_keep Ov.out fun b hb hlt => Below.heap_alloc wv (.cells #[.int .i64 (k : Int), .int .i64 1] 39) b hlt)
            have Bz := Lib.hid (Bv.out.trans hal)
            clear hal
            go_wp2_with (at_builtin; refine wpList_append_sls (base := w.heap.size) _ rfl (.tmp 54) (.tmp 57) _ rfl Try.underlying37 hi0 hz0 hs0 hb0 rfl (by decide) rfl Oz.out (m := 1) (news := [.int .i64 (k : Int), .int .i64 1]) rfl rfl (by simp) (Nat.le_refl _) sl_two (by simp [Value.oneCell']) (by unfold maxLen; rw [← Hq.out]; omega) (by rw [← Hq.out]; omega) Bz.out.size ?_; intro v8 w8 k1 k2 _; have K1 := Lib.hid k1; have B8 := Lib.hid (Bz.out.grown k2 Bz.out.size fun g hg => (Oz.out.lt g hg).1); clear k1 k2)
            go_roundw
            case rel => exact ⟨k + 1, by go_num, by omega, by rw [Hnx.out]; exact (show OwnR w8 w.heap.size v8 (L0 ++ [(a, n)] ++ [(k, 1)]) by unfold OwnR; rw [List.length_append, rcs_app]; exact K1.out), B8.out⟩
            case measure => simp [intOf]; omega
    · have hkm' : k = m := by omega
      subst hkm'
      have z0 : decide ((k : Int) < (k : Int)) = false := by simp
      have z0' : decide (k < k) = false := by simp
      clear hr
      go_wp2_with fail
      go_ret
      exact ⟨_, rfl, by unfold Rn.list; rw [← Hm.out]; exact D.out.own, D.out.bel⟩
end Go.Proofs.Ytfiafgmlbejboaa
