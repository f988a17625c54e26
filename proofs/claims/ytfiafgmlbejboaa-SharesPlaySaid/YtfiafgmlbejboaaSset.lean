/- The document's Shares: Settle. -/
import Derived.Test.YtfiafgmlbejboaaSadd
namespace Go.Proofs.Ytfiafgmlbejboaa
open Go.RowKit

theorem ownU_ne {w : World} {B : Nat} {v : Value} {l : List Sh.U} {g : Nat} {t : TypeId} {cs : Array Value} (h : OwnU w B v l) (hg : Blk w g t cs) (hne : t ≠ 80) : v.ownBlock ≠ some g := fun hb => by
  rcases h.2 with ⟨h', _⟩ | ⟨g2, cap, cur, h', _, hg2, _⟩
  · subst h'; cases hb
  · subst h'
    injection hb with hb
    subst hb
    exact hg.ne_ hg2 hne rfl
theorem Sh.take_next {l : List Sh.U} {i : Nat} (h : i < l.length) : l.take (i + 1) = l.take i ++ [Sh.at_ l i] := by
  have hg : l[i]? = some (Sh.at_ l i) := by unfold Sh.at_; rw [List.getD_eq_getElem?_getD, List.getElem?_eq_getElem h]; rfl
  rw [List.take_add_one, hg]
  rfl
theorem Sh.lates_next {l : List Sh.U} {i : Nat} (h : i < l.length) : Sh.lates (l.take (i + 1)) = Sh.lates (l.take i) ++ if Sh.isLate (Sh.at_ l i) = true then [Sh.at_ l i] else [] := by
  unfold Sh.lates
  rw [Sh.take_next h, List.filter_append]
  congr 1
  by_cases c : Sh.isLate (Sh.at_ l i) = true
  · rw [if_pos c]; simp [c]
  · rw [if_neg c]; simp [c]
theorem Sh.used_next {l : List Sh.U} {i : Nat} (h : i < l.length) : Sh.used (l.take (i + 1)) = Sh.used (l.take i) ++ if Sh.isLate (Sh.at_ l i) = true then [] else [Sh.at_ l i] := by
  unfold Sh.used
  rw [Sh.take_next h, List.filter_append]
  congr 1
  by_cases c : Sh.isLate (Sh.at_ l i) = true
  · rw [if_pos c]; simp [c]
  · rw [if_neg c]; simp [c]
theorem Sh.give_snoc (F : List Bool) (l : List Sh.U) (u : Sh.U) : Sh.giveAll F (l ++ [u]) = (Rn.give (Sh.giveAll F l) (u.1 : Int) (u.2.1 : Int)).2 := by
  unfold Sh.giveAll
  rw [List.foldl_append]
  rfl
theorem Sh.blocks_snoc (l : List Sh.U) (u : Sh.U) : Sh.blocks (l ++ [u]) = Sh.blocks l + u.2.1 := by
  unfold Sh.blocks
  rw [List.map_append, List.sum_append]
  simp
theorem Sh.used_few (l : List Sh.U) : (Sh.used l).length ≤ l.length := List.length_filter_le _ _
theorem UOk.used {l : List Sh.U} (h : UOk l) : UOk (Sh.used l) := ⟨Nat.le_trans (Sh.used_few l) h.1, fun u hu => h.2 u ((List.mem_filter.1 hu).1)⟩
theorem Sh.blocks_few {l : List Sh.U} (h : ∀ u ∈ l, u.2.1 ≤ 1000000) : Sh.blocks l ≤ l.length * 1000000 := by
  induction l with
  | nil => simp [Sh.blocks]
  | cons u l ih =>
    have := ih fun x hx => h x (List.mem_cons_of_mem _ hx)
    have := h u (List.mem_cons_self ..)
    unfold Sh.blocks at *
    rw [List.map_cons, List.sum_cons, List.length_cons]
    omega

/-- The loop of Settle. -/
structure SetI (B gs gm gb q : Nat) (A : Option Addr) (c : Nat) (v2 : Value) (F : List Bool) (now was : List Sh.U) (i : Nat) (v3 v4 : Value) (w wr : World) : Prop where
  num : v3 = .int .i64 (Sh.blocks (Sh.lates (now.take i)) : Int)
  row : OwnU wr w.heap.size v4 (Sh.used (now.take i))
  map : RRef wr gm gb (Sh.giveAll F (Sh.lates (now.take i)))
  chg : Chg (fun b => b = gb) w wr
section
variable {w : World} {B gs gm gb : Nat} {F : List Bool} {now was : List Sh.U}
set_option maxRecDepth 8000 in
set_option maxHeartbeats 8000000 in
theorem ssettle_any (h : SRef w B gs gm gb F now was) (hB : B ≤ w.heap.size) :
    Calls Try.prog 36 #[.pointer (some ⟨gs, 0, none⟩)] w fun e w' => e = .returned (.int .i64 (Sh.blocks (Sh.lates now) : Int)) ∧ SRef w' B gs gm gb (Sh.giveAll F (Sh.lates now)) (Sh.used now) (Sh.used now) ∧ Chg (fun b => b = gs ∨ b = gb) w w' := by
  obtain ⟨i0, hi0, hz0, hs0, hb0⟩ := use_parts
  obtain ⟨v1, v2, hbk, hu1, hu2⟩ := h.sh
  obtain ⟨A, c, rfl, hc, hA⟩ := ownU_slice hu1
  obtain ⟨q, hq⟩ : ∃ q, q = now.length := ⟨_, rfl⟩
  have hq5 : q ≤ 100000 := by rw [hq]; exact h.ok.1
  have OK := Lib.hid h.ok
  have hngs : gs ≠ gb := fun e => (hbk.ne_ h.map.blks (by decide)) e
  have hngm : gm ≠ gb := fun e => (h.map.map.ne_ h.map.blks (by decide)) e
  have hv1 := ownU_ne hu1 h.map.blks (by decide)
  have Fc := Lib.hid (fun X (hc : Chg (fun b => b = gb) w X) => show Blk X gs 75 #[.pointer (some ⟨gm, 0, none⟩), .slice A q c, v2] ∧ OwnU X B (.slice A now.length c) now from
    ⟨by rw [hq]; exact hbk.keep (hc.block gs hbk.lt hngs), own_keep hu1 fun b hb hlt => hc.block b hlt fun e => hv1 (by rw [hb, e])⟩)
  have HQ := Lib.hid hq
  have st0 : SetI B gs gm gb q A c v2 F now was 0 (.int .i64 0) (.slice none 0 0) w w := ⟨rfl, World.ownsRow_nil _ _ _ _, h.map, Chg.refl _ _⟩
  have LtG := Lib.hid (show gs < w.heap.size ∧ gb < w.heap.size from ⟨hbk.lt, h.map.blks.lt⟩)
  clear hbk hu1 hu2 hq hv1 h hc hA
  go_enter Try.func36, Try.ntmps36
  go_wp2_with fail
  go_loopw [3, 4, 5] (fun v3 v4 v5 wr => ∃ i : Nat, v5 = .int .i64 (i : Int) ∧ i ≤ q ∧ SetI B gs gm gb q A c v2 F now was i v3 v4 w wr) (fun _ _ v5 _ => q - (intOf v5).toNat)
  case atStart => exact ⟨0, rfl, Nat.zero_le _, st0⟩
  case round =>
    obtain ⟨i, rfl, hi, I⟩ := hrel
    clear st0
    obtain ⟨hnum, hrow, hmap, hchg⟩ := I
    subst hnum
    obtain ⟨A4, c4, rfl⟩ := own_slice hrow
    obtain ⟨hbk, hu1⟩ := Fc.out _ hchg
    have cn : wr.cell? ⟨gs, 1, none⟩ = some (.slice A q c) := hbk.cell 1
    have c0 : wr.cell? ⟨gs, 0, none⟩ = some (.pointer (some ⟨gm, 0, none⟩)) := hbk.cell 0
    by_cases hiq : i < q
    · have z0 : decide ((i : Int) < (q : Int)) = true := by rw [decide_eq_true_eq]; omega
      have z0' : decide (i < q) = true := by rw [decide_eq_true_eq]; exact hiq
      have hin : i < now.length := by rw [← HQ.out]; exact hiq
      obtain ⟨g, c', hv, -, -, hcell⟩ := ownU_at hu1 (by omega)
      injection hv with hA hw1 hw2
      subst hA
      obtain ⟨e1, e2, e3, e4⟩ := hcell i hin
      obtain ⟨x1, x2, x3⟩ := OK.out.at_ i
      have n1 := Sh.lates_next hin
      have n2 := Sh.used_next hin
      have hbf := Sh.blocks_few (l := Sh.lates (now.take i)) (fun u hu => (OK.out.2 u (List.mem_of_mem_take ((List.mem_filter.1 hu).1))).2.1)
      have hlf : (Sh.lates (now.take i)).length ≤ i := by
        refine Nat.le_trans (List.length_filter_le _ _) ?_
        rw [List.length_take]; omega
      have hb11 : Sh.blocks (Sh.lates (now.take i)) ≤ 100000000000 := by
        refine Nat.le_trans hbf ?_
        have : (Sh.lates (now.take i)).length * 1000000 ≤ 100000 * 1000000 := Nat.mul_le_mul_right _ (by omega)
        omega
      obtain ⟨⟨a, n, us⟩, hu⟩ : ∃ u, u = Sh.at_ now i := ⟨_, rfl⟩
      have N1 := Lib.hid n1
      have N2 := Lib.hid n2
      rw [← hu] at e1 e2 e3 e4 N1 N2 x1 x2 x3
      dsimp only at e1 e2 e3 e4 x1 x2 x3
      obtain ⟨d, hd⟩ : ∃ d, wr.heap.size = d := ⟨_, rfl⟩
      obtain ⟨W1, hW1⟩ : ∃ W, wr.alloc (.cells #[.int .i64 (a : Int), .int .i64 (n : Int), .int .i64 (us : Int), .bool (Sh.isLate (a, n, us))] 80) = W := ⟨_, rfl⟩
      have hal : Below wr.heap.size wr W1 := by rw [← hW1]; exact (Below.refl _ _).alloc (Nat.le_refl _) _
      have bd : Blk W1 d 80 #[.int .i64 (a : Int), .int .i64 (n : Int), .int .i64 (us : Int), .bool (Sh.isLate (a, n, us))] := by rw [← hW1, ← hd]; exact Blk.new _ _ _
      have BD := Lib.hid bd
      have CH := Lib.hid (hchg.then_ (Chg.of_below (fun b => b = gb) hal))
      have RW := Lib.hid (own_keep hrow fun b _ hlt => hal.block b hlt : OwnU W1 w.heap.size (.slice A4 (Sh.used (now.take i)).length c4) (Sh.used (now.take i)))
      have MP := Lib.hid (hmap.keep (hal.block _ hmap.map.lt) (hal.block _ hmap.blks.lt))
      have bgs := Lib.hid (hbk.keep (hal.block _ hbk.lt))
      have f0 : W1.cell? ⟨gs, 0, none⟩ = some (.pointer (some ⟨gm, 0, none⟩)) := bgs.out.cell 0
      have d0 : W1.cell? ⟨d, 0, none⟩ = some (.int .i64 (a : Int)) := bd.cell 0
      have d1 : W1.cell? ⟨d, 1, none⟩ = some (.int .i64 (n : Int)) := bd.cell 1
      have d2 : W1.cell? ⟨d, 2, none⟩ = some (.int .i64 (us : Int)) := bd.cell 2
      have d3 : W1.cell? ⟨d, 3, none⟩ = some (.bool (Sh.isLate (a, n, us))) := bd.cell 3
      have hdb : d ≠ gb := fun e => by have := hmap.blks.lt; omega
      have MPlt := Lib.hid (show gm < d by rw [← hd]; exact hmap.map.lt)
      have hvd : (Value.slice A4 (Sh.used (now.take i)).length c4).ownBlock ≠ some d := fun h => by have := (hrow.lt d h).2; omega
      have hwd : w.heap.size ≤ d := by rw [← hd]; exact hchg.size
      clear hw1 hw2 hcell n1 n2 hbf hlf hu hal bd hrow hmap hbk hu1 hchg
      cases hl : Sh.isLate (a, n, us) with
      | true =>
        rw [hl] at e4 d3 N1 N2 BD hW1
        rw [if_pos rfl] at N1 N2
        rw [List.append_nil] at N2
        have Kp := Lib.hid (fun X (hcg : Chg (fun b => b = gb) W1 X) => show X.cell? ⟨gs, 0, none⟩ = some (.pointer (some ⟨gm, 0, none⟩)) ∧ X.cell? ⟨d, 0, none⟩ = some (.int .i64 (a : Int)) ∧ X.cell? ⟨d, 1, none⟩ = some (.int .i64 (n : Int)) from
          ⟨(bgs.out.keep (hcg.block gs bgs.out.lt hngs)).cell 0, (BD.out.keep (hcg.block d BD.out.lt hdb)).cell 0, (BD.out.keep (hcg.block d BD.out.lt hdb)).cell 1⟩)
        have hcg := (Chg.refl (fun b => b = gb) W1).drew
        have NG := Lib.hid (rgive_any (w := W1.drew) (MP.out.keep rfl rfl) (a : Int) (n : Int))
        obtain ⟨bl, hbl⟩ : ∃ bl, bl = Sh.blocks (Sh.lates (now.take i)) := ⟨_, rfl⟩
        rw [← hbl] at hb11 ⊢
        have w1 : (bl : Int) + (n : Int) = ((bl + n : Nat) : Int) := by omega
        have Nx := Lib.hid (fun X (hr : RRef X gm gb (Rn.give (Sh.giveAll F (Sh.lates (now.take i))) (a : Int) (n : Int)).2) (hc1 : Chg (fun b => b = gb) W1 X) => show SetI B gs gm gb q (some ⟨g, 0, none⟩) c v2 F now was (i + 1) (.int .i64 ((bl + n : Nat) : Int)) (.slice A4 (Sh.used (now.take i)).length c4) w X from
          ⟨by rw [N1.out, Sh.blocks_snoc, ← hbl], by rw [N2.out]; exact own_keep RW.out fun b hb hlt => hc1.block b hlt fun e => (ownU_ne RW.out MP.out.blks (by decide)) (by rw [hb, e]), by rw [N1.out, Sh.give_snoc]; exact hr, CH.out.then_ hc1⟩)
        clear hbl w1
        go_wp2_with fail
        go_region_held_law (fun X => X.cell? ⟨gs, 0, none⟩ = some (.pointer (some ⟨gm, 0, none⟩)) ∧ X.cell? ⟨d, 0, none⟩ = some (.int .i64 (a : Int)) ∧ X.cell? ⟨d, 1, none⟩ = some (.int .i64 (n : Int))) (exact Kp.out _ hcg) (first
          | (go_at_call 20; refine NG.out.mono ?_; rintro e w3 ⟨rfl, hr3, hc3⟩; have hcg := ((Chg.refl (fun b => b = gb) W1).drew).then_ hc3))
        all_goals
          obtain ⟨y0, y1, y2⟩ := Kp.out _ hcg
          have F3 := Lib.hid (Nx.out _ hr3 hcg)
          clear hr3 hc3 hcg
          go_wp2_with fail
          go_roundw
          case rel => exact ⟨i + 1, by go_num, by omega, by first | exact F3.out | (have := F3.out; simpa using this)⟩
          case measure => simp [intOf]; omega
      | false =>
        rw [hl] at e4 d3 N1 N2 BD hW1
        rw [if_neg (by decide)] at N1 N2
        rw [List.append_nil] at N1
        obtain ⟨W2, hW2⟩ : ∃ W, W1.setCell ⟨d, 3, none⟩ (.bool false) = W := ⟨_, rfl⟩
        have fzd : W1.frozen? ⟨d, 3, none⟩ = false := BD.out.frozen 3
        have bd := BD.out.set_ 3 (.bool false)
        rw [hW2] at bd
        have bd : Blk W2 d 80 #[.int .i64 (a : Int), .int .i64 (n : Int), .int .i64 (us : Int), .bool false] := bd
        have hch : Chg (fun b => b = d) W1 W2 := by rw [← hW2]; exact (Chg.refl (fun b => b = d) W1).setCell (p := ⟨d, 3, none⟩) (.inl rfl) _
        have RW := Lib.hid (own_keep RW.out fun b hb hlt => hch.block b hlt fun e => hvd (by rw [hb, e]) : OwnU W2 w.heap.size (.slice A4 (Sh.used (now.take i)).length c4) (Sh.used (now.take i)))
        have CH := Lib.hid (show Chg (fun b => b = gb) w W2 by rw [← hW2]; exact CH.out.setCell (p := ⟨d, 3, none⟩) (.inr hwd) _)
        have MP := Lib.hid (MP.out.keep (hch.block _ MP.out.map.lt fun e => by have := MPlt.out; omega) (hch.block _ MP.out.blks.lt fun e => hdb e.symm))
        have p0 : W2.cell? ⟨d, 0, none⟩ = some (.int .i64 (a : Int)) := bd.cell 0
        have p1 : W2.cell? ⟨d, 1, none⟩ = some (.int .i64 (n : Int)) := bd.cell 1
        have p2 : W2.cell? ⟨d, 2, none⟩ = some (.int .i64 (us : Int)) := bd.cell 2
        have p3 : W2.cell? ⟨d, 3, none⟩ = some (.bool false) := bd.cell 3
        clear bd hch
        have hfew := Sh.used_few (now.take i)
        rw [List.length_take] at hfew
        obtain ⟨L, hL⟩ : ∃ L, L = Sh.used (now.take i) := ⟨_, rfl⟩
        rw [← hL] at hfew N2 RW ⊢
        obtain ⟨k, hk⟩ : ∃ k, k = L.length := ⟨_, rfl⟩
        have Hk := Lib.hid hk
        rw [← hk] at hfew ⊢
        have HL := Lib.hid hL
        have hbW := Lib.hid (show w.heap.size ≤ W2.heap.size from CH.out.size)
        have hal2 : Below W2.heap.size W2 (W2.alloc (.cells #[.int .i64 (a : Int), .int .i64 (n : Int), .int .i64 (us : Int), .bool false] 80)) := (Below.refl _ _).alloc (Nat.le_refl _) _
        have RW2 := Lib.hid (show World.ownsRow (W2.alloc (.cells #[.int .i64 (a : Int), .int .i64 (n : Int), .int .i64 (us : Int), .bool false] 80)) w.heap.size 80 4 (.slice A4 k c4) k (ucs L) by
          have h := RW.out
          unfold OwnU at h
          rw [← Hk.out] at h
          exact own_keep h fun b _ hlt => hal2.block b hlt)
        have CH2 := Lib.hid (CH.out.then_ (Chg.of_below (fun b => b = gb) hal2))
        have MP2 := Lib.hid (MP.out.keep (hal2.block _ MP.out.map.lt) (hal2.block _ MP.out.blks.lt))
        have u1 : ucs [(a, n, us)] = [.int .i64 (a : Int), .int .i64 (n : Int), .int .i64 (us : Int), .bool false] := by show [_, _, _, _] = _; rw [hl]
        have U1 := Lib.hid u1
        have ne1 : (Value.slice A4 k c4).ownBlock ≠ some gm := by
          have h := ownU_ne RW.out MP.out.map (by decide)
          rw [← Hk.out] at h
          exact h
        have ne2 : (Value.slice A4 k c4).ownBlock ≠ some gb := by
          have h := ownU_ne RW.out MP.out.blks (by decide)
          rw [← Hk.out] at h
          exact h
        have Ne1 := Lib.hid ne1
        have Ne2 := Lib.hid ne2
        clear hL hk hal2 u1 ne1 ne2
        go_wp2_with (at_builtin; (refine wpList_append_sls (base := w.heap.size) _ rfl (.tmp 41) (.tmp 43) _ rfl Try.underlying73 hi0 hz0 hs0 hb0 rfl (by decide) rfl RW2.out (m := 1) (news := [.int .i64 (a : Int), .int .i64 (n : Int), .int .i64 (us : Int), .bool false]) rfl rfl (by simp) (Nat.le_refl _) sl_four (by simp [Value.oneCell']) (by unfold maxLen; omega) (by omega) (CH2.out.size) ?_; intro v8 w8 k1 k2 _; have Fn := Lib.hid (show SetI B gs gm gb q (some ⟨g, 0, none⟩) c v2 F now was (i + 1) (.int .i64 (Sh.blocks (Sh.lates (now.take i)) : Int)) v8 w w8 from ⟨by rw [N1.out], (by rw [N2.out]; unfold OwnU; rw [List.length_append, ucs_app, U1.out, ← Hk.out]; exact k1), (by rw [N1.out]; exact MP2.out.keep (k2.block _ MP2.out.map.lt (Ne.symm Ne1.out)) (k2.block _ MP2.out.blks.lt (Ne.symm Ne2.out))), CH2.out.grown k2 (fun k hk => .inr (RW2.out.lt k hk).1)⟩); clear k1 k2))
        go_roundw
        case rel => exact ⟨i + 1, by go_num, by omega, Fn.out⟩
        case measure => simp [intOf]; omega
    · have hiq' : i = q := by omega
      have z0 : decide ((i : Int) < (q : Int)) = false := by rw [decide_eq_false_iff_not]; omega
      have z0' : decide (i < q) = false := by rw [decide_eq_false_iff_not]; exact hiq
      have htk : now.take i = now := by rw [hiq', HQ.out, List.take_length]
      rw [htk] at hrow hmap ⊢
      clear hiq' htk
      obtain ⟨L, hL⟩ : ∃ L, L = Sh.used now := ⟨_, rfl⟩
      have hfew := Sh.used_few now
      rw [← hL, ← HQ.out] at hfew
      rw [← hL] at hrow ⊢
      have Hok := Lib.hid (show UOk L by rw [hL]; exact OK.out.used)
      obtain ⟨k, hk⟩ : ∃ k, k = L.length := ⟨_, rfl⟩
      rw [← hk] at hfew ⊢
      have Hk := Lib.hid hk
      have RW := Lib.hid (show World.ownsRow wr w.heap.size 80 4 (.slice A4 k c4) k (ucs L) by
        have h := hrow
        unfold OwnU at h
        rw [← hk] at h
        exact h)
      have hA4 := own_none RW.out
      have hc4 := own_len RW.out
      have SL := Lib.hid (ownU_sl (A := A4) (c := c4) (l := L) (by unfold OwnU; rw [← hk]; exact RW.out))
      have NG := Lib.hid (show (Value.slice A4 k c4).ownBlock ≠ some gs by
        have h := ownU_ne hrow hbk (by decide)
        rw [← hk] at h
        exact h)
      have CH := Lib.hid hchg
      have BG := Lib.hid hbk
      have MP := Lib.hid hmap
      have HB2 := Lib.hid (show B ≤ wr.heap.size from Nat.le_trans hB hchg.size)
      have ONil := World.ownsRow_nil wr wr.heap.size 80 4
      have HLn := Lib.hid hL
      clear hL hk hrow hmap hchg hbk hu1
      go_wp2_with (at_builtin; (refine wpList_append_sls (base := wr.heap.size) _ rfl (.const (.slice none 0 0)) (.tmp 48) _ rfl Try.underlying73 hi0 hz0 hs0 hb0 rfl (by decide) rfl ONil (m := k) (news := ucs L) rfl (by rw [ucs_len, Hk.out]) hA4 hc4 SL.out (ucs_one L) (by unfold maxLen; omega) (by omega) (Nat.le_refl _) ?_; intro v8 w8 k1 k2 _; rw [Nat.zero_add, List.nil_append] at k1; obtain ⟨A8, c8, rfl⟩ := own_slice k1; have b8 := (Below.refl wr.heap.size wr).grown k2 (Nat.le_refl _) (fun g hg => by cases hg); have bg8 := BG.out.keep (b8.block gs BG.out.lt); have g1 : w8.cell? ⟨gs, 1, none⟩ = some (.slice A q c) := bg8.cell 1; have g2 : w8.cell? ⟨gs, 2, none⟩ = some v2 := bg8.cell 2; have z1 := bg8.frozen 1; have z2 := bg8.frozen 2; have bg9 : Blk (w8.setCell ⟨gs, 1, none⟩ (.slice A4 k c4)) gs 75 #[.pointer (some ⟨gm, 0, none⟩), .slice A4 k c4, v2] := bg8.set_ 1 _; have g3 : (w8.setCell ⟨gs, 1, none⟩ (.slice A4 k c4)).cell? ⟨gs, 2, none⟩ = some v2 := bg9.cell 2; have z3 := bg9.frozen 2; have K1 := Lib.hid k1; have B8 := Lib.hid b8; have BG9 := Lib.hid bg9; clear k1 k2 b8 bg8 bg9))
      have bgf : Blk ((w8.setCell ⟨gs, 1, none⟩ (.slice A4 k c4)).setCell ⟨gs, 2, none⟩ (.slice A8 k c8)) gs 75 #[.pointer (some ⟨gm, 0, none⟩), .slice A4 k c4, .slice A8 k c8] := BG9.out.set_ 2 _
      have chf : Chg (fun b => b = gs) wr ((w8.setCell ⟨gs, 1, none⟩ (.slice A4 k c4)).setCell ⟨gs, 2, none⟩ (.slice A8 k c8)) := ((Chg.of_below (fun b => b = gs) B8.out).setCell (p := ⟨gs, 1, none⟩) (.inl rfl) _).setCell (p := ⟨gs, 2, none⟩) (.inl rfl) _
      have ch8 : Chg (fun b => b = gs) w8 ((w8.setCell ⟨gs, 1, none⟩ (.slice A4 k c4)).setCell ⟨gs, 2, none⟩ (.slice A8 k c8)) := ((Chg.refl (fun b => b = gs) w8).setCell (p := ⟨gs, 1, none⟩) (.inl rfl) _).setCell (p := ⟨gs, 2, none⟩) (.inl rfl) _
      have nm : gm ≠ gs := fun e => (MP.out.map.ne_ BG.out (by decide)) e
      have r1 : OwnU ((w8.setCell ⟨gs, 1, none⟩ (.slice A4 k c4)).setCell ⟨gs, 2, none⟩ (.slice A8 k c8)) B (.slice A4 k c4) L := by
        unfold OwnU
        rw [← Hk.out]
        exact World.ownsRow_base (own_keep RW.out fun b hb hlt => chf.block b hlt fun e => NG.out (by rw [hb, e])) hB
      have r2 : OwnU ((w8.setCell ⟨gs, 1, none⟩ (.slice A4 k c4)).setCell ⟨gs, 2, none⟩ (.slice A8 k c8)) B (.slice A8 k c8) L := by
        unfold OwnU
        rw [← Hk.out]
        exact World.ownsRow_base (own_keep K1.out fun b hb hlt => ch8.block b hlt fun e => by have := (K1.out.lt b hb).1; have := BG.out.lt; omega) HB2.out
      have Fin := Lib.hid (show SRef ((w8.setCell ⟨gs, 1, none⟩ (.slice A4 k c4)).setCell ⟨gs, 2, none⟩ (.slice A8 k c8)) B gs gm gb (Sh.giveAll F (Sh.lates now)) L L ∧ Chg (fun b => b = gs ∨ b = gb) w ((w8.setCell ⟨gs, 1, none⟩ (.slice A4 k c4)).setCell ⟨gs, 2, none⟩ (.slice A8 k c8)) from
        ⟨⟨⟨_, _, bgf, r1, r2⟩, MP.out.keep (chf.block gm MP.out.map.lt nm) (chf.block gb MP.out.blks.lt hngs.symm), Hok.out, Hok.out⟩, (CH.out.mono fun b hb => .inr hb).then_ (chf.mono fun b hb => .inl hb)⟩)
      clear bgf chf ch8 r1 r2 g1 g2 g3 z1 z2 z3
      go_wp2_with fail
      go_ret
      exact ⟨rfl, by rw [← HLn.out]; exact Fin.out.1, Fin.out.2⟩
end
end Go.Proofs.Ytfiafgmlbejboaa
