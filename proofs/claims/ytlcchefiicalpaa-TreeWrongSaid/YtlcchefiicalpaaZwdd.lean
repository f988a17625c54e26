/- slices.SortStableFunc at a row of edits of one's own, by inOrder's closure. The program's inOrder: the edits sorted, the last one of each key kept. -/
import Derived.Test.YtlcchefiicalpaaZwba
import Derived.Test.YtlcchefiicalpaaZwcc
import Derived.Test.YtlcchefiicalpaaZwci
import Derived.Test.YtlcchefiicalpaaZwda
import Derived.BigQuiet
namespace Go.Proofs.Ytlcchefiicalpaa.Srt6
open Go.RowKit Go.Shelf Go.Lib Go.Sort
/-- An edit's cells, by its place. -/
def ix (l : List Tr.Ed) (i : Nat) : List Value := ed1 (ex l i)
theorem ix_len (l : List Tr.Ed) (i : Nat) : (ix l i).length = 6 := rfl
theorem ix_one (l : List Tr.Ed) (i : Nat) : ∀ v ∈ ix l i, v.oneCell' = true := by
  intro v hv
  simp only [ix, ed1, edcs, List.mem_cons, List.not_mem_nil, or_false] at hv
  rcases hv with rfl | rfl | rfl | rfl | rfl | rfl <;> rfl
theorem flat_at (l : List Tr.Ed) (Z : List Nat) {j : Nat} (hj : j < Z.length * 6) : (edcs (Z.map (ex l)))[j]? = some (flatK (ix l) 6 Z.toArray)[j]! := by
  rw [get_flatK _ _ _ _ (by simpa using hj)]
  have hk : j / 6 < Z.length := by omega
  have h := edcs_at (l := Z.map (ex l)) (k := j / 6) (j := j % 6) (x := ex l Z[j / 6]) (by rw [List.getElem?_map, List.getElem?_eq_getElem hk]; rfl) (Nat.mod_lt _ (by omega))
  rw [show j / 6 * 6 + j % 6 = j by omega] at h
  rw [h]
  have h6 : j % 6 < (ed1 (ex l Z[j / 6])).length := Nat.mod_lt _ (by show 0 < 6; omega)
  rw [List.getElem?_eq_getElem h6, show Z.toArray[j / 6]! = Z[j / 6] by simp [hk]]
  congr 1
  exact (getElem!_pos (ix l Z[j / 6]) (j % 6) h6).symm
theorem map_range (l : List Tr.Ed) : (List.range l.length).map (ex l) = l := by
  apply List.ext_getElem
  · simp
  · intro i h1 h2
    rw [List.getElem_map, List.getElem_range]
    unfold ex
    rw [List.getD_eq_getElem?_getD, List.getElem?_eq_getElem h2]; rfl
theorem putRow_heap (w : World) (blk off : Nat) (d : Array Value) (i : Nat) (h : i ≠ blk) : (putRow id w blk off d).heap[i]? = w.heap[i]? := by
  simp only [putRow, mapBlock, Array.getElem?_modify]
  rw [if_neg (fun e => h e.symm)]
/-- Nothing but the row has changed. -/
theorem sorted_chg {E : Nat → List Value} {w0 W : World} {blk : Nat} {L : List Nat} (h : Sl1 E w0 blk L W) : Chg (fun b => b = blk) w0 W := by
  obtain ⟨m, os, rfl⟩ := h
  have hs : (putRow id (Sort.ahead w0 m) blk 0 (flatK E 6 L.toArray)).heap.size = w0.heap.size := by simp [putRow, mapBlock, Sort.ahead]
  unfold sortWorldK putRowK
  refine ⟨rfl, rfl, rfl, by rw [size_grow, hs]; omega, fun b hb hne => ?_⟩
  rw [heap_grow_old _ _ (by rw [hs]; exact hb), putRow_heap _ _ _ _ _ hne]
  rfl
set_option maxRecDepth 8000 in
set_option maxHeartbeats 4000000 in
theorem order1_ex (x y : Tr.Ed) (w : World) : Calls Try.prog 101 #[edv x, edv y] w fun e w' => e = .returned (.int .i64 (cmpI x.x.k y.x.k)) ∧ ∃ o1 o2, w' = (w.alloc o1).alloc o2 := by
  have N1 := Lib.hid (fun u => compare_any x.x.k y.x.k u)
  dsimp only [edv]
  go_enter Try.func101, Try.ntmps101
  go_wp2_with (go_at_call 102; (with_reducible refine (N1.out _).mono ?_); rintro e w2 ⟨rfl, rfl⟩)
  go_ret
  exact ⟨rfl, _, _, rfl⟩
theorem cmp_ok (l : List Tr.Ed) (w : World) (blk N : Nat) : Cmp (ix l) (kx l) 101 #[] w blk N := by
  refine ⟨enters_of Try.func101 (by kernel_rfl) rfl, fun m os dk _ x y => ?_⟩
  refine (order1_ex (ex l x) (ex l y) _).mono ?_
  rintro e w' ⟨rfl, o1, o2, rfl⟩
  refine ⟨rfl, 0, #[o1, o2], ?_⟩
  rw [alloc_eq_grow, alloc_eq_grow, grow_grow]; rfl
theorem sort_own {w : World} {B : Nat} {A : Option Addr} {c n : Nat} {l : List Tr.Ed} (own : w.ownsRow B 146 6 (.slice A n c) n (edcs l)) (hl : l.length = n) (hn : 0 < n) (few : n ≤ 100000) :
    Calls Try.prog 100 #[.slice A n c, .func (.func 101) #[] #[]] w fun e w' => e = .returned (.tuple #[]) ∧ Sl w' w'.heap.size A (edcs (Tr.sortE l)) ∧ Chg (fun b => (Value.slice A n c).ownBlock = some b) w w' := by
  have hle := edcs_len l
  obtain ⟨g, cap, cur, hv, hbg, hgw, hncap, hcm, hsz, hcur⟩ := own.2.resolve_left (fun h => by omega)
  injection hv with hA _ _
  subst hA
  have hglt : g < w.heap.size := (Array.getElem?_eq_some_iff.1 hgw).1
  have hH : HoldsK (ix l) 6 w g 0 (List.range n).toArray := by
    intro j hj
    have hj' : j < n * 6 := by simpa using hj
    have hf := flat_at l (List.range n) (j := j) (by simpa using hj')
    have hm : (List.range n).map (ex l) = l := by rw [← hl]; exact map_range l
    rw [hm] at hf
    refine ⟨?_, own.frozenAt _⟩
    rw [Nat.zero_add, own.cellAt _ hj', hf]; rfl
  have R : RowK (ix l) 6 w g 0 (List.range n).toArray := ⟨ix_len l, ix_one l, hH, hglt⟩
  have s : Srt (ix l) w g n := ⟨⟨_, by simp, R⟩, few⟩
  refine (sort_any s (cmp_ok l w g n) c (List.range n) List.pairwise_lt_range (by simp) w (SWK.start hH)).mono ?_
  rintro e w' ⟨rfl, Z, hZ, hp, hw⟩
  have hZl : Z.length = n := by rw [hZ.length_eq]; simp
  have hch := sorted_chg hw
  have hmap : Z.map (ex l) = Tr.sortE l := sorted_is (by rw [hl]; exact hZ) hp
  have hH2 := SWK.holds hw hglt hH (by simp [hZl])
  refine ⟨rfl, .inr ⟨g, 0, rfl, Nat.lt_of_lt_of_le hglt hch.size, fun i hi => ?_⟩, hch.mono fun b hb => by rw [hb]; rfl⟩
  have hi' : i < Z.length * 6 := by rw [← hmap, edcs_len, List.length_map] at hi; omega
  have hf := flat_at l Z hi'
  rw [hmap, List.getElem?_eq_getElem hi] at hf
  injection hf with hf
  rw [(hH2 i (by simpa using hi')).1, hf]; rfl
end Go.Proofs.Ytlcchefiicalpaa.Srt6
namespace Go.Proofs.Ytlcchefiicalpaa
open Go.RowKit
theorem cells6e {w : World} {xb : Nat} {t : TypeId} {a b c d e f : Value} (h : Blk w xb t #[a, b, c, d, e, f]) : w.cell? ⟨xb, 0, none⟩ = some a ∧ w.cell? ⟨xb, 1, none⟩ = some b ∧ w.cell? ⟨xb, 2, none⟩ = some c ∧ w.cell? ⟨xb, 3, none⟩ = some d ∧ w.cell? ⟨xb, 4, none⟩ = some e ∧ w.cell? ⟨xb, 5, none⟩ = some f := ⟨h.cell 0, h.cell 1, h.cell 2, h.cell 3, h.cell 4, h.cell 5⟩
set_option maxRecDepth 8000 in
set_option maxHeartbeats 16000000 in
theorem inorder_any : InC := by
  intro w B A c n l own hl hn0 few
  obtain ⟨i0, hi0, hz0, hs0, hb0⟩ := edit_parts
  obtain ⟨d0, hd0, hd1⟩ := edit_row
  obtain ⟨S, hS⟩ : ∃ S, Tr.sortE l = S := ⟨_, rfl⟩
  have hSl : S.length = n := by rw [← hS, Tr.sortE_len, hl]
  have hsort := Srt6.sort_own own hl hn0 few
  rw [hS] at hsort
  obtain ⟨R, hR⟩ : ∃ R, Tr.lastOnes S = R := ⟨_, rfl⟩
  have hIn : Tr.inOrder l = R := by rw [← hR, ← hS]; rfl
  rw [hIn]
  have HSo := Lib.hid hsort
  have HR := Lib.hid hR
  have HSl := Lib.hid hSl
  clear own hl hS hSl hsort hR hIn
  go_enter Try.func88, Try.ntmps88
  go_wp2_with (go_at_call 100; (with_reducible refine HSo.out.mono ?_); rintro r w2 ⟨rfl, h1, h2⟩; (have HL := Lib.hid h1); (have HC := Lib.hid h2); clear h1 h2)
  go_loopw [3, 10] (fun v3 v10 wr => ∃ (i m : Nat) (O : List Tr.Ed), v10 = .int .i64 (i : Int) ∧ i ≤ n ∧ m ≤ i ∧ O.length = m ∧ wr.ownsRow w2.heap.size 146 6 v3 m (edcs O) ∧ Below w2.heap.size w2 wr ∧ O ++ Tr.lastOnes (S.drop i) = R) (fun _ v10 _ => n - (intOf v10).toNat)
  case atStart => exact ⟨0, 0, [], rfl, Nat.zero_le _, Nat.le_refl _, rfl, World.ownsRow_nil _ _ _ _, Below.refl _ _, by rw [List.drop_zero]; exact HR.out⟩
  case round =>
    obtain ⟨i, m, O, rfl, hi, hmi, hO, ho, hb, hla⟩ := hrel
    obtain ⟨OA, oc, rfl⟩ := own_slice ho
    have HO := Lib.hid ho
    have HB := Lib.hid hb
    have HOl := Lib.hid hO
    have HLa := Lib.hid hla
    clear ho hO hla
    by_cases hin : i < n
    · have y0 : decide ((i : Int) < (n : Int)) = true := by rw [decide_eq_true_eq]; omega
      have y1 : (i : Int) < (n : Int) := by omega
      have MB := Lib.hid (show m + 1 ≤ maxLen ∧ (m + 1) * 48 ≤ 140737488355328 from ⟨by unfold maxLen; omega, by omega⟩)
      obtain ⟨p, hp⟩ : ∃ p, p = i + 1 := ⟨_, rfl⟩
      have zp : (i : Int) + 1 = (p : Int) := by omega
      have Wi : wrap64 ((i : Int) + 1) = (p : Int) := by simp only [wrap64]; omega
      have hiS : i < S.length := by rw [HSl.out]; exact hin
      obtain ⟨x, hx⟩ : ∃ x, S[i]? = some x := ⟨_, List.getElem?_eq_getElem hiS⟩
      obtain ⟨g, o, rfl, hg, rg⟩ := (HL.out.below hb).edit hx
      have HX := Lib.hid hx
      have Hp := Lib.hid hp
      obtain ⟨xq, hxq⟩ : ∃ x, wr.heap.size = x := ⟨_, rfl⟩
      clear hx hb hp hiS
      go_upto_region 6 with (first
        | ((with_reducible show wpList _ _ _ (⟨some 14, Op.load 146 _, _, _, _, _⟩ :: _) _ _); refine wpList_load_mid rfl 146 _ rfl g (o + i * 6) rfl [.int .i64 x.x.k, .int .i64 x.x.p.1, .int .i64 x.x.p.2.1, .int .i64 x.x.p.2.2, .int .i64 x.x.g, .bool x.cut] d0 rg hd0 hd1 edit_size ?_))
      obtain ⟨Wx, hWx⟩ : ∃ W, wr.alloc (.cells #[.int .i64 x.x.k, .int .i64 x.x.p.1, .int .i64 x.x.p.2.1, .int .i64 x.x.p.2.2, .int .i64 x.x.g, .bool x.cut] 146) = W := ⟨_, rfl⟩
      rw [hWx]
      have bx : Blk Wx xq 146 #[.int .i64 x.x.k, .int .i64 x.x.p.1, .int .i64 x.x.p.2.1, .int .i64 x.x.p.2.2, .int .i64 x.x.g, .bool x.cut] := by rw [← hWx, ← hxq]; exact Blk.new _ _ _
      have hbx : Below wr.heap.size wr Wx := by rw [← hWx]; exact below_alloc1 _ _
      have Bx := Lib.hid bx
      have HBx := Lib.hid hbx
      obtain ⟨f0, f1, f2, f3, f4, f5⟩ := cells6e bx
      have HB3 := Lib.hid (show ∀ q, Below wr.heap.size wr (Wx.drewN q) from fun q => ⟨hbx.os, hbx.tape, hbx.output, hbx.size, hbx.block⟩)
      have HY := Lib.hid (show ∀ y, S[p]? = some y → Wx.cell? ⟨g, o + p * 6, none⟩ = some (.int .i64 y.x.k) from fun y hy => by
        obtain ⟨g', o', e, _, r⟩ := (HL.out.below (HB.out.trans (hbx.mono HB.out.size))).edit hy
        injection e with e; injection e with e1 e2 _
        subst e1; subst e2
        exact r 0 _ rfl)
      have Hi := Lib.hid (show i < n ∧ m ≤ i from ⟨hin, hmi⟩)
      clear hWx hxq bx hbx rg hg hi hmi hin
      by_cases hpn : p = n
      · have e1 : ((p : Int) == (n : Int)) = true := by rw [hpn]; simp
        have Nx := Lib.hid (Srt6.last_end (HLa.out.trans HR.out.symm) HX.out (by rw [HSl.out, ← hpn, Hp.out]))
        have Hpn := Lib.hid hpn
        clear hpn
        go_quiet (fail)
        obtain ⟨W3, hW3⟩ : ∃ W, Wx.drewN nq = W := ⟨_, rfl⟩
        rw [hW3]
        have BD := Lib.hid (show Below wr.heap.size wr W3 by rw [← hW3]; exact HB3.out nq)
        have B3 := Lib.hid (show ∀ o, Below wr.heap.size wr (W3.alloc o) from fun o => BD.out.trans ((below_alloc1 W3 o).mono BD.out.size))
        clear f0 f1 f2 f3 f4 f5
        obtain ⟨f0, f1, f2, f3, f4, f5⟩ := cells6e (show Blk W3 xq 146 #[.int .i64 x.x.k, .int .i64 x.x.p.1, .int .i64 x.x.p.2.1, .int .i64 x.x.p.2.2, .int .i64 x.x.g, .bool x.cut] by rw [← hW3]; exact Bx.out)
        clear hW3
        go_wp2_with (at_builtin; refine wpList_append_sls (base := w2.heap.size) _ rfl (.tmp 33) (.tmp 35) _ rfl Try.underlying143 hi0 hz0 hs0 hb0 rfl (by decide) rfl (own_below HO.out (B3.out _)) (m := 1) (news := edcs [x]) rfl rfl (by simp) (Nat.le_refl _) sl_6 (edcs_one _) MB.out.1 MB.out.2 (Nat.le_trans HB.out.size (B3.out _).size) ?_; intro v7 w7 h1 h2 h3; (have N7 := Lib.hid (show w7.ownsRow w2.heap.size 146 6 v7 (m + 1) (edcs (O ++ [x])) ∧ Below w2.heap.size w2 w7 from ⟨own_ed1 h1, (HB.out.trans ((B3.out _).mono HB.out.size)).grown h2 (Nat.le_trans HB.out.size (B3.out _).size) fun b hb => (HO.out.lt b hb).1⟩)); clear h1 h2 h3)
        go_roundw
        case rel => exact ⟨p, m + 1, O ++ [x], by go_num, by have := Hpn.out; omega, by have := Hi.out; have := Hp.out; omega, by rw [List.length_append, HOl.out]; rfl, N7.out.1, N7.out.2, by rw [← HR.out, Hp.out]; exact Nx.out⟩
        case measure => have := Hi.out; have := Hp.out; simp [intOf]; omega
      · have hplt : p < n := by have := Hi.out; have := Hp.out; omega
        have e1 : ((p : Int) == (n : Int)) = false := by rw [beq_eq_false_iff_ne]; omega
        have pz : (0 : Int) ≤ (p : Int) ∧ (p : Int) < (n : Int) := by omega
        obtain ⟨y, hy⟩ : ∃ y, S[p]? = some y := ⟨_, List.getElem?_eq_getElem (by rw [HSl.out]; exact hplt)⟩
        have cy := HY.out y hy
        have Nx := Lib.hid (Srt6.last_next (HLa.out.trans HR.out.symm) HX.out (by rw [Hp.out] at hy; exact hy))
        have Hpn := Lib.hid hplt
        obtain ⟨yk, hyk⟩ : ∃ k, k = y.x.k := ⟨_, rfl⟩
        rw [← hyk] at cy
        have Hyk := Lib.hid hyk
        clear hpn hy hyk HY
        by_cases hk : yk = x.x.k
        · have k1 : (yk != x.x.k) = false := by simp [hk]
          have k2 : (yk == x.x.k) = true := by simp [hk]
          have Hk := Lib.hid hk
          clear hk
          go_quiet (fail)
          obtain ⟨W3, hW3⟩ : ∃ W, Wx.drewN nq = W := ⟨_, rfl⟩
          rw [hW3]
          have BD := Lib.hid (show Below wr.heap.size wr W3 by rw [← hW3]; exact HB3.out nq)
          have B3 := Lib.hid (show ∀ o, Below wr.heap.size wr (W3.alloc o) from fun o => BD.out.trans ((below_alloc1 W3 o).mono BD.out.size))
          clear f0 f1 f2 f3 f4 f5
          obtain ⟨f0, f1, f2, f3, f4, f5⟩ := cells6e (show Blk W3 xq 146 #[.int .i64 x.x.k, .int .i64 x.x.p.1, .int .i64 x.x.p.2.1, .int .i64 x.x.p.2.2, .int .i64 x.x.g, .bool x.cut] by rw [← hW3]; exact Bx.out)
          clear hW3
          go_wp2_with fail
          go_roundw
          case rel => exact ⟨p, m, O, by go_num, by have := Hpn.out; omega, by have := Hi.out; have := Hp.out; omega, HOl.out, own_below HO.out BD.out, HB.out.trans (BD.out.mono HB.out.size), by
            have h := Nx.out
            rw [← Hyk.out, if_pos Hk.out, ← Hp.out] at h
            rw [← HR.out]; exact h⟩
          case measure => have := Hi.out; have := Hp.out; simp [intOf]; omega
        · have k1 : (yk != x.x.k) = true := by simp [hk]
          have k2 : (yk == x.x.k) = false := by simp [hk]
          have Hk := Lib.hid hk
          clear hk
          go_quiet (fail)
          obtain ⟨W3, hW3⟩ : ∃ W, Wx.drewN nq = W := ⟨_, rfl⟩
          rw [hW3]
          have BD := Lib.hid (show Below wr.heap.size wr W3 by rw [← hW3]; exact HB3.out nq)
          have B3 := Lib.hid (show ∀ o, Below wr.heap.size wr (W3.alloc o) from fun o => BD.out.trans ((below_alloc1 W3 o).mono BD.out.size))
          clear f0 f1 f2 f3 f4 f5
          obtain ⟨f0, f1, f2, f3, f4, f5⟩ := cells6e (show Blk W3 xq 146 #[.int .i64 x.x.k, .int .i64 x.x.p.1, .int .i64 x.x.p.2.1, .int .i64 x.x.p.2.2, .int .i64 x.x.g, .bool x.cut] by rw [← hW3]; exact Bx.out)
          clear hW3
          go_wp2_with (at_builtin; refine wpList_append_sls (base := w2.heap.size) _ rfl (.tmp 33) (.tmp 35) _ rfl Try.underlying143 hi0 hz0 hs0 hb0 rfl (by decide) rfl (own_below HO.out (B3.out _)) (m := 1) (news := edcs [x]) rfl rfl (by simp) (Nat.le_refl _) sl_6 (edcs_one _) MB.out.1 MB.out.2 (Nat.le_trans HB.out.size (B3.out _).size) ?_; intro v7 w7 h1 h2 h3; (have N7 := Lib.hid (show w7.ownsRow w2.heap.size 146 6 v7 (m + 1) (edcs (O ++ [x])) ∧ Below w2.heap.size w2 w7 from ⟨own_ed1 h1, (HB.out.trans ((B3.out _).mono HB.out.size)).grown h2 (Nat.le_trans HB.out.size (B3.out _).size) fun b hb => (HO.out.lt b hb).1⟩)); clear h1 h2 h3)
          go_roundw
          case rel => exact ⟨p, m + 1, O ++ [x], by go_num, by have := Hpn.out; omega, by have := Hi.out; have := Hp.out; omega, by rw [List.length_append, HOl.out]; rfl, N7.out.1, N7.out.2, by
            have h := Nx.out
            rw [← Hyk.out, if_neg Hk.out, ← Hp.out] at h
            rw [← HR.out]; exact h⟩
          case measure => have := Hi.out; have := Hp.out; simp [intOf]; omega
    · obtain rfl : i = n := by omega
      have y0 : decide ((i : Int) < (i : Int)) = false := by rw [decide_eq_false_iff_not]; omega
      have hOR : O = R := by
        have := HLa.out
        rw [List.drop_eq_nil_of_le (by rw [HSl.out]; exact Nat.le_refl _)] at this
        simpa [Tr.lastOnes] using this
      have HF := Lib.hid hOR
      clear hOR hi hin hmi hb
      go_wp2_with fail
      have hm : m = R.length := by rw [← HF.out, HOl.out]
      refine bodyPost_ret (v := .slice OA m oc) ?_ rfl ⟨OA, oc, by rw [hm], (HC.out).trans (Chg.of_below _ (HB.out)), by rw [← hm, ← HF.out]; exact World.ownsRow_base HO.out HC.out.size⟩
      simp [results, Try.results88]
end Go.Proofs.Ytlcchefiicalpaa
