/- The program's inOrder: the edits sorted, the last one of each key kept. -/
import Derived.Test.YtlcchefiicalpaaTow
import Derived.Test.YtlcchefiicalpaaTchJ
import Derived.BigQuiet
namespace Go.Proofs.Ytlcchefiicalpaa
open Go.RowKit

theorem cells6e {w : World} {xb : Nat} {t : TypeId} {a b c d e f : Value} (h : Blk w xb t #[a, b, c, d, e, f]) : w.cell? ⟨xb, 0, none⟩ = some a ∧ w.cell? ⟨xb, 1, none⟩ = some b ∧ w.cell? ⟨xb, 2, none⟩ = some c ∧ w.cell? ⟨xb, 3, none⟩ = some d ∧ w.cell? ⟨xb, 4, none⟩ = some e ∧ w.cell? ⟨xb, 5, none⟩ = some f := ⟨h.cell 0, h.cell 1, h.cell 2, h.cell 3, h.cell 4, h.cell 5⟩
set_option maxRecDepth 8000 in
set_option maxHeartbeats 16000000 in
theorem inorder_any : InC := by
  intro w B A c n l own hl hn0 few
  obtain ⟨i0, hi0, hz0, hs0, hb0⟩ := edit_parts
  obtain ⟨d0, hd0, hd1⟩ := edit_row
  obtain ⟨S, hS⟩ : ∃ S, Tr.sortE l = S := ⟨_, rfl⟩
  have hSl : S.length = n := by rw [← hS, Tr.sortE_len, hl]
  have hsort := Srt6.sort_own own hl hn0 few
  rw [hS] at hsort
  obtain ⟨R, hR⟩ : ∃ R, Tr.lastOnes S = R := ⟨_, rfl⟩
  have hIn : Tr.inOrder l = R := by rw [← hR, ← hS]; rfl
  rw [hIn]
  have HSo := Lib.hid hsort
  have HR := Lib.hid hR
  have HSl := Lib.hid hSl
  clear own hl hS hSl hsort hR hIn
  go_enter Try.func88, Try.ntmps88
  go_wp2_with (go_at_call 100; (with_reducible refine HSo.out.mono ?_); rintro r w2 ⟨rfl, h1, h2⟩; (have HL := Lib.hid h1); (have HC := Lib.hid h2); clear h1 h2)
  go_loopw [3, 10] (fun v3 v10 wr => ∃ (i m : Nat) (O : List Tr.Ed), v10 = .int .i64 (i : Int) ∧ i ≤ n ∧ m ≤ i ∧ O.length = m ∧ wr.ownsRow w2.heap.size 146 6 v3 m (edcs O) ∧ Below w2.heap.size w2 wr ∧ O ++ Tr.lastOnes (S.drop i) = R) (fun _ v10 _ => n - (intOf v10).toNat)
  case atStart => exact ⟨0, 0, [], rfl, Nat.zero_le _, Nat.le_refl _, rfl, World.ownsRow_nil _ _ _ _, Below.refl _ _, by rw [List.drop_zero]; exact HR.out⟩
  case round =>
    obtain ⟨i, m, O, rfl, hi, hmi, hO, ho, hb, hla⟩ := hrel
    obtain ⟨OA, oc, rfl⟩ := own_slice ho
    have HO := Lib.hid ho
    have HB := Lib.hid hb
    have HOl := Lib.hid hO
    have HLa := Lib.hid hla
    clear ho hO hla
    by_cases hin : i < n
    · have y0 : decide ((i : Int) < (n : Int)) = true := by rw [decide_eq_true_eq]; omega
      have y1 : (i : Int) < (n : Int) := by omega
      have MB := Lib.hid (show m + 1 ≤ maxLen ∧ (m + 1) * 48 ≤ 140737488355328 from ⟨by unfold maxLen; omega, by omega⟩)
      obtain ⟨p, hp⟩ : ∃ p, p = i + 1 := ⟨_, rfl⟩
      have zp : (i : Int) + 1 = (p : Int) := by omega
      have Wi : wrap64 ((i : Int) + 1) = (p : Int) := by simp only [wrap64]; omega
      have hiS : i < S.length := by rw [HSl.out]; exact hin
      obtain ⟨x, hx⟩ : ∃ x, S[i]? = some x := ⟨_, List.getElem?_eq_getElem hiS⟩
      obtain ⟨g, o, rfl, hg, rg⟩ := (HL.out.below hb).edit hx
      have HX := Lib.hid hx
      have Hp := Lib.hid hp
      obtain ⟨xq, hxq⟩ : ∃ x, wr.heap.size = x := ⟨_, rfl⟩
      clear hx hb hp hiS
      go_upto_region 6 with (first
        | ((with_reducible show wpList _ _ _ (⟨some 14, Op.load 146 _, _, _, _, _⟩ :: _) _ _); refine wpList_load_mid rfl 146 _ rfl g (o + i * 6) rfl [.int .i64 x.x.k, .int .i64 x.x.p.1, .int .i64 x.x.p.2.1, .int .i64 x.x.p.2.2, .int .i64 x.x.g, .bool x.cut] d0 rg hd0 hd1 edit_size ?_))
      obtain ⟨Wx, hWx⟩ : ∃ W, wr.alloc (.cells #[.int .i64 x.x.k, .int .i64 x.x.p.1, .int .i64 x.x.p.2.1, .int .i64 x.x.p.2.2, .int .i64 x.x.g, .bool x.cut] 146) = W := ⟨_, rfl⟩
      rw [hWx]
      have bx : Blk Wx xq 146 #[.int .i64 x.x.k, .int .i64 x.x.p.1, .int .i64 x.x.p.2.1, .int .i64 x.x.p.2.2, .int .i64 x.x.g, .bool x.cut] := by rw [← hWx, ← hxq]; exact Blk.new _ _ _
      have hbx : Below wr.heap.size wr Wx := by rw [← hWx]; exact below_alloc1 _ _
      have Bx := Lib.hid bx
      have HBx := Lib.hid hbx
      obtain ⟨f0, f1, f2, f3, f4, f5⟩ := cells6e bx
      have HB3 := Lib.hid (show ∀ q, Below wr.heap.size wr (Wx.drewN q) from fun q => ⟨hbx.os, hbx.tape, hbx.output, hbx.size, hbx.block⟩)
      have HY := Lib.hid (show ∀ y, S[p]? = some y → Wx.cell? ⟨g, o + p * 6, none⟩ = some (.int .i64 y.x.k) from fun y hy => by
        obtain ⟨g', o', e, _, r⟩ := (HL.out.below (HB.out.trans (hbx.mono HB.out.size))).edit hy
        injection e with e; injection e with e1 e2 _
        subst e1; subst e2
        exact r 0 _ rfl)
      have Hi := Lib.hid (show i < n ∧ m ≤ i from ⟨hin, hmi⟩)
      clear hWx hxq bx hbx rg hg hi hmi hin
      by_cases hpn : p = n
      · have e1 : ((p : Int) == (n : Int)) = true := by rw [hpn]; simp
        have Nx := Lib.hid (Srt6.last_end (HLa.out.trans HR.out.symm) HX.out (by rw [HSl.out, ← hpn, Hp.out]))
        have Hpn := Lib.hid hpn
        clear hpn
        go_quiet (fail)
        obtain ⟨W3, hW3⟩ : ∃ W, Wx.drewN nq = W := ⟨_, rfl⟩
        rw [hW3]
        have BD := Lib.hid (show Below wr.heap.size wr W3 by rw [← hW3]; exact HB3.out nq)
        have B3 := Lib.hid (show ∀ o, Below wr.heap.size wr (W3.alloc o) from fun o => BD.out.trans ((below_alloc1 W3 o).mono BD.out.size))
        clear f0 f1 f2 f3 f4 f5
        obtain ⟨f0, f1, f2, f3, f4, f5⟩ := cells6e (show Blk W3 xq 146 #[.int .i64 x.x.k, .int .i64 x.x.p.1, .int .i64 x.x.p.2.1, .int .i64 x.x.p.2.2, .int .i64 x.x.g, .bool x.cut] by rw [← hW3]; exact Bx.out)
        clear hW3
        go_wp2_with (at_builtin; refine wpList_append_sls (base := w2.heap.size) _ rfl (.tmp 33) (.tmp 35) _ rfl Try.underlying143 hi0 hz0 hs0 hb0 rfl (by decide) rfl (own_below HO.out (B3.out _)) (m := 1) (news := edcs [x]) rfl rfl (by simp) (Nat.le_refl _) sl_6 (edcs_one _) MB.out.1 MB.out.2 (Nat.le_trans HB.out.size (B3.out _).size) ?_; intro v7 w7 h1 h2 h3; (have N7 := Lib.hid (show w7.ownsRow w2.heap.size 146 6 v7 (m + 1) (edcs (O ++ [x])) ∧ Below w2.heap.size w2 w7 from ⟨own_ed1 h1, (HB.out.trans ((B3.out _).mono HB.out.size)).grown h2 (Nat.le_trans HB.out.size (B3.out _).size) fun b hb => (HO.out.lt b hb).1⟩)); clear h1 h2 h3)
        go_roundw
        case rel => exact ⟨p, m + 1, O ++ [x], by go_num, by have := Hpn.out; omega, by have := Hi.out; have := Hp.out; omega, by rw [List.length_append, HOl.out]; rfl, N7.out.1, N7.out.2, by rw [← HR.out, Hp.out]; exact Nx.out⟩
        case measure => have := Hi.out; have := Hp.out; simp [intOf]; omega
      · have hplt : p < n := by have := Hi.out; have := Hp.out; omega
        have e1 : ((p : Int) == (n : Int)) = false := by rw [beq_eq_false_iff_ne]; omega
        have pz : (0 : Int) ≤ (p : Int) ∧ (p : Int) < (n : Int) := by omega
        obtain ⟨y, hy⟩ : ∃ y, S[p]? = some y := ⟨_, List.getElem?_eq_getElem (by rw [HSl.out]; exact hplt)⟩
        have cy := HY.out y hy
        have Nx := Lib.hid (Srt6.last_next (HLa.out.trans HR.out.symm) HX.out (by rw [Hp.out] at hy; exact hy))
        have Hpn := Lib.hid hplt
        obtain ⟨yk, hyk⟩ : ∃ k, k = y.x.k := ⟨_, rfl⟩
        rw [← hyk] at cy
        have Hyk := Lib.hid hyk
        clear hpn hy hyk HY
        by_cases hk : yk = x.x.k
        · have k1 : (yk != x.x.k) = false := by simp [hk]
          have k2 : (yk == x.x.k) = true := by simp [hk]
          have Hk := Lib.hid hk
          clear hk
          go_quiet (fail)
          obtain ⟨W3, hW3⟩ : ∃ W, Wx.drewN nq = W := ⟨_, rfl⟩
          rw [hW3]
          have BD := Lib.hid (show Below wr.heap.size wr W3 by rw [← hW3]; exact HB3.out nq)
          have B3 := Lib.hid (show ∀ o, Below wr.heap.size wr (W3.alloc o) from fun o => BD.out.trans ((below_alloc1 W3 o).mono BD.out.size))
          clear f0 f1 f2 f3 f4 f5
          obtain ⟨f0, f1, f2, f3, f4, f5⟩ := cells6e (show Blk W3 xq 146 #[.int .i64 x.x.k, .int .i64 x.x.p.1, .int .i64 x.x.p.2.1, .int .i64 x.x.p.2.2, .int .i64 x.x.g, .bool x.cut] by rw [← hW3]; exact Bx.out)
          clear hW3
          go_wp2_with fail
          go_roundw
          case rel => exact ⟨p, m, O, by go_num, by have := Hpn.out; omega, by have := Hi.out; have := Hp.out; omega, HOl.out, own_below HO.out BD.out, HB.out.trans (BD.out.mono HB.out.size), by
            have h := Nx.out
            rw [← Hyk.out, if_pos Hk.out, ← Hp.out] at h
            rw [← HR.out]; exact h⟩
          case measure => have := Hi.out; have := Hp.out; simp [intOf]; omega
        · have k1 : (yk != x.x.k) = true := by simp [hk]
          have k2 : (yk == x.x.k) = false := by simp [hk]
          have Hk := Lib.hid hk
          clear hk
          go_quiet (fail)
          obtain ⟨W3, hW3⟩ : ∃ W, Wx.drewN nq = W := ⟨_, rfl⟩
          rw [hW3]
          have BD := Lib.hid (show Below wr.heap.size wr W3 by rw [← hW3]; exact HB3.out nq)
          have B3 := Lib.hid (show ∀ o, Below wr.heap.size wr (W3.alloc o) from fun o => BD.out.trans ((below_alloc1 W3 o).mono BD.out.size))
          clear f0 f1 f2 f3 f4 f5
          obtain ⟨f0, f1, f2, f3, f4, f5⟩ := cells6e (show Blk W3 xq 146 #[.int .i64 x.x.k, .int .i64 x.x.p.1, .int .i64 x.x.p.2.1, .int .i64 x.x.p.2.2, .int .i64 x.x.g, .bool x.cut] by rw [← hW3]; exact Bx.out)
          clear hW3
          go_wp2_with (at_builtin; refine wpList_append_sls (base := w2.heap.size) _ rfl (.tmp 33) (.tmp 35) _ rfl Try.underlying143 hi0 hz0 hs0 hb0 rfl (by decide) rfl (own_below HO.out (B3.out _)) (m := 1) (news := edcs [x]) rfl rfl (by simp) (Nat.le_refl _) sl_6 (edcs_one _) MB.out.1 MB.out.2 (Nat.le_trans HB.out.size (B3.out _).size) ?_; intro v7 w7 h1 h2 h3; (have N7 := Lib.hid (show w7.ownsRow w2.heap.size 146 6 v7 (m + 1) (edcs (O ++ [x])) ∧ Below w2.heap.size w2 w7 from ⟨own_ed1 h1, (HB.out.trans ((B3.out _).mono HB.out.size)).grown h2 (Nat.le_trans HB.out.size (B3.out _).size) fun b hb => (HO.out.lt b hb).1⟩)); clear h1 h2 h3)
          go_roundw
          case rel => exact ⟨p, m + 1, O ++ [x], by go_num, by have := Hpn.out; omega, by have := Hi.out; have := Hp.out; omega, by rw [List.length_append, HOl.out]; rfl, N7.out.1, N7.out.2, by
            have h := Nx.out
            rw [← Hyk.out, if_neg Hk.out, ← Hp.out] at h
            rw [← HR.out]; exact h⟩
          case measure => have := Hi.out; have := Hp.out; simp [intOf]; omega
    · obtain rfl : i = n := by omega
      have y0 : decide ((i : Int) < (i : Int)) = false := by rw [decide_eq_false_iff_not]; omega
      have hOR : O = R := by
        have := HLa.out
        rw [List.drop_eq_nil_of_le (by rw [HSl.out]; exact Nat.le_refl _)] at this
        simpa [Tr.lastOnes] using this
      have HF := Lib.hid hOR
      clear hOR hi hin hmi hb
      go_wp2_with fail
      have hm : m = R.length := by rw [← HF.out, HOl.out]
      refine bodyPost_ret (v := .slice OA m oc) ?_ rfl ⟨OA, oc, by rw [hm], (HC.out).trans (Chg.of_below _ (HB.out)), by rw [← hm, ← HF.out]; exact World.ownsRow_base HO.out HC.out.size⟩
      simp [results, Try.results88]
end Go.Proofs.Ytlcchefiicalpaa
