/- TreeFails. -/
import Derived.Test.YtlcchefiicalpaaZfdh
import Derived.Test.YtlcchefiicalpaaZfdi
import Derived.Test.YtlcchefiicalpaaZfea
namespace Go.Proofs.Ytlcchefiicalpaa
open Go.RowKit
def ldR10 : Op := Op.load 66 (.tmp 10)
def ldM12 : Op := Op.load 71 (.tmp 12)
theorem one_dv {V : World} {x : Tr.Dv} : DvsAt (V.alloc (.cells x.cells 77)) (V.alloc (.cells x.cells 77)).heap.size (some ⟨V.heap.size, 0, none⟩) [x] := .inr ⟨V.heap.size, 0, rfl, by simp, fun i hi j v hv => by
  have hi : i < 1 := hi
  obtain rfl : i = 0 := by omega
  have hj : j < 3 := by
    rcases Nat.lt_or_ge j 3 with h | h
    · exact h
    · rw [Array.getElem?_eq_none h] at hv; cases hv
  rw [← hv, Nat.zero_mul, Nat.add_zero, Nat.zero_add]
  exact (Blk.new V _ _).cell j⟩
set_option maxRecDepth 8000 in
set_option maxHeartbeats 16000000 in
theorem fails_any {A : Option Addr} {c : Nat} {l : List Tr.Dv} (x : Tr.Dv) (ld sv : Nat) (w : World) (hD : DvsAt w w.heap.size A l) (hok : ∀ y ∈ l, y.ok w w.heap.size ∧ y.few) (hml : l.length ≤ maxLen) (hx : x.ok w w.heap.size ∧ x.few) : Calls Try.prog 42 #[.slice A l.length c, .agg x.cells, .int .i64 ld, .int .i64 sv] w fun e w' => e = .returned (.bool true) ∧ Below w.heap.size w w' := by
  have HL := Lib.hid (fun (u : World) (hu : Below w.heap.size w u) => (⟨by
    rcases hD with h | ⟨b, o, e, hb, hc⟩
    · exact .inl h
    · exact .inr ⟨b, o, e, Nat.lt_of_lt_of_le hb hu.size, fun i hi j v hv => (hu.cell (p := ⟨b, o + i * 3 + j, none⟩) hb).trans (hc i hi j v hv)⟩, fun y hy => ⟨(((hok y hy).1.p.below hu).more hu.size), (((hok y hy).1.k.below hu).more hu.size)⟩⟩ : DvsAt u u.heap.size A l ∧ ∀ y ∈ l, y.ok u u.heap.size))
  have HX := Lib.hid (fun (u : World) (hu : Below w.heap.size w u) => (⟨((hx.1.p.below hu).more hu.size), ((hx.1.k.below hu).more hu.size)⟩ : x.ok u u.heap.size))
  have HF := Lib.hid (fun y hy => (hok y hy).2)
  have HFx := Lib.hid hx.2
  have Hml := Lib.hid hml
  obtain ⟨B, hB⟩ : ∃ B, w.heap.size = B := ⟨_, rfl⟩
  obtain ⟨q, hq⟩ : ∃ q, l.length = q := ⟨_, rfl⟩
  have Hq := Lib.hid hq
  obtain ⟨cut, hcut⟩ : ∃ b, x.d.cut = b := ⟨_, rfl⟩
  obtain ⟨nl, hnl⟩ : ∃ b, x.d.put.length = b := ⟨_, rfl⟩
  obtain ⟨nk, hnk⟩ : ∃ b, x.d.keys.length = b := ⟨_, rfl⟩
  obtain ⟨P0, hP0⟩ : ∃ b, x.P = b := ⟨_, rfl⟩
  obtain ⟨cp, hcp⟩ : ∃ b, x.cp = b := ⟨_, rfl⟩
  obtain ⟨K0, hK0⟩ : ∃ b, x.K = b := ⟨_, rfl⟩
  obtain ⟨ck, hck⟩ : ∃ b, x.ck = b := ⟨_, rfl⟩
  have hcells : x.cells = #[.bool cut, .slice P0 nl cp, .slice K0 nk ck] := by unfold Tr.Dv.cells; rw [hcut, hnl, hnk, hP0, hcp, hK0, hck]
  have Hcells := Lib.hid hcells
  have HXe := Lib.hid (fun (u : World) (hu : Below w.heap.size w u) => (by have h1 := (HX.out u hu).p; have h2 := (HX.out u hu).k; rw [hP0, hcp] at h1; rw [hK0, hck] at h2; exact ⟨h1, h2⟩ : SlC u u.heap.size P0 cp x.d.put.length (evs x.d.put) ∧ SlC u u.heap.size K0 ck x.d.keys.length (ivs x.d.keys)))
  have Hcut := Lib.hid hcut
  have Hnl := Lib.hid hnl
  have Hnk := Lib.hid hnk
  have HAw := Lib.hid (fun (u : World) => tawake_any u)
  rw [hB, hq, hcells]
  rw [hB] at HL HX HXe
  clear hD hok hml hx hq hcut hnl hnk hP0 hcp hK0 hck hcells
  go_enter Try.func42, Try.ntmps42
  go_upto_region 1 with fail
  obtain ⟨db, hdb⟩ : ∃ b, w.heap.size = b := ⟨_, rfl⟩
  obtain ⟨Wd, hWd⟩ : ∃ W, w.alloc (.cells #[.bool cut, .slice P0 nl cp, .slice K0 nk ck] 77) = W := ⟨_, rfl⟩
  rw [hWd]
  try rw [hB]
  have ND := Lib.hid (show Below B w Wd ∧ Blk Wd B 77 #[.bool cut, .slice P0 nl cp, .slice K0 nk ck] from by rw [← hWd, ← hB]; exact ⟨below_alloc1 w _, Blk.new w _ _⟩)
  have NBs := Lib.hid (show B ≤ Wd.heap.size from by have := ND.out.2.lt; omega)
  have HF1 := Lib.hid (dfew_any (w := Wd) (c := c) (HL.out Wd ND.out.1).1 HF.out Hml.out)
  rw [Hq.out] at HF1
  clear hWd hdb db
  have aw : ∀ (V : World), Below B w V → Calls Try.prog 30 #[] V (fun e w' => e = .returned (.bool true) ∧ Below B w w') := fun V hV => (HAw.out V).mono fun e w' h => ⟨h.1, hV.trans (h.2.mono hV.size |> fun h => by rw [hB] at h; exact h)⟩
  have AW := Lib.hid aw
  clear aw
  by_cases hP : Tr.FewP l
  · rw [decide_eq_true hP] at HF1
    have HF2 := Lib.hid (fun (V : World) => show Calls Try.prog 31 #[.slice (some ⟨V.heap.size, 0, none⟩) 1 1] (V.alloc (.cells #[.bool cut, .slice P0 nl cp, .slice K0 nk ck] 77)) (fun e w' => e = .returned (.bool (decide (Tr.FewP [x]))) ∧ Below (V.alloc (.cells #[.bool cut, .slice P0 nl cp, .slice K0 nk ck] 77)).heap.size (V.alloc (.cells #[.bool cut, .slice P0 nl cp, .slice K0 nk ck] 77)) w') from by
      have := dfew_any (w := V.alloc (.cells x.cells 77)) (c := 1) (l := [x]) one_dv (fun y hy => by rw [List.mem_singleton] at hy; subst hy; exact HFx.out) (show 1 ≤ maxLen by unfold maxLen; omega)
      rw [Hcells.out] at this
      exact this)
    have Few1 := Lib.hid hP
    clear hP
    by_cases hX : Tr.FewP [x]
    · rw [decide_eq_true hX] at HF2
      have Few2 := Lib.hid (show x.d.n ≤ 300 from by have := hX.2; unfold Tr.sumD at this; simpa using this)
      clear hX
      go_upto_region 3 with (go_at_call 31; (first
        | ((with_reducible refine HF1.out.mono ?_); rintro e w2 ⟨rfl, b2⟩; (have B2 := Lib.hid b2); have D2 := ND.out.2.keep (b2.block _ ND.out.2.lt); have z0 := D2.cell 0; have z1 := D2.cell 1; have z2 := D2.cell 2; clear b2 D2)
        | ((with_reducible refine (HF2.out w2).mono ?_); rintro e w3 ⟨rfl, b3⟩; (have B3 := Lib.hid (B2.out.trans (((below_alloc1 w2 _).trans (b3.mono (below_alloc1 w2 _).size)).mono B2.out.size))); clear b3)))
      have D3 := Lib.hid (show Below B w w3 ∧ Blk w3 B 77 #[.bool cut, .slice P0 nl cp, .slice K0 nk ck] from ⟨ND.out.1.trans (B3.out.mono NBs.out), ND.out.2.keep (B3.out.block _ ND.out.2.lt)⟩)
      clear HF1 HF2 z0 z1 z2 B2 B3 ND
      go_upto_region 4 with fail
      obtain ⟨p, hp⟩ : ∃ p, w3.heap.size = p := ⟨_, rfl⟩
      obtain ⟨W1, hW1⟩ : ∃ W, w3.alloc (.cells #[.slice none 0 0, .int .i64 0, .int .i64 0, .int .i64 0, .int .i64 0] 64) = W := ⟨_, rfl⟩
      rw [hW1]
      try rw [hp]
      have N1 := Lib.hid (show LW B w p W1 (fun b => b = p) ⟨[], 0, 0, 0, 0⟩ (fun u => Blk u B 77 #[.bool cut, .slice P0 nl cp, .slice K0 nk ck]) from by
        have hs := D3.out.1.size
        have hl := D3.out.2.lt
        subst hp
        rw [← hW1]
        exact ⟨mrep_new w3, D3.out.1.trans ((below_alloc1 w3 _).mono (by omega)), fun b hb => by have hb : b = w3.heap.size := hb; omega, by simp; omega, (Fast.blk (D3.out.2.keep ((below_alloc1 w3 _).block _ hl)) (fun e => by have e : B = w3.heap.size := e; omega))⟩)
      have H4 := Lib.hid (tempty N1.out.rep Tr.calm0 (by decide))
      unfold memV at H4
      have Bp := Lib.hid (show ¬ ((fun b => b = p) B) from fun e => by have e : B = p := e; have := D3.out.2.lt; omega)
      clear hp hW1
      go_upto_region 5 with (go_at_call 32; (with_reducible refine H4.out.mono ?_); rintro e w4 ⟨X4, s4, k4, h4, rfl, r4, t4, ⟨q4, m4, l4⟩, o4⟩; unfold Tr.rootV; dsimp only; (have N4 := Lib.hid (N1.out.stp r4 t4)); (have O4 := Lib.hid o4); (have XB := Lib.hid (t4.far N1.out.now.lt Bp.out)); (have C4 := Lib.hid ((Tr.calm0.mor m4).mono (show 0 + q4 ≤ 1 by omega))); clear r4 t4 m4 o4)
      obtain ⟨rb, hrb⟩ : ∃ b, w4.heap.size = b := ⟨_, rfl⟩
      obtain ⟨W4, hW4⟩ : ∃ W, w4.alloc (.cells #[.int .i64 k4.1, .int .i64 k4.2.1, .int .i64 k4.2.2, .int .i64 h4] 66) = W := ⟨_, rfl⟩
      rw [hW4, hrb]
      have N5 := Lib.hid (by have := N4.out.new 66 #[.int .i64 k4.1, .int .i64 k4.2.1, .int .i64 k4.2.2, .int .i64 h4]; rw [hW4, hrb] at this; exact this)
      have G5 := Lib.hid (show ¬ X4 rb ∧ B < rb from ⟨by rw [← hrb]; exact N4.out.fresh, by rw [← hrb]; exact N4.out.now.lt⟩)
      go_upto_region 6 with fail
      obtain ⟨mb, hmb⟩ : ∃ b, W4.heap.size = b := ⟨_, rfl⟩
      obtain ⟨W5, hW5⟩ : ∃ W, W4.alloc (.cells #[.slice none 0 0] 71) = W := ⟨_, rfl⟩
      try rw [hW5]
      try rw [hmb]
      have F6 := Lib.hid (show Fm B w p W5 X4 s4 rb mb #[.int .i64 k4.1, .int .i64 k4.2.1, .int .i64 k4.2.2, .int .i64 h4] none ([] : List Tr.E).length 0 (evs []) (fun u => Blk u B 77 #[.bool cut, .slice P0 nl cp, .slice K0 nk ck]) from by
        have n6 := N5.out.new 71 #[.slice none 0 0]
        rw [hW5, hmb] at n6
        have hrl := N5.out.now.2.lt
        rw [hmb] at hrl
        have hfm : ¬ X4 mb := by rw [← hmb]; exact N5.out.fresh
        have hg := G5.out
        exact ⟨n6.rep, n6.bel, n6.ge, n6.sz, n6.now.1.2, n6.now.2, fun u _ => SlC.none_ u _, Fast.blk n6.now.1.1 fun hx => hx.elim XB.out (fun e => e.elim (fun e => by omega) fun e => by omega), hg.1, hfm, by omega, by omega, by omega⟩)
      clear hmb hW5 hrb hW4 H4 N1 N4 N5
      have HAw5 := HAw.out W5
      go_upto_region 8 with (go_at_call 30; (with_reducible refine HAw5.mono ?_); rintro e w6 ⟨rfl, b6⟩; (have F7 := Lib.hid (F6.out.below b6)); clear b6)
      clear HAw5 F6
      go_wp2_with fail
      go_loopw [13, 14] (fun v13 _ wx => ∃ i : Nat, v13 = .int .i64 (i : Int) ∧ i ≤ q ∧ ∃ X st k h m D d, Fm B w p wx X st rb mb #[.int .i64 k.1, .int .i64 k.2.1, .int .i64 k.2.2, .int .i64 h] D m.length d (evs m) (fun u => Blk u B 77 #[.bool cut, .slice P0 nl cp, .slice K0 nk ck]) ∧ Tr.RootOk st.L k h m ∧ Tr.Calm st (1 + 15 * Tr.sumD (l.take (i)) + 6 * (i)) ∧ m.length ≤ Tr.sumD (l.take (i))) (fun v13 _ _ => q - (intOf v13).toNat)
      case atStart => exact ⟨0, rfl, Nat.zero_le _, X4, s4, k4, h4, [], none, 0, F7.out, O4.out, C4.out, Nat.zero_le _⟩
      case round =>
        obtain ⟨i, rfl, hi, X, st, k, h, m, D, d, hf, ho, hc, hm⟩ := hrel
        have F := Lib.hid hf
        have O := Lib.hid ho
        have C := Lib.hid hc
        have Hm := Lib.hid hm
        clear hf ho hc hm F7
        by_cases hiq : i < q
        · have z0 : decide ((i : Int) < (q : Int)) = true := by rw [decide_eq_true_eq]; omega
          have z0' : decide (i < q) = true := decide_eq_true hiq
          have hqi : (i : Int) < (q : Int) := by omega
          have hil : i < l.length := by rw [Hq.out]; exact hiq
          obtain ⟨y, hy⟩ : ∃ y, l[i] = y := ⟨_, rfl⟩
          obtain ⟨bD, oD, hAe, -⟩ := (HL.out _ F.out.bel).1.at_ hil
          subst hAe
          have KS := Lib.hid (fun (V : World) (hV : Below B w V) => show (fun u : World => u.cell? ⟨bD, oD + i * 3, none⟩ = some (.bool y.d.cut) ∧ u.cell? ⟨bD, oD + i * 3 + 1, none⟩ = some (.slice y.P y.d.put.length y.cp) ∧ u.cell? ⟨bD, oD + i * 3 + 2, none⟩ = some (.slice y.K y.d.keys.length y.ck)) V from by
            obtain ⟨b', o', e, -, c0, c1, c2⟩ := (HL.out V hV).1.at_ hil
            injection e with e
            injection e with e1 e2
            subst e1
            subst e2
            rw [hy] at c0 c1 c2
            exact ⟨c0, c1, c2⟩)
          have Hsn := Lib.hid (show Tr.sumD (l.take (i + 1)) = Tr.sumD (l.take i) + y.d.n ∧ Tr.sumD (l.take (i + 1)) ≤ 300 ∧ q ≤ 30 from by
            refine ⟨by rw [Tr.sum_next hil, hy], Nat.le_trans (Tr.sum_take l (i + 1)) Few1.out.2, ?_⟩
            have := Few1.out.1
            rw [Hq.out] at this
            exact this)
          have HDo := Lib.hid (fun (V : World) (hV : Below wr.heap.size wr V) => show Calls Try.prog 33 #[.pointer (some ⟨p, 0, none⟩), Tr.rootV k h, .agg #[.slice D m.length d], .agg #[.bool y.d.cut, .slice y.P y.d.put.length y.cp, .slice y.K y.d.keys.length y.ck]] V (DoO p V X (fun b => b = rb ∨ b = mb) st (15 * y.d.n + 6) (y.d.on m)) from by
            have hs := Hsn.out
            have hm := Hm.out
            have f := F.out.below hV
            exact do_any y f.rep C.out O.out (fun b hb => hb.elim (fun e => e ▸ f.br.lt) fun e => e ▸ f.bm.lt) f.sl (fun u hu => by rw [← hy]; exact (HL.out u (f.bel_of hu)).2 _ (List.getElem_mem hil)) (by omega) (by omega) (by omega))
          unfold Tr.rootV at HDo
          have x0 := F.out.br.cell 0
          have x1 := F.out.br.cell 1
          have x2 := F.out.br.cell 2
          have x3 := F.out.br.cell 3
          have y0 := F.out.bm.cell 0
          clear hy hil
          go_upto_region 12 with fail
          go_cut [14] from 54 to 65 (fun v14 wx => v14 = .bool true ∧ ∃ X st k h m D d, Fm B w p wx X st rb mb #[.int .i64 k.1, .int .i64 k.2.1, .int .i64 k.2.2, .int .i64 h] D m.length d (evs m) (fun u => Blk u B 77 #[.bool cut, .slice P0 nl cp, .slice K0 nk ck]) ∧ Tr.RootOk st.L k h m ∧ Tr.Calm st (1 + 15 * Tr.sumD (l.take (i + 1)) + 6 * (i + 1)) ∧ m.length ≤ Tr.sumD (l.take (i + 1)))
          case first =>
            have hbc : Below wr.heap.size wr wr.drew := (Below.refl _ _).drew
            have hl1 : ldR10 = Op.load 66 (.tmp 10) := rfl
            have hl2 : ldM12 = Op.load 71 (.tmp 12) := rfl
            rw [← hl1, ← hl2]
            go_region_held3 (fun u => u.cell? ⟨bD, oD + i * 3, none⟩ = some (.bool y.d.cut) ∧ u.cell? ⟨bD, oD + i * 3 + 1, none⟩ = some (.slice y.P y.d.put.length y.cp) ∧ u.cell? ⟨bD, oD + i * 3 + 2, none⟩ = some (.slice y.K y.d.keys.length y.ck)) (first | exact KS.out _ (F.out.below hbc).bel | exact KS.out _ KB.out | exact KS.out _ KB1.out | exact KS.out _ KB2.out | exact KS.out _ KB3.out | exact KS.out _ KB4.out) (first
              | (go_at_call 33; ((with_reducible refine (HDo.out _ hbc).mono ?_); rintro e w6 ⟨X6, s6, k6, h6, D6, d6, rfl, r6, t6, ⟨j6, m6, l6⟩, o6, f6⟩; unfold Tr.rootV; dsimp only; have F6 := Lib.hid ((F.out.below hbc).stp r6 t6); have O6 := Lib.hid o6; have C6 := Lib.hid (C.out.mor m6); have S6 := Lib.hid f6; have R6 := Lib.hid r6; have T6 := Lib.hid t6; have L6 := Lib.hid l6; have KB := Lib.hid F6.out.bel; obtain ⟨s1, s2, s3, v4, v5, t0, t1, t2, t3, u4, ⟨p1, p2, p3, p4, p5⟩, ⟨q0', q1, q2, q3, q4'⟩, ⟨f1, f2, f3, f4, f5⟩, ⟨g0, g1, g2, g3, g4⟩, ⟨i1, i2, i3, i4, i5⟩, ⟨j0, j1, j2, j3, j4⟩, ⟨cA, cB, cC, cD⟩, ⟨e1, e2⟩, ⟨e3, e4⟩⟩ := do_end F6.out.br F6.out.bm F.out.ne (.int .i64 k6.1) (.int .i64 k6.2.1) (.int .i64 k6.2.2) (.int .i64 h6) (.slice D6 (y.d.on m).length d6); have KB1 := Lib.hid (F6.out.bel_chg cA); have KB2 := Lib.hid (F6.out.bel_chg cB); have KB3 := Lib.hid (F6.out.bel_chg cC); have KB4 := Lib.hid (F6.out.bel_chg cD); have P1 := Lib.hid ((F.out.below hbc).put r6 t6 f6 cB e1 e2); have P2 := Lib.hid ((F.out.below hbc).put r6 t6 f6 cD e3 e4); clear r6 t6 m6 o6 f6 l6 cA cB cC cD e1 e2 e3 e4)))
            all_goals go_wp2_with fail
            all_goals go_meet
            all_goals have hs := Hsn.out
            all_goals have hl := L6.out
            all_goals have hm := Hm.out
            all_goals have ho := Tr.on_len y.d m
            all_goals first
              | exact ⟨rfl, X6, s6, k6, h6, _, D6, d6, P1.out, O6.out, C6.out.mono (by omega), by omega⟩
              | exact ⟨rfl, X6, s6, k6, h6, _, D6, d6, P2.out, O6.out, C6.out.mono (by omega), by omega⟩
          case rest =>
            obtain ⟨rfl, X, st, k, h, m, D, d, hf, ho, hc, hm⟩ := hcut
            have F := Lib.hid hf
            have O := Lib.hid ho
            have C := Lib.hid hc
            have Hm := Lib.hid hm
            clear hf ho hc hm x0 x1 x2 x3 y0
            have hq30 : q ≤ 30 := Hsn.out.2.2
            go_wp2_with fail
            go_roundw
            case rel => exact ⟨i + 1, by go_num, by omega, X, st, k, h, m, D, d, F.out, O.out, C.out, Hm.out⟩
            case measure => simp [intOf]; omega
        · have hiq : i = q := by omega
          subst hiq
          have z0 : decide ((i : Int) < (i : Int)) = false := by rw [decide_eq_false_iff_not]; omega
          have z0' : decide (i < i) = false := by rw [decide_eq_false_iff_not]; omega
          have Hm3 := Lib.hid (show m.length ≤ 300 from Nat.le_trans Hm.out (Nat.le_trans (Tr.sum_take l i) Few1.out.2))
          obtain ⟨nm, hnm⟩ : ∃ n, m.length = n := ⟨_, rfl⟩
          have Hnm := Lib.hid hnm
          rw [hnm] at F Hm3
          clear hnm Hm C HF
          obtain ⟨V0, eV0⟩ : ∃ W, (wr).setCell ⟨p, 1, none⟩ (.int .i64 0) = W := ⟨_, rfl⟩
          have LV0 := mrep_1 F.out.rep 0
          rw [eV0] at LV0
          have FV0 := Lib.hid (F.out.stp LV0.1 LV0.2.1)
          have fzV0 := LV0.2.2.1
          have clV0 := LV0.2.2.2
          clear LV0
          obtain ⟨V1, eV1⟩ : ∃ W, (V0).setCell ⟨p, 2, none⟩ (.int .i64 0) = W := ⟨_, rfl⟩
          have LV1 := mrep_2 FV0.out.rep 0
          rw [eV1] at LV1
          have FV1 := Lib.hid (FV0.out.stp LV1.1 LV1.2.1)
          have fzV1 := LV1.2.2.1
          have clV1 := LV1.2.2.2
          clear LV1
          obtain ⟨V2, eV2⟩ : ∃ W, (V1).setCell ⟨p, 3, none⟩ (.int .i64 ld) = W := ⟨_, rfl⟩
          have LV2 := mrep_3 FV1.out.rep ld
          rw [eV2] at LV2
          have FV2 := Lib.hid (FV1.out.stp LV2.1 LV2.2.1)
          have fzV2 := LV2.2.2.1
          have clV2 := LV2.2.2.2
          clear LV2
          obtain ⟨V3, eV3⟩ : ∃ W, (V2).setCell ⟨p, 4, none⟩ (.int .i64 sv) = W := ⟨_, rfl⟩
          have LV3 := mrep_4 FV2.out.rep sv
          rw [eV3] at LV3
          have FV3 := Lib.hid (FV2.out.stp LV3.1 LV3.2.1)
          have fzV3 := LV3.2.2.1
          have clV3 := LV3.2.2.2
          clear LV3
          have hLL : ({ { { { st with ld := 0 } with sv := 0 } with bl := (ld : Int) } with bs := (sv : Int) } : Tr.MSt).L = st.L := rfl
          obtain ⟨st4, hst4⟩ : ∃ s, ({ { { { st with ld := 0 } with sv := 0 } with bl := (ld : Int) } with bs := (sv : Int) } : Tr.MSt) = s := ⟨_, rfl⟩
          rw [hst4] at FV3 hLL
          have O4' := Lib.hid (show Tr.RootOk st4.L k h m from by rw [hLL]; exact O.out)
          clear hst4 hLL O FV0 FV1 FV2
          go_upto_region 17 with fail
          clear fzV0 fzV1 fzV2 fzV3 clV0 clV1 clV2 clV3 eV0 eV1 eV2 eV3
          have N0 := Lib.hid (show DW p V3 X V3 X st4 (fun _ => True) from ⟨FV3.out.rep, .refl _ _, fun _ _ => trivial⟩)
          obtain ⟨xb, hxb⟩ : ∃ b, V3.heap.size = b := ⟨_, rfl⟩
          obtain ⟨W5, hW5⟩ : ∃ W, V3.alloc (.cells #[.int .i64 0, .int .i64 0, .int .i64 0, .int .i64 0] 66) = W := ⟨_, rfl⟩
          have N1 := Lib.hid (by have := N0.out.new 66 #[.int .i64 0, .int .i64 0, .int .i64 0, .int .i64 0]; rw [hW5, hxb] at this; exact this)
          have GX := Lib.hid (show V3.heap.size ≤ xb ∧ ¬ X xb from ⟨Nat.le_of_eq hxb, by rw [← hxb]; exact N0.out.fresh⟩)
          have FU := Lib.hid (fun (V : World) (X' : Nat → Prop) (s' : Tr.MSt) (hr : MRep p V X' s') (hs : Stp V3 X V X') => FV3.out.stp hr hs)
          have f5 := FU.out W5 X st4 N1.out.rep N1.out.stp
          have F5 := Lib.hid f5
          have y0 := f5.bm.cell 0
          have z1 := f5.now.cell 1
          clear f5
          obtain ⟨PP, hPP⟩ : ∃ P, Tr.puts m x.d.put = P := ⟨_, rfl⟩
          have H19 := Lib.hid (show Calls Try.prog 44 #[.agg #[.slice D nm d], .slice P0 nl cp] W5 (fun e w' => ∃ Dp np dp okb, e = .returned (.tuple #[.agg #[.slice Dp np dp], .bool okb]) ∧ Below W5.heap.size W5 w' ∧ (okb = true ∧ Tr.OkL x.d.put ∧ np = PP.length ∧ SlC w' w'.heap.size Dp dp np (evs PP) ∧ (∀ a, Dp = some a → W5.heap.size ≤ a.block) ∨ okb = false ∧ ¬ Tr.OkL x.d.put)) from by
            have hh := mput_any (w := W5) (m := m) (l := x.d.put) (by rw [Hnm.out]; exact F5.out.sl.now) (HXe.out W5 F5.out.bel).1 (by rw [Hnm.out]; have := Hm3.out; omega) (by have := Few2.out; unfold Tr.Dd.n at this; omega)
            rw [Hnm.out, Hnl.out] at hh
            refine hh.mono fun e w' he => ?_
            obtain ⟨(⟨hn, e1⟩ | ⟨hn, D', d', e1, e2, e3⟩), hb⟩ := he
            · exact ⟨_, _, _, false, e1, hb, .inr ⟨rfl, hn⟩⟩
            · rw [hPP] at e1
              rw [hPP] at e2
              exact ⟨D', _, d', true, e1, hb, .inl ⟨rfl, hn, rfl, e2, e3⟩⟩)
          have Hxb := Lib.hid hxb
          go_upto_region 20 with (go_at_call 44; (with_reducible refine H19.out.mono ?_); rintro e w6 ⟨Dp, np, dp, okp, rfl, b6, hk6⟩; dsimp only; (have N6 := Lib.hid (N1.out.below b6)); (have K6 := Lib.hid hk6); (have B6 := Lib.hid b6); clear b6 hk6)
          obtain ⟨yb, hyb⟩ : ∃ b, w6.heap.size = b := ⟨_, rfl⟩
          obtain ⟨W6, hW6⟩ : ∃ W, w6.alloc (.cells #[.slice Dp np dp] 71) = W := ⟨_, rfl⟩
          try rw [hW6]
          try rw [hyb]
          have N7 := Lib.hid (by have := N6.out.new 71 #[.slice Dp np dp]; rw [hW6, hyb] at this; exact this)
          have GY := Lib.hid (show V3.heap.size ≤ yb ∧ ¬ X yb ∧ xb < yb from ⟨by rw [← hyb]; exact N6.out.stp.chg.size, by rw [← hyb]; exact N6.out.fresh, by rw [← hyb]; exact N6.out.now.2.lt⟩)
          have B67 := Lib.hid (show Below w6.heap.size w6 W6 from hW6 ▸ below_alloc1 w6 _)
          clear hyb hW6 hxb hW5 y0 z1 H19
          obtain ⟨Q, hQ⟩ : ∃ Q, (if cut = true then Tr.cuts m x.d.keys else PP) = Q := ⟨_, rfl⟩
          have HQ := Lib.hid hQ
          have HPP := Lib.hid hPP
          clear hQ hPP
          have f7 := FU.out W6 X st4 N7.out.rep N7.out.stp
          have F7 := Lib.hid f7
          have z0 := f7.now.cell 0
          clear f7
          go_upto_if 90 with fail
          clear z0
          go_cut [16, 18] from 91 to 116 (fun v16 v18 wx => ∃ (X' : Nat → Prop) (st' : Tr.MSt) (kx : Nd.T3) (hx : Int) (Dy : Option Addr) (ny dy : Nat) (er : Int) (okb : Bool), v16 = .int .i64 er ∧ v18 = .bool okb ∧ DW p V3 X wx X' st' (fun u => Blk u xb 66 #[.int .i64 kx.1, .int .i64 kx.2.1, .int .i64 kx.2.2, .int .i64 hx] ∧ Blk u yb 71 #[.slice Dy ny dy] ∧ (okb = true → SlC u u.heap.size Dy dy ny (evs Q))) ∧ (∃ l, st'.L = st4.L ++ l) ∧ (okb = true ∧ ny = Q.length ∧ er = 0 ∧ Tr.RootOk st'.L kx hx Q ∨ okb = true ∧ (er = 6 ∨ er = 7) ∨ okb = false ∧ er = 1))
          case first =>
            cases cut with
            | true =>
              have z2 := F7.out.now.cell 2
              have x0 := F7.out.br.cell 0
              have x1 := F7.out.br.cell 1
              have x2 := F7.out.br.cell 2
              have x3 := F7.out.br.cell 3
              have H21 := Lib.hid (tcut_f F7.out.rep O4'.out (ks := x.d.keys) (HXe.out W6 F7.out.bel).2 rfl (by have := Few2.out; unfold Tr.Dd.n at this; omega))
              rw [Hnk.out, show Tr.cuts m x.d.keys = Q from HQ.out] at H21
              unfold memV Tr.rootV at H21
              go_upto_region 22 with (go_at_call 40; (with_reducible refine H21.out.mono ?_); rintro e w8 ⟨X8, s8, k8, h8, er8, rfl, r8, t8, hl8, hk8⟩; unfold Tr.rootV; dsimp only; have N8 := Lib.hid (N7.out.go r8 t8); have L8 := Lib.hid hl8; have K8 := Lib.hid hk8; have FX := Lib.hid (show ¬ X8 xb ∧ ¬ X8 yb from ⟨t8.far N7.out.now.1.2.lt GX.out.2, t8.far N7.out.now.2.lt GY.out.2.1⟩); (obtain ⟨v1, v2, v3, v4, p1, p2, p3, p4, ⟨f1, f2, f3, f4⟩, ⟨g1, g2, g3, g4⟩, Bk, Ck⟩ := blk_st4 N8.out.now.1.2 (.int .i64 k8.1) (.int .i64 k8.2.1) (.int .i64 k8.2.2) (.int .i64 h8)); have BK := Lib.hid Bk; have CK := Lib.hid Ck; have N9 := Lib.hid (N8.out.own Ck FX.out.1 GX.out.1 ((Fast.blk Bk FX.out.1).and_ (Fast.blk (N8.out.now.2.keep (Ck.block _ N8.out.now.2.lt (Nat.ne_of_gt GY.out.2.2))) FX.out.2))); clear r8 t8 hl8 hk8 Bk Ck)
              clear x0 x1 x2 x3 z2
              have f9 := FU.out v4 X8 s8 N9.out.rep N9.out.stp
              have F9 := Lib.hid f9
              have y0 := f9.bm.cell 0
              have z2 := f9.now.cell 2
              clear f9
              have H22 := Lib.hid (show Calls Try.prog 46 #[.agg #[.slice D nm d], .slice K0 nk ck] v4 (fun e w' => ∃ Dp np dp okb, e = .returned (.tuple #[.agg #[.slice Dp np dp], .bool okb]) ∧ Below v4.heap.size v4 w' ∧ (okb = true ∧ Tr.KeysOk x.d.keys ∧ np = Q.length ∧ SlC w' w'.heap.size Dp dp np (evs Q) ∧ (∀ a, Dp = some a → v4.heap.size ≤ a.block) ∨ okb = false ∧ ¬ Tr.KeysOk x.d.keys)) from by
                have hh := mcutF_any (w := v4) (m := m) (ks := x.d.keys) (by rw [Hnm.out]; exact F9.out.sl.now) (HXe.out v4 F9.out.bel).2 (by rw [Hnm.out]; have := Hm3.out; omega) (by have := Few2.out; unfold Tr.Dd.n at this; omega)
                rw [Hnm.out, Hnk.out, show Tr.cuts m x.d.keys = Q from HQ.out] at hh
                refine hh.mono fun e w' he => ?_
                obtain ⟨(⟨hn, e1⟩ | ⟨hn, D', d', e1, e2, e3⟩), hb⟩ := he
                · exact ⟨_, _, _, false, e1, hb, .inr ⟨rfl, hn⟩⟩
                · exact ⟨D', _, d', true, e1, hb, .inl ⟨rfl, hn, rfl, e2, e3⟩⟩)
              go_wp2_with (go_at_call 46; (with_reducible refine H22.out.mono ?_); rintro e w10 ⟨Dq, nq, dq, okq, rfl, b10, hk10⟩; dsimp only; have N10 := Lib.hid (N9.out.below b10); have K10 := Lib.hid hk10; have fy := N10.out.now.2.frozen 0; have cy := N10.out.now.2.cell 0; have B10 := Lib.hid b10; clear b10 hk10)
              go_meet
              have CY : Chg (fun b => b = yb) w10 (w10.setCell ⟨yb, 0, none⟩ (.slice Dq nq dq)) := (Chg.refl (fun b => b = yb) w10).setCell (p := ⟨yb, 0, none⟩) (.inl rfl) _
              have BX := N10.out.now.1.keep (CY.block xb N10.out.now.1.lt (Nat.ne_of_lt GY.out.2.2))
              have BY := N10.out.now.2.set_ 0 (.slice Dq nq dq)
              rcases K10.out with ⟨rfl, hk, hn, hsl, hnew⟩ | ⟨rfl, hk⟩
              · have hS : SlC (w10.setCell ⟨yb, 0, none⟩ (.slice Dq nq dq)) (w10.setCell ⟨yb, 0, none⟩ (.slice Dq nq dq)).heap.size Dq dq nq (evs Q) := SlC.chg hsl CY fun a ha => by have h1 := hnew a ha; have h2 := N9.out.now.2.lt; omega
                have hF : Fast X8 (w10.setCell ⟨yb, 0, none⟩ (.slice Dq nq dq)) fun u => SlC u u.heap.size Dq dq nq (evs Q) := fast_slc2 hS (.inr fun a ha hx => by have h1 := hnew a ha; have h2 := N9.out.rep.lt hx; omega)
                refine ⟨X8, s8, k8, h8, Dq, nq, dq, er8, true, rfl, rfl, N10.out.own CY FX.out.2 GY.out.1 ((Fast.blk BX FX.out.1).and_ ((Fast.blk BY FX.out.2).and_ (hF.mono fun _ h _ => h))), L8.out, ?_⟩
                rcases K8.out with ⟨-, e, r⟩ | ⟨-, e⟩ | ⟨h, -⟩
                · exact .inl ⟨rfl, hn, e, r⟩
                · exact .inr (.inl ⟨rfl, e⟩)
                · exact (h hk).elim
              · refine ⟨X8, s8, k8, h8, Dq, nq, dq, er8, false, rfl, rfl, N10.out.own CY FX.out.2 GY.out.1 ((Fast.blk BX FX.out.1).and_ ((Fast.blk BY FX.out.2).and_ fun _ _ h => by cases h)), L8.out, ?_⟩
                rcases K8.out with ⟨h, -⟩ | ⟨h, -⟩ | ⟨-, e⟩
                · exact (hk h).elim
                · exact (hk h).elim
                · exact .inr (.inr ⟨rfl, e⟩)
            | false =>
              have FR := Lib.hid (show Fast (fun b => X b ∨ b = xb) W6 fun u => okp = true → SlC u u.heap.size Dp dp np (evs PP) from by
                rcases K6.out with ⟨rfl, -, -, hsl, hnew⟩ | ⟨rfl, -⟩
                · have h0 := (hsl.below B67.out).more B67.out.size
                  have h1 : Fast (fun b => X b ∨ b = xb) W6 fun u => SlC u u.heap.size Dp dp np (evs PP) := fast_slc2 h0 (.inr fun a ha hx => by
                    have h2 := hnew a ha
                    have h3 := N1.out.now.2.lt
                    exact hx.elim (fun hx => by have h4 := N1.out.rep.lt hx; omega) fun e => by omega)
                  exact h1.mono fun _ h _ => h
                · exact fun _ _ h => by cases h)
              have HEn := Lib.hid (fun (V : World) (hV : Below W6.heap.size W6 V) => entries_any (w := V) (l := x.d.put) (by have f := FU.out V X st4 (N7.out.below hV).rep (N7.out.below hV).stp; exact ((HXe.out V f.bel).1)) (by have := Few2.out; unfold Tr.Dd.n at this; omega))
              have HPt := Lib.hid (fun (V : World) (D' : Option Addr) (d' : Nat) (hV : Below W6.heap.size W6 V) (hs : SlC V V.heap.size D' d' nl (evs x.d.put)) => show Calls Try.prog 39 #[memV p, Tr.rootV k h, .slice D' nl d'] V (FlO p V X st4 (Tr.OkL x.d.put) PP) from by
                have := tput_f (N7.out.below hV).rep O4'.out (L := x.d.put) (n := nl) hs Hnl.out (by rw [← Hnl.out]; have := Few2.out; unfold Tr.Dd.n at this; omega)
                rw [HPP.out] at this
                exact this)
              rw [Hnl.out] at HEn
              unfold memV Tr.rootV at HPt
              have SV : ∀ (V : World) (X' : Nat → Prop) (s' : Tr.MSt), MRep p V X' s' → Stp V3 X V X' → (fun u : World => u.cell? ⟨rb, 0, none⟩ = some (.int .i64 k.1) ∧ u.cell? ⟨rb, 1, none⟩ = some (.int .i64 k.2.1) ∧ u.cell? ⟨rb, 2, none⟩ = some (.int .i64 k.2.2) ∧ u.cell? ⟨rb, 3, none⟩ = some (.int .i64 h) ∧ u.cell? ⟨B, 1, none⟩ = some (.slice P0 nl cp)) V := fun V X' s' hr hs => by
                have f := FU.out V X' s' hr hs
                exact ⟨f.br.cell 0, f.br.cell 1, f.br.cell 2, f.br.cell 3, f.now.cell 1⟩
              have KS := Lib.hid (fun (V : World) (hV : Below W6.heap.size W6 V) => SV V X st4 (N7.out.below hV).rep (N7.out.below hV).stp)
              go_upto_region 23 with fail
              have hbc : Below W6.heap.size W6 W6.drew := (Below.refl _ _).drew
              go_region_held3 (fun u => u.cell? ⟨rb, 0, none⟩ = some (.int .i64 k.1) ∧ u.cell? ⟨rb, 1, none⟩ = some (.int .i64 k.2.1) ∧ u.cell? ⟨rb, 2, none⟩ = some (.int .i64 k.2.2) ∧ u.cell? ⟨rb, 3, none⟩ = some (.int .i64 h) ∧ u.cell? ⟨B, 1, none⟩ = some (.slice P0 nl cp)) (first | exact KS.out _ hbc | exact KP.out | exact KP4.out) (first
                | (go_at_call 45; ((with_reducible refine (HEn.out _ hbc).mono ?_); rintro e w13 ⟨⟨D13, d13, rfl, e13⟩, b13⟩; have hbc := hbc.trans (b13.mono hbc.size); have E13 := Lib.hid e13; clear e13 b13))
                | (go_at_call 39; ((with_reducible refine (HPt.out _ _ _ hbc E13.out).mono ?_); rintro e w8 ⟨X8, s8, k8, h8, er8, rfl, r8, t8, hl8, hk8⟩; unfold Tr.rootV; dsimp only; have N8 := Lib.hid ((N7.out.below hbc).go r8 t8); have L8 := Lib.hid hl8; have K8 := Lib.hid hk8; have KP := Lib.hid (SV w8 X8 s8 N8.out.rep N8.out.stp); have FX := Lib.hid (show ¬ X8 xb ∧ ¬ X8 yb from ⟨t8.far (N7.out.below hbc).now.1.2.lt GX.out.2, t8.far (N7.out.below hbc).now.2.lt GY.out.2.1⟩); (obtain ⟨v1, v2, v3, v4, p1, p2, p3, p4, ⟨f1, f2, f3, f4⟩, ⟨g1, g2, g3, g4⟩, Bk, Ck⟩ := blk_st4 N8.out.now.1.2 (.int .i64 k8.1) (.int .i64 k8.2.1) (.int .i64 k8.2.2) (.int .i64 h8)); have BK := Lib.hid Bk; have CK := Lib.hid Ck; have FR2 := Lib.hid (show Fast X8 v4 fun u => okp = true → SlC u u.heap.size Dp dp np (evs PP) from fun u ku => (((FR.out.below hbc).step (t8.left (fun b => b = xb))) u ((Ck.mono fun _ e => .inr e).then_ (ku.mono fun _ h => .inl h)))); have N9 := Lib.hid (N8.out.own Ck FX.out.1 GX.out.1 ((Fast.blk Bk FX.out.1).and_ ((Fast.blk (N8.out.now.2.keep (Ck.block _ N8.out.now.2.lt (Nat.ne_of_gt GY.out.2.2))) FX.out.2).and_ FR2.out))); have KP4 := Lib.hid (SV v4 X8 s8 N9.out.rep N9.out.stp); clear r8 t8 hl8 hk8 Bk Ck)))
              all_goals go_wp2_with fail
              all_goals go_meet
              all_goals obtain rfl : PP = Q := HQ.out
              all_goals
                refine ⟨X8, s8, k8, h8, Dp, np, dp, er8, okp, rfl, rfl, N9.out, L8.out, ?_⟩
                rcases K6.out with ⟨hb, hk, hn, -⟩ | ⟨hb, hk⟩
                · rcases K8.out with ⟨-, e, r⟩ | ⟨-, e⟩ | ⟨h, -⟩
                  · exact .inl ⟨hb, hn, e, r⟩
                  · exact .inr (.inl ⟨hb, e⟩)
                  · exact (h hk).elim
                · rcases K8.out with ⟨h, -⟩ | ⟨h, -⟩ | ⟨-, e⟩
                  · exact (hk h).elim
                  · exact (hk h).elim
                  · exact .inr (.inr ⟨hb, e⟩)
          case rest =>
            obtain ⟨X9, s9, kx, hx', Dy, ny, dy, er, okb, rfl, rfl, hn, ⟨l9, hl⟩, hk⟩ := hcut
            have N9 := Lib.hid hn
            have K9 := Lib.hid hk
            have O9 := Lib.hid (show Tr.RootOk s9.L k h m from by rw [hl]; exact O4'.out.app l9)
            clear hn hk hl N7 F7 N6 K6 B6 B67
            obtain ⟨Y0, eY0⟩ : ∃ W, (wc).setCell ⟨p, 3, none⟩ (.int .i64 0) = W := ⟨_, rfl⟩
            have LY0 := mrep_3 N9.out.rep 0
            rw [eY0] at LY0
            have FY0 := Lib.hid (N9.out.go LY0.1 LY0.2.1)
            have fzY0 := LY0.2.2.1
            have clY0 := LY0.2.2.2
            clear LY0
            obtain ⟨Y1, eY1⟩ : ∃ W, (Y0).setCell ⟨p, 4, none⟩ (.int .i64 0) = W := ⟨_, rfl⟩
            have LY1 := mrep_4 FY0.out.rep 0
            rw [eY1] at LY1
            have FY1 := Lib.hid (FY0.out.go LY1.1 LY1.2.1)
            have fzY1 := LY1.2.2.1
            have clY1 := LY1.2.2.2
            clear LY1
            have hL9 : ({ { s9 with bl := 0 } with bs := 0 } : Tr.MSt).L = s9.L := rfl
            have hB9 : ({ { s9 with bl := 0 } with bs := 0 } : Tr.MSt).bl = 0 := rfl
            obtain ⟨s10, hs10⟩ : ∃ s, ({ { s9 with bl := 0 } with bs := 0 } : Tr.MSt) = s := ⟨_, rfl⟩
            rw [hs10] at FY1 hL9 hB9
            have O10 := Lib.hid (show Tr.RootOk s10.L k h m from by rw [hL9]; exact O9.out)
            have L10 := Lib.hid hL9
            have B10 := Lib.hid hB9
            clear hs10 hL9 hB9 FY0 O9
            have f10 := FU.out Y1 X9 s10 FY1.out.rep FY1.out.stp
            have x0 := f10.br.cell 0
            have x1 := f10.br.cell 1
            have x2 := f10.br.cell 2
            have x3 := f10.br.cell 3
            clear f10
            have H25 := Lib.hid (tall FY1.out.rep B10.out O10.out)
            unfold AlO at H25
            rw [Hnm.out] at H25
            unfold memV Tr.rootV at H25
            go_upto_region 26 with (go_at_call 35; (with_reducible refine H25.out.mono ?_); rintro e w11 ⟨X11, s11, A11, c11, rfl, r11, t11, k11, f11⟩; (have N11 := Lib.hid ((FY1.out.go r11 t11).and_ f11)); (have L11 := Lib.hid k11.L); (have B11 := Lib.hid k11.bl); clear r11 t11 k11 f11)
            clear x0 x1 x2 x3
            have f11 := FU.out w11 X11 s11 N11.out.rep N11.out.stp
            have F11 := Lib.hid f11
            have y0 := f11.bm.cell 0
            clear f11
            have HS1 := Lib.hid (msame_any (w := w11) (l := m) (by rw [Hnm.out]; exact N11.out.now.2) (by rw [Hnm.out]; exact F11.out.sl.now) (by rw [Hnm.out]; have := Hm3.out; omega))
            rw [Hnm.out] at HS1
            rcases K9.out with ⟨rfl, hn, rfl, hr9⟩ | ⟨rfl, he⟩ | ⟨rfl, rfl⟩
            · have O11 := Lib.hid (show Tr.RootOk s11.L kx hx' Q from by rw [L11.out, L10.out]; exact hr9)
              have HnQ := Lib.hid hn.symm
              clear hn hr9
              go_upto_region 30 with (go_at_call 36; (with_reducible refine HS1.out.mono ?_); rintro e w12 ⟨rfl, b12⟩; have N12 := Lib.hid (N11.out.below b12); clear b12)
              clear y0
              have x0 := N12.out.now.1.1.cell 0
              have x1 := N12.out.now.1.1.cell 1
              have x2 := N12.out.now.1.1.cell 2
              have x3 := N12.out.now.1.1.cell 3
              have H30 := Lib.hid (tall N12.out.rep (B11.out.trans B10.out) O11.out)
              unfold AlO at H30
              rw [HnQ.out] at H30
              unfold memV Tr.rootV at H30
              go_upto_region 31 with (go_at_call 35; (with_reducible refine H30.out.mono ?_); rintro e w13 ⟨X13, s13, A13, c13, rfl, r13, t13, k13, f13⟩; (have N13 := Lib.hid ((N12.out.go r13 t13).and_ f13)); clear r13 t13 k13 f13)
              clear x0 x1 x2 x3
              have y0 := N13.out.now.1.1.2.1.cell 0
              have hQl : Q.length ≤ 100000 := by
                rw [← HQ.out]
                have h1 := Few2.out
                unfold Tr.Dd.n at h1
                have h2 := Hm3.out
                have h3 := Hnm.out
                split
                · have := Tr.cuts_len m x.d.keys; omega
                · have := Tr.puts_len m x.d.put; rw [HPP.out] at this; omega
              have HS2 := Lib.hid (msame_any (w := w13) (l := Q) (by rw [HnQ.out]; exact N13.out.now.2) (by rw [HnQ.out]; exact N13.out.now.1.1.2.2 (by trivial)) hQl)
              rw [HnQ.out] at HS2
              clear hQl
              go_wp2_with (go_at_call 36; (with_reducible refine HS2.out.mono ?_); rintro e w14 ⟨rfl, b14⟩; (have N14 := Lib.hid (N13.out.below b14)); clear b14)
              go_ret
              exact ⟨rfl, (FU.out _ _ _ N14.out.rep N14.out.stp).bel⟩
            · rcases he with rfl | rfl
              · go_wp2_with (go_at_call 36; (with_reducible refine HS1.out.mono ?_); rintro e w12 ⟨rfl, b12⟩; have N12 := Lib.hid (N11.out.below b12); clear b12)
                go_ret
                exact ⟨rfl, (FU.out _ _ _ N12.out.rep N12.out.stp).bel⟩
              · go_wp2_with (go_at_call 36; (with_reducible refine HS1.out.mono ?_); rintro e w12 ⟨rfl, b12⟩; have N12 := Lib.hid (N11.out.below b12); clear b12)
                go_ret
                exact ⟨rfl, (FU.out _ _ _ N12.out.rep N12.out.stp).bel⟩
            · go_wp2_with (go_at_call 36; (with_reducible refine HS1.out.mono ?_); rintro e w12 ⟨rfl, b12⟩; have N12 := Lib.hid (N11.out.below b12); clear b12)
              go_ret
              exact ⟨rfl, (FU.out _ _ _ N12.out.rep N12.out.stp).bel⟩
    · rw [decide_eq_false hX] at HF2
      go_wp2_with (first
        | (go_at_call 31; (first
          | ((with_reducible refine HF1.out.mono ?_); rintro e w2 ⟨rfl, b2⟩; (have B2 := Lib.hid b2); have D2 := ND.out.2.keep (b2.block _ ND.out.2.lt); have z0 := D2.cell 0; have z1 := D2.cell 1; have z2 := D2.cell 2; clear b2 D2)
          | ((with_reducible refine (HF2.out w2).mono ?_); rintro e w3 ⟨rfl, b3⟩; (have B3 := Lib.hid (B2.out.trans (((below_alloc1 w2 _).trans (b3.mono (below_alloc1 w2 _).size)).mono B2.out.size))); clear b3)))
        | (go_at_call 30; (with_reducible refine (AW.out _ (ND.out.1.trans (B3.out.mono NBs.out))).mono ?_); rintro e w4 ⟨rfl, b4⟩; (have B4 := Lib.hid b4); clear b4))
      go_ret
      exact ⟨rfl, B4.out⟩
  · rw [decide_eq_false hP] at HF1
    go_wp2_with (first
      | (go_at_call 31; (with_reducible refine HF1.out.mono ?_); rintro e w2 ⟨rfl, b2⟩; (have B2 := Lib.hid (ND.out.1.trans (b2.mono NBs.out))); clear b2)
      | (go_at_call 30; (with_reducible refine (AW.out _ B2.out).mono ?_); rintro e w3 ⟨rfl, b3⟩; (have B3 := Lib.hid b3); clear b3))
    go_ret
    exact ⟨rfl, B3.out⟩
end Go.Proofs.Ytlcchefiicalpaa
