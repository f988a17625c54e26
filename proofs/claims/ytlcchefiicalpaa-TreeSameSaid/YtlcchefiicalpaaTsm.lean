/- TreeSame. -/
import Derived.Test.YtlcchefiicalpaaTss
import Derived.Deep.RegionHeld3
namespace Go.Proofs.Ytlcchefiicalpaa
open Go.RowKit
def ldX7 : Op := Op.load 66 (.tmp 7)
def ldX9 : Op := Op.load 66 (.tmp 9)
def ldM82 : Op := Op.load 69 (.tmp 82)
set_option maxRecDepth 8000 in
set_option maxHeartbeats 16000000 in
theorem tsame_any {A : Option Addr} {c : Nat} {l : List Tr.E} (tn : Nat) (w : World) (htn : tn < 65536) (hl : SlC w w.heap.size A c l.length (evs l)) : Calls Try.prog 13 #[.slice A l.length c, .int .u16 tn] w fun e w' => e = .returned (.bool true) ∧ Below w.heap.size w w' := by
  have HAw := Lib.hid (tawake_any w)
  have HL := Lib.hid (fun (u : World) (hu : Below w.heap.size w u) => (hl.below hu).more hu.size)
  obtain ⟨B, hB⟩ : ∃ B, w.heap.size = B := ⟨_, rfl⟩
  obtain ⟨q, hq⟩ : ∃ q, l.length = q := ⟨_, rfl⟩
  rw [hB, hq]
  have Hq := Lib.hid hq
  clear hl hq
  have q0 : (0 : Int) ≤ (q : Int) := by omega
  go_enter Try.func13, Try.ntmps13
  go_upto_region 3 with (go_at_call 30; (with_reducible refine HAw.out.mono ?_); rintro e wa ⟨rfl, ba⟩; (have BA := Lib.hid ba); clear ba)
  have Bad := Lib.hid (show Below B w wa by rw [← hB]; exact BA.out)
  by_cases h40 : 40 < q
  · have z1 : decide ((40 : Int) < (q : Int)) = true := by rw [decide_eq_true_eq]; omega
    have z1' : decide (40 < q) = true := decide_eq_true h40
    go_wp2_with fail
    go_ret
    exact ⟨rfl, Bad.out⟩
  have z1 : decide ((40 : Int) < (q : Int)) = false := by rw [decide_eq_false_iff_not]; omega
  have z1' : decide (40 < q) = false := decide_eq_false h40
  go_upto_region 6 with fail
  clear z1 z1'
  obtain ⟨p, hp⟩ : ∃ p, wa.heap.size = p := ⟨_, rfl⟩
  obtain ⟨W1, hW1⟩ : ∃ W, wa.alloc (.cells #[.slice none 0 0, .int .i64 0, .int .i64 0, .int .i64 0, .int .i64 0] 64) = W := ⟨_, rfl⟩
  have N1 := Lib.hid (show LW B w p W1 (fun b => b = p) ⟨[], 0, 0, 0, 0⟩ (fun _ => True) from by
    have := BA.out.size
    subst hp
    rw [← hW1, ← hB]
    exact ⟨mrep_new wa, BA.out.trans ((below_alloc1 wa _).mono this), fun b hb => by have hb : b = wa.heap.size := hb; omega, by simp; omega, fun _ _ => trivial⟩)
  have hs1 : W1.heap.size = p + 1 := by rw [← hW1, ← hp]; simp
  obtain ⟨W2, hW2⟩ : ∃ W, W1.alloc (.cells #[.slice none 0 0, .int .i64 0, .int .i64 0, .int .i64 0, .int .i64 0] 64) = W := ⟨_, rfl⟩
  have N2 := Lib.hid (by have := lv_start N1.out; rw [hW2] at this; exact this)
  try rw [hW1]
  try rw [hW2]
  rw [hs1] at N2
  obtain ⟨p2, hp2⟩ : ∃ b, p + 1 = b := ⟨_, rfl⟩
  rw [hp2] at N2
  try rw [hp]
  try rw [hp2]
  clear hW1 hW2 hs1 N1 hp2 hp
  have H3 := Lib.hid (tempty N2.out.ra Tr.calm0 (by decide))
  unfold memV at H3
  go_upto_region 7 with (go_at_call 32; (with_reducible refine H3.out.mono ?_); rintro e w3 ⟨X3, s3, k3, h3, rfl, r3, t3, ⟨q3, m3, l3⟩, o3⟩; unfold Tr.rootV; dsimp only; (have N3 := Lib.hid (N2.out.stp r3 t3)); (have O3 := Lib.hid o3); (have C3 := Lib.hid ((Tr.calm0.mor m3).mono (show 0 + q3 ≤ 1 by omega))); clear r3 t3 m3 o3)
  obtain ⟨xb, hxb⟩ : ∃ b, w3.heap.size = b := ⟨_, rfl⟩
  obtain ⟨W3, hW3⟩ : ∃ W, w3.alloc (.cells #[.int .i64 k3.1, .int .i64 k3.2.1, .int .i64 k3.2.2, .int .i64 h3] 66) = W := ⟨_, rfl⟩
  rw [hW3, hxb]
  have N4 := Lib.hid (by have := N3.out.new 66 #[.int .i64 k3.1, .int .i64 k3.2.1, .int .i64 k3.2.2, .int .i64 h3]; rw [hW3, hxb] at this; exact this)
  have Fx := Lib.hid (show ¬ ((fun b => X3 b ∨ b = p2) xb) ∧ B ≤ xb from ⟨by rw [← hxb]; exact N3.out.fresh, by rw [← hxb]; exact N3.out.sz⟩)
  clear hxb hW3 H3
  have H5 := Lib.hid (tempty N4.out.rb Tr.calm0 (by decide))
  unfold memV at H5
  go_upto_region 8 with (go_at_call 32; (with_reducible refine H5.out.mono ?_); rintro e w5 ⟨X5, s5, k5, h5, rfl, r5, t5, ⟨q5, m5, l5⟩, o5⟩; unfold Tr.rootV; dsimp only; (have N5 := Lib.hid (N4.out.stpB r5 t5)); (have FxB := Lib.hid (t5.far N4.out.now.2.lt fun e => Fx.out.1 (.inr e))); (have O5 := Lib.hid o5); (have C5 := Lib.hid ((Tr.calm0.mor m5).mono (show 0 + q5 ≤ 1 by omega))); clear r5 t5 m5 o5)
  obtain ⟨yb, hyb⟩ : ∃ b, w5.heap.size = b := ⟨_, rfl⟩
  obtain ⟨W5, hW5⟩ : ∃ W, w5.alloc (.cells #[.int .i64 k5.1, .int .i64 k5.2.1, .int .i64 k5.2.2, .int .i64 h5] 66) = W := ⟨_, rfl⟩
  rw [hW5, hyb]
  have N6 := Lib.hid (by have := N5.out.new 66 #[.int .i64 k5.1, .int .i64 k5.2.1, .int .i64 k5.2.2, .int .i64 h5]; rw [hW5, hyb] at this; exact this)
  have Fyb := Lib.hid (show ¬ (X3 yb ∨ X5 yb) ∧ B ≤ yb ∧ xb < yb from ⟨by rw [← hyb]; exact N5.out.fresh, by rw [← hyb]; exact N5.out.sz, by rw [← hyb]; exact N5.out.now.2.lt⟩)
  have LT5 := Lib.hid (show ∀ b, X3 b ∨ X5 b → b < W5.heap.size from fun b hb => hb.elim (fun h => N6.out.ra.lt h) fun h => N6.out.rb.lt h)
  have HM := Lib.hid (mput_any (w := W5) (SlC.none_ W5 W5.heap.size) (show SlC W5 W5.heap.size A c l.length (evs l) from HL.out _ (by rw [hB]; exact N6.out.bel)) (m := []) (Nat.zero_le _) (by rw [Hq.out]; omega))
  rw [Hq.out] at HM
  clear hyb hW5 H5 N2 N3 N4 N5
  by_cases hok : Tr.OkL l
  · obtain ⟨M, hM⟩ : ∃ M, Tr.puts [] l = M := ⟨_, rfl⟩
    obtain ⟨nM, hnM⟩ : ∃ n, M.length = n := ⟨_, rfl⟩
    have HM2 := Lib.hid (show Calls Try.prog 44 #[.agg #[.slice none 0 0], .slice A q c] W5 (fun e w' => ∃ D d, e = .returned (.tuple #[.agg #[.slice D nM d], .bool true]) ∧ SlC w' w'.heap.size D d nM (evs M) ∧ (∀ a, D = some a → W5.heap.size ≤ a.block) ∧ Below W5.heap.size W5 w') from HM.out.mono fun e w' he => by
      obtain ⟨(⟨hn, -⟩ | ⟨-, D, d, e1, e2, e3⟩), hb⟩ := he
      · exact (hn hok).elim
      · rw [hM, hnM] at e1
        rw [hM, hnM] at e2
        exact ⟨D, d, e1, e2, e3, hb⟩)
    have HnM := Lib.hid hnM
    have HeM := Lib.hid hM
    have Hok := Lib.hid hok
    have hnb : nM ≤ 40 := by have := Tr.puts_len [] l; rw [hM, hnM, Hq.out] at this; simp at this; omega
    have HMo := Lib.hid (show ∀ e ∈ M, Tr.EOk e from fun e he => by rw [← HeM.out] at he; exact (Tr.puts_mem he).elim (fun h => by cases h) (Tr.okL_iff.1 Hok.out e))
    have HMa := Lib.hid (show Tr.Asc M from by rw [← HeM.out]; exact Tr.puts_asc List.Pairwise.nil l)
    clear hM hnM HM hok
    go_upto_region 11 with (go_at_call 44; (with_reducible refine HM2.out.mono ?_); rintro e w8 ⟨D, d, rfl, e2, e3, b8⟩; dsimp only; (have N8 := Lib.hid (N6.out.below b8)); (have SD := Lib.hid e2); (have FDn := Lib.hid e3); (have BS := Lib.hid b8.size); clear e2 e3 b8)
    obtain ⟨mb, hmb⟩ : ∃ b, w8.heap.size = b := ⟨_, rfl⟩
    obtain ⟨W8, hW8⟩ : ∃ W, w8.alloc (.cells #[.slice D nM d] 71) = W := ⟨_, rfl⟩
    rw [hW8, hmb]
    have S8 := Lib.hid (show Sm B w p p2 W8 X3 X5 s3 s5 xb yb mb #[.int .i64 k3.1, .int .i64 k3.2.1, .int .i64 k3.2.2, .int .i64 h3] #[.int .i64 k5.1, .int .i64 k5.2.1, .int .i64 k5.2.2, .int .i64 h5] D nM d (evs M) from by
      have n9 := N8.out.new 71 #[.slice D nM d]
      rw [hW8, hmb] at n9
      have hbl : Below w8.heap.size w8 W8 := hW8 ▸ below_alloc1 w8 _
      have h1 := N8.out.now.1.2.lt
      have h2 := N8.out.now.2.lt
      rw [hmb] at h1 h2
      refine ⟨n9.imp fun _ _ => trivial, n9.now.1.1.2, n9.now.1.2, n9.now.2, (SD.out.below hbl).more hbl.size, fun h => h.elim (fun h => Fx.out.1 (.inl h)) FxB.out, Fyb.out.1, by rw [← hmb]; exact N8.out.fresh, .inr fun a ha => ?_, by have := Fyb.out.2.2; omega, by omega, by omega, Fx.out.2, Fyb.out.2.1⟩
      have h3 := FDn.out a ha
      have h4 := N6.out.now.1.2.lt
      have h5 := N6.out.now.2.lt
      exact ⟨fun h => by have := LT5.out _ h; omega, by omega, by omega⟩)
    have Bp := Lib.hid (show Below B w W8 from S8.out.lv.bel)
    have SZ := Lib.hid (show B ≤ W8.heap.size from S8.out.lv.sz)
    have HEn := Lib.hid (fun (V : World) (h : Below W8.heap.size W8 V) => entries_any (HL.out V (by rw [hB]; exact Bp.out.trans (h.mono SZ.out))) (by rw [Hq.out]; omega))
    have HPt := Lib.hid (fun (V : World) (D' : Option Addr) (d' : Nat) (h : Below W8.heap.size W8 V) (hs : SlC V V.heap.size D' d' q (evs l)) => show Calls Try.prog 39 #[memV p, Tr.rootV k3 h3, .slice D' q d'] V (RtO p V X3 s3 (15 * q + 6) M) from by
      have := tput (S8.out.below h).lv.ra C3.out O3.out (L := l) (n := q) hs Hq.out (by omega) (Tr.okL_iff.1 Hok.out)
      rw [HeM.out] at this
      exact this)
    rw [Hq.out] at HEn
    unfold memV Tr.rootV at HPt
    have KR := Lib.hid (fun (V : World) (h : Below W8.heap.size W8 V) => (S8.out.below h).bx)
    have x0 := S8.out.bx.cell 0
    have x1 := S8.out.bx.cell 1
    have x2 := S8.out.bx.cell 2
    have x3 := S8.out.bx.cell 3
    clear hmb hW8
    go_upto_region 13 with fail
    go_cut [8] from 54 to 62 (fun v8 wx => v8 = .int .i64 0 ∧ ∃ (X : Nat → Prop) (s : Tr.MSt) (k : Nd.T3) (h : Int), Sm B w p p2 wx X X5 s s5 xb yb mb #[.int .i64 k.1, .int .i64 k.2.1, .int .i64 k.2.2, .int .i64 h] #[.int .i64 k5.1, .int .i64 k5.2.1, .int .i64 k5.2.2, .int .i64 h5] D nM d (evs M) ∧ Tr.RootOk s.L k h M ∧ Tr.Calm s 1000)
    case first =>
      have hbc : Below W8.heap.size W8 W8.drew := (Below.refl _ _).drew
      have hl1 : ldX7 = Op.load 66 (.tmp 7) := rfl
      rw [← hl1]
      go_region_held3 (fun _ => True) (trivial) (first
        | (go_at_call 45; ((with_reducible refine (HEn.out _ hbc).mono ?_); rintro e w9 ⟨⟨D9, d9, rfl, e9⟩, b9⟩; have hbc := hbc.trans (b9.mono hbc.size); have E9 := Lib.hid e9; have R9 := KR.out _ hbc; have x0 := R9.cell 0; have x1 := R9.cell 1; have x2 := R9.cell 2; have x3 := R9.cell 3; clear e9 b9 R9))
        | (go_at_call 39; ((with_reducible refine (HPt.out _ _ _ hbc E9.out).mono ?_); rintro e w10 ⟨X10, s10, k10, h10, rfl, r10, t10, ⟨j10, m10, l10⟩, o10⟩; unfold Tr.rootV; dsimp only; have S10 := Lib.hid ((S8.out.below hbc).stp r10 t10); have O10 := Lib.hid o10; have C10 := Lib.hid ((C3.out.mor m10).mono (show 1 + j10 ≤ 1000 by omega)); clear r10 t10 m10 o10; (obtain ⟨v1, v2, v3, v4, p1, p2', p3, p4, ⟨f1, f2, f3, f4⟩, ⟨g1, g2, g3, g4⟩, Bk, Ck⟩ := blk_st4 S10.out.bx (.int .i64 k10.1) (.int .i64 k10.2.1) (.int .i64 k10.2.2) (.int .i64 h10)); have S11 := Lib.hid (S10.out.store Ck Bk); clear Bk Ck)))
      all_goals go_wp2_with fail
      all_goals go_meet
      all_goals exact ⟨rfl, X10, s10, k10, h10, S11.out, O10.out, C10.out⟩
    case rest =>
      obtain ⟨rfl, X10, s10, k10, h10, hs, ho, hc⟩ := hcut
      have S10 := Lib.hid hs
      have O10 := Lib.hid ho
      have C10 := Lib.hid hc
      clear hs ho hc HPt HEn KR S8 N6 N8 HM2 x0 x1 x2 x3 Bp SZ SD FDn BS
      go_wp2_with fail
      go_loopw [13, 14] (fun v13 v14 wx => ∃ i : Nat, v13 = .int .i64 (i : Int) ∧ i ≤ nM ∧ ∃ Y su k h, Sm B w p p2 wx X10 Y s10 su xb yb mb #[.int .i64 k10.1, .int .i64 k10.2.1, .int .i64 k10.2.2, .int .i64 h10] #[.int .i64 k.1, .int .i64 k.2.1, .int .i64 k.2.2, .int .i64 h] D nM d (evs M) ∧ Tr.RootOk su.L k h (Tr.puts [] (Tr.turn M tn i)) ∧ Tr.Calm su (1 + 21 * i)) (fun v13 _ _ => nM - (intOf v13).toNat)
      case atStart => exact ⟨0, rfl, Nat.zero_le _, X5, s5, k5, h5, S10.out, O5.out, C5.out⟩
      case round =>
        obtain ⟨i, rfl, hi, Y, su, k, h, hs, ho, hc⟩ := hrel
        have S := Lib.hid hs
        have O := Lib.hid ho
        have C := Lib.hid hc
        clear hs ho hc S10
        have y0 := S.out.bm.cell 0
        by_cases hiq : i < nM
        · have z0 : decide ((i : Int) < (nM : Int)) = true := by rw [decide_eq_true_eq]; omega
          have z0' : decide (i < nM) = true := decide_eq_true hiq
          go_upto_region 18 with fail
          obtain ⟨kk, hkk⟩ : ∃ kk : Nat, (i + tn) % nM = kk := ⟨_, rfl⟩
          have hki : ((i : Int) + (tn : Int)) % (nM : Int) = (kk : Int) := by rw [← hkk]; exact_mod_cast rfl
          have hkl : kk < nM := by rw [← hkk]; exact Nat.mod_lt _ (by omega)
          rw [hki]
          obtain ⟨i0, hi0, -, hs0, -⟩ := rentry_parts
          obtain ⟨bD, oD, hDe, -⟩ := S.out.sl.ev (i := kk) (by rw [HnM.out]; exact hkl)
          subst hDe
          obtain ⟨x, hx⟩ : ∃ x, M.getD kk Tr.z = x := ⟨_, rfl⟩
          have Hx := Lib.hid (show Tr.puts (Tr.puts [] (Tr.turn M tn i)) [x] = Tr.puts [] (Tr.turn M tn (i + 1)) from by rw [← Tr.turn_put, HnM.out, hkk, hx])
          have Hxo := Lib.hid (show ∀ e ∈ [x], Tr.EOk e from fun e he => by
            rw [List.mem_singleton] at he
            subst he
            rw [← hx, List.getD_eq_getElem?_getD, List.getElem?_eq_getElem (show kk < M.length by rw [HnM.out]; exact hkl)]
            exact HMo.out _ (List.getElem_mem _))
          have Hxl := Lib.hid (show ∀ V, Below wr.heap.size wr V → SlC V V.heap.size (some ⟨bD, oD + kk * 5, none⟩) (d - kk) 1 (evs [x]) from fun V hV => by
            rw [← hx]
            exact slc_one (S.out.below hV).sl (by rw [HnM.out]; exact hkl) HnM.out.symm)
          have hled : nM ≤ d := S.out.sl.le
          have hkd : kk < d := by omega
          have hk40 : kk < 40 := by omega
          have hw1 : IntKind.i64.wrap ((kk : Int) + 1) = (kk : Int) + 1 := IntWalk.i64_in _ (by omega)
          have cut1 := run_slice_one (P := Try.prog) Try.underlying69 hi0 hs0 bD oD nM d kk hkd
          clear hkk hki hx hi0 hs0
          have HEn := Lib.hid (fun (V : World) (h : Below wr.heap.size wr V) => entries_any (w := V) (l := [x]) (Hxl.out V h) (by simp))
          have HPt := Lib.hid (fun (V : World) (D' : Option Addr) (d' : Nat) (h' : Below wr.heap.size wr V) (hs : SlC V V.heap.size D' d' 1 (evs [x])) => show Calls Try.prog 39 #[memV p2, Tr.rootV k h, .slice D' 1 d'] V (RtO p2 V Y su (15 * 1 + 6) (Tr.puts [] (Tr.turn M tn (i + 1)))) from by
            have := tput (S.out.below h').lv.rb C.out O.out (L := [x]) (n := 1) hs rfl (by omega) Hxo.out
            rw [Hx.out] at this
            exact this)
          unfold memV Tr.rootV at HPt
          dsimp only [List.length_cons, List.length_nil] at HEn
          have KR := Lib.hid (fun (V : World) (h : Below wr.heap.size wr V) => (S.out.below h).bz)
          have x0 := S.out.bz.cell 0
          have x1 := S.out.bz.cell 1
          have x2 := S.out.bz.cell 2
          have x3 := S.out.bz.cell 3
          go_cut [10] from 78 to 91 (fun v10 wx => v10 = .int .i64 0 ∧ ∃ (Y : Nat → Prop) (su : Tr.MSt) (k : Nd.T3) (h : Int), Sm B w p p2 wx X10 Y s10 su xb yb mb #[.int .i64 k10.1, .int .i64 k10.2.1, .int .i64 k10.2.2, .int .i64 h10] #[.int .i64 k.1, .int .i64 k.2.1, .int .i64 k.2.2, .int .i64 h] (some ⟨bD, oD, none⟩) nM d (evs M) ∧ Tr.RootOk su.L k h (Tr.puts [] (Tr.turn M tn (i + 1))) ∧ Tr.Calm su (1 + 21 * (i + 1)))
          case first =>
            have hbc : Below wr.heap.size wr wr.drew := (Below.refl _ _).drew
            have hl1 : ldX9 = Op.load 66 (.tmp 9) := rfl
            have hl2 : ldM82 = Op.load 69 (.tmp 82) := rfl
            rw [← hl1, ← hl2]
            go_region_held3 (fun _ => True) (trivial) (first
              | (go_at_call 45; ((with_reducible refine (HEn.out _ hbc).mono ?_); rintro e w9 ⟨⟨D9, d9, rfl, e9⟩, b9⟩; have hbc := hbc.trans (b9.mono hbc.size); have E9 := Lib.hid e9; have R9 := KR.out _ hbc; have x0 := R9.cell 0; have x1 := R9.cell 1; have x2 := R9.cell 2; have x3 := R9.cell 3; clear e9 b9 R9))
              | (go_at_call 39; ((with_reducible refine (HPt.out _ _ _ hbc E9.out).mono ?_); rintro e w10 ⟨Y11, s11, k11, h11, rfl, r10, t10, ⟨j10, m10, l10⟩, o10⟩; unfold Tr.rootV; dsimp only; have S11 := Lib.hid ((S.out.below hbc).swap.stp r10 t10); have O11 := Lib.hid o10; have C11 := Lib.hid ((C.out.mor m10).mono (show 1 + 21 * i + j10 ≤ 1 + 21 * (i + 1) by omega)); clear r10 t10 m10 o10; (obtain ⟨v1, v2, v3, v4, p1, p2', p3, p4, ⟨f1, f2, f3, f4⟩, ⟨g1, g2, g3, g4⟩, Bk, Ck⟩ := blk_st4 S11.out.bx (.int .i64 k11.1) (.int .i64 k11.2.1) (.int .i64 k11.2.2) (.int .i64 h11)); have S12 := Lib.hid (S11.out.store Ck Bk).swap; clear Bk Ck)))
            all_goals go_wp2_with fail
            all_goals go_meet
            all_goals exact ⟨rfl, Y11, s11, k11, h11, S12.out, O11.out, C11.out⟩
          case rest =>
            obtain ⟨rfl, Y, su, k, h, hs, ho, hc⟩ := hcut
            have S13 := Lib.hid hs
            have O13 := Lib.hid ho
            have C13 := Lib.hid hc
            clear hs ho hc x0 x1 x2 x3 y0
            go_wp2_with fail
            go_roundw
            case rel => exact ⟨i + 1, by go_num, by omega, Y, su, k, h, S13.out, O13.out, C13.out⟩
            case measure => simp [intOf]; omega
        · have hiq : i = nM := by omega
          subst hiq
          have z0 : decide ((i : Int) < (i : Int)) = false := by rw [decide_eq_false_iff_not]; omega
          have z0' : decide (i < i) = false := by rw [decide_eq_false_iff_not]; omega
          have OT := O.out
          have ht := Tr.turn_all M tn HMa.out
          rw [HnM.out] at ht
          rw [ht] at OT
          have O5 := Lib.hid OT
          clear OT ht O
          have H21 := Lib.hid (tall2 S.out.lv.ra S.out.lv.rb S.out.lv.dis C10.out.bl O10.out)
          rw [HnM.out] at H21
          unfold memV Tr.rootV at H21
          have x0 := S.out.bx.cell 0
          have x1 := S.out.bx.cell 1
          have x2 := S.out.bx.cell 2
          have x3 := S.out.bx.cell 3
          go_upto_region 22 with (go_at_call 35; (with_reducible refine H21.out.mono ?_); rintro e w14 ⟨X14, Y14, s14, A14, c14, rfl, hd, ra, rb, hs, ks, hf⟩; (have S14 := Lib.hid (S.out.stp2 ra rb hd hs)); (have F14 := Lib.hid hf); clear hd ra rb hs ks hf)
          clear x0 x1 x2 x3
          have x0 := S14.out.bz.cell 0
          have x1 := S14.out.bz.cell 1
          have x2 := S14.out.bz.cell 2
          have x3 := S14.out.bz.cell 3
          have H22 := Lib.hid (tall S14.out.lv.rb C.out.bl O5.out)
          unfold AlO at H22
          rw [HnM.out] at H22
          unfold memV Tr.rootV at H22
          go_upto_region 23 with (go_at_call 35; (with_reducible refine H22.out.mono ?_); rintro e w15 ⟨Y15, s15, A15, c15, rfl, rb, hs, ks, hf⟩; (have S15 := Lib.hid (S14.out.swap.stp rb hs).swap); (have F15 := Lib.hid (F14.out.step (hs.right X14))); (have G15 := Lib.hid hf); clear rb hs ks hf)
          clear x0 x1 x2 x3 y0
          have y0 := S15.out.bm.cell 0
          have HS1 := Lib.hid (fun (V : World) (h : Below w15.heap.size w15 V) => msame_any (w := V) (l := M) (by rw [HnM.out]; exact (F15.out.below h).now) (by rw [HnM.out]; exact (S15.out.below h).sl) (by rw [HnM.out]; omega))
          have HS2 := Lib.hid (fun (V : World) (h : Below w15.heap.size w15 V) => msame_any (w := V) (l := M) (by rw [HnM.out]; exact (G15.out.below h).now) (by rw [HnM.out]; exact (S15.out.below h).sl) (by rw [HnM.out]; omega))
          rw [HnM.out] at HS1 HS2
          have hbc : Below w15.heap.size w15 w15 := Below.refl _ _
          go_wp2_with (go_at_call 36; (first | (with_reducible refine (HS1.out _ hbc).mono ?_) | (with_reducible refine (HS2.out _ hbc).mono ?_)); rintro e w16 ⟨rfl, b16⟩; (have hbc := hbc.trans (b16.mono hbc.size)); (have y0 := (S15.out.below hbc).bm.cell 0); clear b16)
          go_ret
          exact ⟨rfl, (S15.out.below hbc).lv.bel⟩
  · have HM2 := Lib.hid (show Calls Try.prog 44 #[.agg #[.slice none 0 0], .slice A q c] W5 (fun e w' => e = .returned (.tuple #[.agg #[.slice none 0 0], .bool false]) ∧ Below W5.heap.size W5 w') from HM.out.mono fun e w' he => by
      obtain ⟨(⟨-, e1⟩ | ⟨hn, -⟩), hb⟩ := he
      · exact ⟨e1, hb⟩
      · exact (hok hn).elim)
    clear HM
    go_wp2_with (go_at_call 44; (with_reducible refine HM2.out.mono ?_); rintro e w8 ⟨rfl, b8⟩; dsimp only; (have N8 := Lib.hid (N6.out.below b8)); (have N9 := Lib.hid (N8.out.below (below_alloc1 w8 (.cells #[.slice none 0 0] 71)))); clear b8)
    go_ret
    exact ⟨rfl, N9.out.bel⟩
end Go.Proofs.Ytlcchefiicalpaa
