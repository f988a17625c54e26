/- SharesPlay under the contracts. -/
import Derived.Test.YtfiafgmlbejboaaShpr
import Derived.Test.YtfiafgmlbejboaaShcp
import Derived.Test.YtfiafgmlbejboaaSbak
import Derived.Test.YtfiafgmlbejboaaRpla
namespace Go.Proofs.Ytfiafgmlbejboaa
open Go.RowKit

/-- Both say the same. -/
def PlS (RepB : World → Nat → Nat → (Nat → Prop) → List Bool → List Sh.U → List Sh.U → Prop) (B g gs gm gb gk j : Nat) (w wr : World) : Prop :=
  ∃ F now was, F.length = 40 ∧ Cap j now ∧ Cap j was ∧ Twin RepB B g gs gm gb gk F now was F now was w wr
set_option maxRecDepth 8000 in
set_option maxHeartbeats 16000000 in
theorem shplay_any {Rep : World → Nat → (Nat → Prop) → List Bool → Prop} {RepB : World → Nat → Nat → (Nat → Prop) → List Bool → List Sh.U → List Sh.U → Prop} (hC : RunsC Rep) (hS : ShC Rep RepB) {w : World} {A : Option Addr} {c p : Nat}
    (D : Nat → Int × Int × Int) (hD : ∀ i, I64 (D i).2.1 ∧ I64 (D i).2.2) (hcs : DeedCells w w.heap.size A p D) :
    Calls Try.prog 8 #[.slice A p c] w fun e w' => e = .returned (.bool true) ∧ Below w.heap.size w w' := by
  have AW := Lib.hid (shawake_any hC hS w)
  obtain ⟨B, hB⟩ : ∃ B, B = w.heap.size := ⟨_, rfl⟩
  have HC := Lib.hid hC
  have HS := Lib.hid hS
  have HBw := Lib.hid (show B ≤ w.heap.size by omega)
  rw [← hB] at AW hcs ⊢
  have CS := Lib.hid hcs
  have HD := Lib.hid hD
  clear hC hS hB hcs hD
  by_cases h60 : 100 < p
  · have q1 : decide (100 < (p : Int)) = true := by rw [decide_eq_true_eq]; omega
    have q2 : decide (100 < p) = true := by rw [decide_eq_true_eq]; exact h60
    clear h60
    go_enter Try.func8, Try.ntmps8
    go_wp2_with fail
    refine AW.out.mono ?_
    rintro e w0 ⟨rfl, hb0⟩
    go_wp2_with fail
    go_ret
    exact ⟨rfl, hb0⟩
  have q1 : decide (100 < (p : Int)) = false := by rw [decide_eq_false_iff_not]; omega
  have q2 : decide (100 < p) = false := by rw [decide_eq_false_iff_not]; exact h60
  have hp100 : p ≤ 100 := by omega
  clear h60
  go_enter Try.func8, Try.ntmps8
  go_wp2_with fail
  refine AW.out.mono ?_
  rintro e w0 ⟨rfl, hb0⟩
  have S0 := Lib.hid (Nat.le_trans HBw.out hb0.size)
  have H0 := Lib.hid hb0
  have N1 := Lib.hid (HC.out.new 40 w0 (by unfold I64; omega))
  clear AW hb0
  go_wp2_with fail
  refine N1.out.mono ?_
  rintro e w1 ⟨g, X, rfl, hr1, hx1, hb1⟩
  have hlt1 := HC.out.lt hr1
  have R1 := Lib.hid hr1
  have X1 := Lib.hid (show ∀ b, X b → B ≤ b ∧ b < w1.heap.size from fun b hb => ⟨Nat.le_trans S0.out (hx1 b hb), hlt1 b hb⟩)
  have H1 := Lib.hid (H0.out.trans (hb1.mono S0.out))
  have S1 := Lib.hid (Nat.le_trans S0.out hb1.size)
  have N2 := Lib.hid (rnew_any 40 w1)
  clear hr1 hx1 hb1 hlt1 N1 H0 S0
  go_wp2_with fail
  refine N2.out.mono ?_
  rintro e w2 ⟨gm, gb, rfl, rr2, hb2, hgm, hgb⟩
  have RR2 := Lib.hid rr2
  have hr2 := HC.out.keep R1.out fun b hb => hb2.block b (X1.out b hb).2
  have H2 := Lib.hid (H1.out.trans (hb2.mono S1.out))
  have S2 := Lib.hid (Nat.le_trans S1.out hb2.size)
  have N3 := Lib.hid (HS.out.new hr2)
  have HG := Lib.hid (show (w1.heap.size ≤ gm ∧ gm < w2.heap.size) ∧ w1.heap.size ≤ gb ∧ gb < w2.heap.size from ⟨⟨hgm, rr2.map.lt⟩, hgb, rr2.blks.lt⟩)
  clear rr2 hb2 hgm hgb hr2 N2
  go_wp2_with fail
  refine N3.out.mono ?_
  rintro e w3 ⟨gs, rfl, X3, hr3, hx3, hc3⟩
  have R3 := Lib.hid hr3
  have X3B := Lib.hid (show ∀ b, X3 b → B ≤ b ∧ b ≠ gm ∧ b ≠ gb from fun b hb => by
    have hg := HG.out
    rcases hx3 b hb with h | h
    · have := X1.out b h; omega
    · have := S2.out; omega)
  have H3 := Lib.hid (H2.out.trans (hc3.below S2.out fun b hb => (X1.out b hb).1))
  have S3 := Lib.hid (Nat.le_trans S2.out hc3.size)
  have RR3 := Lib.hid (RR2.out.keep (hc3.block gm HG.out.1.2 fun h => by have := X1.out _ h; have := HG.out; omega) (hc3.block gb HG.out.2.2 fun h => by have := X1.out _ h; have := HG.out; omega))
  have HW3 := Lib.hid hc3.size
  have N4 := Lib.hid (snew_any RR3.out B)
  clear hr3 hx3 hc3 N3
  go_wp2_with fail
  refine N4.out.mono ?_
  rintro e w4 ⟨gk, rfl, sr4, hgk, hb4⟩
  have T4 := Lib.hid (show PlS RepB B g gs gm gb gk 0 w w4 from by
    have hl3 := HS.out.lt R3.out
    obtain ⟨v1, v2, bk, -, -⟩ := sr4.sh
    have hgkl := bk.lt
    refine ⟨_, [], [], by decide, ⟨by decide, by simp⟩, ⟨by decide, by simp⟩, ⟨⟨X3, HS.out.keep R3.out fun b hb => hb4.block b (hl3 b hb), fun b hb ho => ?_⟩, fun b ho => ?_, fun b hb => .inl hb, shst_start _, H3.out.trans (hb4.mono S3.out), Nat.le_trans S3.out hb4.size⟩, sr4, by have := HG.out; have := S1.out; omega, by have := HG.out; have := S1.out; omega, by have := S3.out; omega⟩
    · have h1 := X3B.out b hb
      have h2 := hl3 b hb
      rcases ho with h | h | h | h
      · omega
      · exact h1.2.1 h
      · exact h1.2.2 h
      · omega
    · have h1 := HG.out
      have h2 := HW3.out
      have h3 := hb4.size
      have h4 := S3.out
      rcases ho with h | h | h | h <;> omega)
  clear sr4 hgk hb4 N4
  go_wp2_with fail
  go_loopw [7] (fun v7 wr => ∃ j : Nat, v7 = .int .i64 (j : Int) ∧ j ≤ p ∧ PlS RepB B g gs gm gb gk j w wr) (fun v7 _ => p - (intOf v7).toNat)
  case atStart => exact ⟨0, rfl, Nat.zero_le _, T4.out⟩
  case round =>
    obtain ⟨j, rfl, hjp, F, now, was, hF, hcap, hcap2, tw⟩ := hrel
    clear T4
    by_cases hjp2 : j < p
    · have y0 : decide ((j : Int) < (p : Int)) = true := by rw [decide_eq_true_eq]; omega
      have y0' : decide (j < p) = true := by rw [decide_eq_true_eq]; exact hjp2
      obtain ⟨db, dd, rfl, hdB, d0, d1, d2⟩ := (CS.out.below tw.far.bel) j hjp2
      have T0 := Lib.hid (HD.out j).1
      have T1 := Lib.hid (HD.out j).2
      obtain ⟨⟨x, y, z⟩, hxyz⟩ : ∃ t, t = D j := ⟨_, rfl⟩
      rw [← hxyz] at d0 d1 d2 T0 T1
      dsimp only at d0 d1 d2 T0 T1
      clear hxyz
      obtain ⟨d, hd⟩ : ∃ d, wr.heap.size = d := ⟨_, rfl⟩
      obtain ⟨W1, hW1⟩ : ∃ W, wr.alloc (.cells #[.int .i64 x, .int .i64 y, .int .i64 z] 50) = W := ⟨_, rfl⟩
      have tb := tw.below HS.out (w' := W1) (by rw [← hW1]; exact (Below.refl _ _).alloc (Nat.le_refl _) _)
      have bkd : Blk W1 d 50 #[.int .i64 x, .int .i64 y, .int .i64 z] := by rw [← hW1, ← hd]; exact Blk.new _ _ _
      have t0 : W1.cell? ⟨d, 0, none⟩ = some (.int .i64 x) := bkd.cell 0
      have t1 : W1.cell? ⟨d, 1, none⟩ = some (.int .i64 y) := bkd.cell 1
      have t2 : W1.cell? ⟨d, 2, none⟩ = some (.int .i64 z) := bkd.cell 2
      have BD := Lib.hid bkd
      have TB := Lib.hid tb
      have KD := Lib.hid (fun X (hu : KeepU W1 X) => show X.cell? ⟨d, 1, none⟩ = some (.int .i64 y) ∧ X.cell? ⟨d, 2, none⟩ = some (.int .i64 z) from ⟨(BD.out.keep (hu d _ _ (.inr rfl) BD.out)).cell 1, (BD.out.keep (hu d _ _ (.inr rfl) BD.out)).cell 2⟩)
      clear tw tb bkd
      by_cases hx0 : x = 0
      · as_aux_lemma =>
        subst hx0
        obtain ⟨t, ht3⟩ : ∃ t, t = (z % 4).toNat := ⟨_, rfl⟩
        have ha3 : bits BinOp.and IntKind.i64 z 3 = (t : Int) := by rw [and3_i64 z T1.out, ht3]
        have ht4 : t < 4 := by omega
        obtain ⟨n, hn⟩ : ∃ n, n = 1 + t := ⟨_, rfl⟩
        have hsum : (1 : Int) + (t : Int) = (n : Int) := by omega
        have hnn : 1 ≤ n := by omega
        have hn4 : n ≤ 4 := by omega
        clear hn ht3
        rcases Sh.take_some (F := F) hnn with ⟨a, ht, haf, hfree⟩ | ht
        · have st := shst_taken TB.out.far.st hnn haf (by omega) (by have := hcap.1; omega) hfree
          have hF2 : (Rn.setN F a false n).length = 40 := by rw [Rn.setN_len]; exact hF
          have N := TB.out.map HS.out (by rw [ht]; exact st.1) (fun X hr => HC.out.take hr (n : Int) (by unfold I64; omega))
          rw [ht] at N
          dsimp only at N
          have ha60 : a ≤ 40 := by omega
          generalize Rn.setN F a false n = G at *
          have N1 := Lib.hid N
          have ST := Lib.hid st
          have HT := Lib.hid ht
          have HCap := Lib.hid hcap
          have HF2 := Lib.hid hF2
          clear st N ht hcap hfree haf hF hF2
          go_wp2_with fail
          refine N1.out.mono ?_
          rintro e w5 ⟨rfl, t5, -⟩
          have N2 := Lib.hid (t5.doc HS.out (F1 := G) (now1 := now) (was1 := was) (f := 16) (args := #[.pointer (some ⟨gm, 0, none⟩), .int .i64 (n : Int)]) (Q := fun e => e = .returned (.tuple #[.int .i64 (a : Int), .bool true])) (fun sr _ => by
            have h := rtake_any sr.map (n : Int)
            rw [HT.out] at h
            exact h.mono fun e w' ⟨h1, h2, h3⟩ => ⟨h1, sr.mapR h2 h3, h3.mono fun b hb => .inr hb⟩))
          clear t5 N1
          go_wp2_with fail
          refine N2.out.mono ?_
          rintro e w6 ⟨rfl, t6, -⟩
          have N := t6.prog HS.out (F1 := G) (now1 := (Sh.add now (a : Int) (n : Int)).2) (was1 := was) (by rw [ST.out.2.1]; exact ST.out.2.2) (fun X hr => HS.out.add hr t6.far.st (a : Int) (n : Int) (by unfold I64; omega) (by unfold I64; omega) (by rw [ST.out.2.1]; exact ST.out.2.2.few))
          rw [ST.out.2.1] at N
          have N3 := Lib.hid N
          clear N t6 N2
          go_wp2_with fail
          refine N3.out.mono ?_
          rintro e w7 ⟨rfl, t7, -⟩
          have N4 := Lib.hid (t7.doc HS.out (F1 := G) (now1 := Sh.ins now a n) (was1 := was) (f := 30) (args := #[.pointer (some ⟨gk, 0, none⟩), .agg #[.int .i64 (a : Int), .int .i64 (n : Int)]]) (Q := fun e => e = .returned (.bool true)) (fun sr hB => by
            have h := sadd_any sr hB (a : Int) (n : Int) (by rw [ST.out.2.1]; exact ST.out.2.2.few)
            rw [ST.out.2.1] at h
            exact h.mono fun e w' ⟨h1, h2, h3⟩ => ⟨h1, h2, h3.mono fun b hb => .inl hb⟩))
          clear t7 N3
          go_wp2_with fail
          refine N4.out.mono ?_
          rintro e w8 ⟨rfl, tq, -⟩
          have M1 := Lib.hid (shsame_any HS.out tq)
          clear tq N4
          go_wp2_with fail
          refine M1.out.mono ?_
          rintro e wa ⟨rfl, ta⟩
          have M2 := Lib.hid (ta.same11 HC.out HS.out)
          clear ta M1
          go_wp2_with fail
          refine M2.out.mono ?_
          rintro e wb ⟨rfl, tbb⟩
          have Fn := Lib.hid (show PlS RepB B g gs gm gb gk (j + 1) w _ from ⟨G, Sh.ins now a n, was, HF2.out, HCap.out.ins (a := a) (n := n) (by omega) (by omega), hcap2.more (by omega), tbb⟩)
          clear tbb M2
          go_wp2_with fail
          go_roundw
          case rel => exact ⟨j + 1, by go_num, by omega, Fn.out⟩
          case measure => simp [intOf]; omega
        · have N := TB.out.map HS.out (by rw [ht]; exact TB.out.far.st) (fun X hr => HC.out.take hr (n : Int) (by unfold I64; omega))
          rw [ht] at N
          dsimp only at N
          have N1 := Lib.hid N
          have HT := Lib.hid ht
          clear N ht
          go_wp2_with fail
          refine N1.out.mono ?_
          rintro e w5 ⟨rfl, t5, -⟩
          have N2 := Lib.hid (t5.doc HS.out (F1 := F) (now1 := now) (was1 := was) (f := 16) (args := #[.pointer (some ⟨gm, 0, none⟩), .int .i64 (n : Int)]) (Q := fun e => e = .returned (.tuple #[.int .i64 ((0 : Nat) : Int), .bool false])) (fun sr _ => by
            have h := rtake_any sr.map (n : Int)
            rw [HT.out] at h
            exact h.mono fun e w' ⟨h1, h2, h3⟩ => ⟨h1, sr.mapR h2 h3, h3.mono fun b hb => .inr hb⟩))
          clear t5 N1
          go_wp2_with fail
          refine N2.out.mono ?_
          rintro e w6 ⟨rfl, tq, -⟩
          have M1 := Lib.hid (shsame_any HS.out tq)
          clear tq N2
          go_wp2_with fail
          refine M1.out.mono ?_
          rintro e wa ⟨rfl, ta⟩
          have M2 := Lib.hid (ta.same11 HC.out HS.out)
          clear ta M1
          go_wp2_with fail
          refine M2.out.mono ?_
          rintro e wb ⟨rfl, tbb⟩
          have Fn := Lib.hid (show PlS RepB B g gs gm gb gk (j + 1) w _ from ⟨F, now, was, hF, hcap.more (by omega), hcap2.more (by omega), tbb⟩)
          clear tbb M2
          go_wp2_with fail
          go_roundw
          case rel => exact ⟨j + 1, by go_num, by omega, Fn.out⟩
          case measure => simp [intOf]; omega
      by_cases hx1 : x = 1
      · as_aux_lemma =>
        subst hx1
        obtain ⟨t, ht3⟩ : ∃ t, t = (z % 4).toNat := ⟨_, rfl⟩
        have ha3 : bits BinOp.and IntKind.i64 z 3 = (t : Int) := by rw [and3_i64 z T1.out, ht3]
        have ht4 : t < 4 := by omega
        obtain ⟨n, hn⟩ : ∃ n, n = 1 + t := ⟨_, rfl⟩
        have hsum : (1 : Int) + (t : Int) = (n : Int) := by omega
        have hnn : 1 ≤ n := by omega
        have hn4 : n ≤ 4 := by omega
        clear hn ht3
        rcases Sh.take_some (F := F) hnn with ⟨a, ht, haf, hfree⟩ | ht
        · have st := shst_taken TB.out.far.st hnn haf (by omega) (by have := hcap.1; omega) hfree
          have hF2 : (Rn.setN F a false n).length = 40 := by rw [Rn.setN_len]; exact hF
          have N := TB.out.map HS.out (by rw [ht]; exact st.1) (fun X hr => HC.out.take hr (n : Int) (by unfold I64; omega))
          rw [ht] at N
          dsimp only at N
          have ha60 : a ≤ 40 := by omega
          generalize Rn.setN F a false n = G at *
          have N1 := Lib.hid N
          have ST := Lib.hid st
          have HT := Lib.hid ht
          have HCap := Lib.hid hcap
          have HF2 := Lib.hid hF2
          clear st N ht hcap hfree haf hF hF2
          go_wp2_with fail
          refine N1.out.mono ?_
          rintro e w5 ⟨rfl, t5, -⟩
          have N2 := Lib.hid (t5.doc HS.out (F1 := G) (now1 := now) (was1 := was) (f := 16) (args := #[.pointer (some ⟨gm, 0, none⟩), .int .i64 (n : Int)]) (Q := fun e => e = .returned (.tuple #[.int .i64 (a : Int), .bool true])) (fun sr _ => by
            have h := rtake_any sr.map (n : Int)
            rw [HT.out] at h
            exact h.mono fun e w' ⟨h1, h2, h3⟩ => ⟨h1, sr.mapR h2 h3, h3.mono fun b hb => .inr hb⟩))
          clear t5 N1
          go_wp2_with fail
          refine N2.out.mono ?_
          rintro e w6 ⟨rfl, t6, -⟩
          have N := t6.prog HS.out (F1 := G) (now1 := (Sh.add now (a : Int) (n : Int)).2) (was1 := was) (by rw [ST.out.2.1]; exact ST.out.2.2) (fun X hr => HS.out.add hr t6.far.st (a : Int) (n : Int) (by unfold I64; omega) (by unfold I64; omega) (by rw [ST.out.2.1]; exact ST.out.2.2.few))
          rw [ST.out.2.1] at N
          have N3 := Lib.hid N
          clear N t6 N2
          go_wp2_with fail
          refine N3.out.mono ?_
          rintro e w7 ⟨rfl, t7, -⟩
          have N4 := Lib.hid (t7.doc HS.out (F1 := G) (now1 := Sh.ins now a n) (was1 := was) (f := 30) (args := #[.pointer (some ⟨gk, 0, none⟩), .agg #[.int .i64 (a : Int), .int .i64 (n : Int)]]) (Q := fun e => e = .returned (.bool true)) (fun sr hB => by
            have h := sadd_any sr hB (a : Int) (n : Int) (by rw [ST.out.2.1]; exact ST.out.2.2.few)
            rw [ST.out.2.1] at h
            exact h.mono fun e w' ⟨h1, h2, h3⟩ => ⟨h1, h2, h3.mono fun b hb => .inl hb⟩))
          clear t7 N3
          go_wp2_with fail
          refine N4.out.mono ?_
          rintro e w8 ⟨rfl, tq, -⟩
          have M1 := Lib.hid (shsame_any HS.out tq)
          clear tq N4
          go_wp2_with fail
          refine M1.out.mono ?_
          rintro e wa ⟨rfl, ta⟩
          have M2 := Lib.hid (ta.same11 HC.out HS.out)
          clear ta M1
          go_wp2_with fail
          refine M2.out.mono ?_
          rintro e wb ⟨rfl, tbb⟩
          have Fn := Lib.hid (show PlS RepB B g gs gm gb gk (j + 1) w _ from ⟨G, Sh.ins now a n, was, HF2.out, HCap.out.ins (a := a) (n := n) (by omega) (by omega), hcap2.more (by omega), tbb⟩)
          clear tbb M2
          go_wp2_with fail
          go_roundw
          case rel => exact ⟨j + 1, by go_num, by omega, Fn.out⟩
          case measure => simp [intOf]; omega
        · have N := TB.out.map HS.out (by rw [ht]; exact TB.out.far.st) (fun X hr => HC.out.take hr (n : Int) (by unfold I64; omega))
          rw [ht] at N
          dsimp only at N
          have N1 := Lib.hid N
          have HT := Lib.hid ht
          clear N ht
          go_wp2_with fail
          refine N1.out.mono ?_
          rintro e w5 ⟨rfl, t5, -⟩
          have N2 := Lib.hid (t5.doc HS.out (F1 := F) (now1 := now) (was1 := was) (f := 16) (args := #[.pointer (some ⟨gm, 0, none⟩), .int .i64 (n : Int)]) (Q := fun e => e = .returned (.tuple #[.int .i64 ((0 : Nat) : Int), .bool false])) (fun sr _ => by
            have h := rtake_any sr.map (n : Int)
            rw [HT.out] at h
            exact h.mono fun e w' ⟨h1, h2, h3⟩ => ⟨h1, sr.mapR h2 h3, h3.mono fun b hb => .inr hb⟩))
          clear t5 N1
          go_wp2_with fail
          refine N2.out.mono ?_
          rintro e w6 ⟨rfl, tq, -⟩
          have M1 := Lib.hid (shsame_any HS.out tq)
          clear tq N2
          go_wp2_with fail
          refine M1.out.mono ?_
          rintro e wa ⟨rfl, ta⟩
          have M2 := Lib.hid (ta.same11 HC.out HS.out)
          clear ta M1
          go_wp2_with fail
          refine M2.out.mono ?_
          rintro e wb ⟨rfl, tbb⟩
          have Fn := Lib.hid (show PlS RepB B g gs gm gb gk (j + 1) w _ from ⟨F, now, was, hF, hcap.more (by omega), hcap2.more (by omega), tbb⟩)
          clear tbb M2
          go_wp2_with fail
          go_roundw
          case rel => exact ⟨j + 1, by go_num, by omega, Fn.out⟩
          case measure => simp [intOf]; omega
      by_cases hx2 : x = 2
      · as_aux_lemma =>
        subst hx2
        obtain ⟨t, ht3⟩ : ∃ t, t = (z % 4).toNat := ⟨_, rfl⟩
        have ha3 : bits BinOp.and IntKind.i64 z 3 = (t : Int) := by rw [and3_i64 z T1.out, ht3]
        have ht4 : t < 4 := by omega
        obtain ⟨n, hn⟩ : ∃ n, n = 1 + t := ⟨_, rfl⟩
        have hsum : (1 : Int) + (t : Int) = (n : Int) := by omega
        have hnn : 1 ≤ n := by omega
        have hn4 : n ≤ 4 := by omega
        clear hn ht3
        rcases Sh.take_some (F := F) hnn with ⟨a, ht, haf, hfree⟩ | ht
        · have st := shst_taken TB.out.far.st hnn haf (by omega) (by have := hcap.1; omega) hfree
          have hF2 : (Rn.setN F a false n).length = 40 := by rw [Rn.setN_len]; exact hF
          have N := TB.out.map HS.out (by rw [ht]; exact st.1) (fun X hr => HC.out.take hr (n : Int) (by unfold I64; omega))
          rw [ht] at N
          dsimp only at N
          have ha60 : a ≤ 40 := by omega
          generalize Rn.setN F a false n = G at *
          have N1 := Lib.hid N
          have ST := Lib.hid st
          have HT := Lib.hid ht
          have HCap := Lib.hid hcap
          have HF2 := Lib.hid hF2
          clear st N ht hcap hfree haf hF hF2
          go_wp2_with fail
          refine N1.out.mono ?_
          rintro e w5 ⟨rfl, t5, -⟩
          have N2 := Lib.hid (t5.doc HS.out (F1 := G) (now1 := now) (was1 := was) (f := 16) (args := #[.pointer (some ⟨gm, 0, none⟩), .int .i64 (n : Int)]) (Q := fun e => e = .returned (.tuple #[.int .i64 (a : Int), .bool true])) (fun sr _ => by
            have h := rtake_any sr.map (n : Int)
            rw [HT.out] at h
            exact h.mono fun e w' ⟨h1, h2, h3⟩ => ⟨h1, sr.mapR h2 h3, h3.mono fun b hb => .inr hb⟩))
          clear t5 N1
          go_wp2_with fail
          refine N2.out.mono ?_
          rintro e w6 ⟨rfl, t6, -⟩
          have N := t6.prog HS.out (F1 := G) (now1 := (Sh.add now (a : Int) (n : Int)).2) (was1 := was) (by rw [ST.out.2.1]; exact ST.out.2.2) (fun X hr => HS.out.add hr t6.far.st (a : Int) (n : Int) (by unfold I64; omega) (by unfold I64; omega) (by rw [ST.out.2.1]; exact ST.out.2.2.few))
          rw [ST.out.2.1] at N
          have N3 := Lib.hid N
          clear N t6 N2
          go_wp2_with fail
          refine N3.out.mono ?_
          rintro e w7 ⟨rfl, t7, -⟩
          have N4 := Lib.hid (t7.doc HS.out (F1 := G) (now1 := Sh.ins now a n) (was1 := was) (f := 30) (args := #[.pointer (some ⟨gk, 0, none⟩), .agg #[.int .i64 (a : Int), .int .i64 (n : Int)]]) (Q := fun e => e = .returned (.bool true)) (fun sr hB => by
            have h := sadd_any sr hB (a : Int) (n : Int) (by rw [ST.out.2.1]; exact ST.out.2.2.few)
            rw [ST.out.2.1] at h
            exact h.mono fun e w' ⟨h1, h2, h3⟩ => ⟨h1, h2, h3.mono fun b hb => .inl hb⟩))
          clear t7 N3
          go_wp2_with fail
          refine N4.out.mono ?_
          rintro e w8 ⟨rfl, tq, -⟩
          have M1 := Lib.hid (shsame_any HS.out tq)
          clear tq N4
          go_wp2_with fail
          refine M1.out.mono ?_
          rintro e wa ⟨rfl, ta⟩
          have M2 := Lib.hid (ta.same11 HC.out HS.out)
          clear ta M1
          go_wp2_with fail
          refine M2.out.mono ?_
          rintro e wb ⟨rfl, tbb⟩
          have Fn := Lib.hid (show PlS RepB B g gs gm gb gk (j + 1) w _ from ⟨G, Sh.ins now a n, was, HF2.out, HCap.out.ins (a := a) (n := n) (by omega) (by omega), hcap2.more (by omega), tbb⟩)
          clear tbb M2
          go_wp2_with fail
          go_roundw
          case rel => exact ⟨j + 1, by go_num, by omega, Fn.out⟩
          case measure => simp [intOf]; omega
        · have N := TB.out.map HS.out (by rw [ht]; exact TB.out.far.st) (fun X hr => HC.out.take hr (n : Int) (by unfold I64; omega))
          rw [ht] at N
          dsimp only at N
          have N1 := Lib.hid N
          have HT := Lib.hid ht
          clear N ht
          go_wp2_with fail
          refine N1.out.mono ?_
          rintro e w5 ⟨rfl, t5, -⟩
          have N2 := Lib.hid (t5.doc HS.out (F1 := F) (now1 := now) (was1 := was) (f := 16) (args := #[.pointer (some ⟨gm, 0, none⟩), .int .i64 (n : Int)]) (Q := fun e => e = .returned (.tuple #[.int .i64 ((0 : Nat) : Int), .bool false])) (fun sr _ => by
            have h := rtake_any sr.map (n : Int)
            rw [HT.out] at h
            exact h.mono fun e w' ⟨h1, h2, h3⟩ => ⟨h1, sr.mapR h2 h3, h3.mono fun b hb => .inr hb⟩))
          clear t5 N1
          go_wp2_with fail
          refine N2.out.mono ?_
          rintro e w6 ⟨rfl, tq, -⟩
          have M1 := Lib.hid (shsame_any HS.out tq)
          clear tq N2
          go_wp2_with fail
          refine M1.out.mono ?_
          rintro e wa ⟨rfl, ta⟩
          have M2 := Lib.hid (ta.same11 HC.out HS.out)
          clear ta M1
          go_wp2_with fail
          refine M2.out.mono ?_
          rintro e wb ⟨rfl, tbb⟩
          have Fn := Lib.hid (show PlS RepB B g gs gm gb gk (j + 1) w _ from ⟨F, now, was, hF, hcap.more (by omega), hcap2.more (by omega), tbb⟩)
          clear tbb M2
          go_wp2_with fail
          go_roundw
          case rel => exact ⟨j + 1, by go_num, by omega, Fn.out⟩
          case measure => simp [intOf]; omega
      by_cases hx3 : x = 3
      · as_aux_lemma =>
        subst hx3
        have uok : UOk (Sh.change now y true).2 := (hcap.change y true).uok (by omega)
        have UOK := Lib.hid uok
        have cap2 := hcap.change y true
        have N := TB.out.drew HS.out |>.prog HS.out (F1 := F) (now1 := (Sh.change now y true).2) (was1 := was) ⟨TB.out.far.st.ok.change y true, uok, TB.out.far.st.few2⟩ (fun X hr => HS.out.more hr TB.out.far.st y T0.out uok)
        have N1 := Lib.hid N
        have N2 := Lib.hid (fun X (h : Twin RepB B g gs gm gb gk F (Sh.change now y true).2 was F now was w X) => h.doc HS.out (F1 := F) (now1 := (Sh.change now y true).2) (was1 := was) (f := 32) (args := #[.pointer (some ⟨gk, 0, none⟩), .int .i64 y]) (Q := fun e => e = .returned (.bool (Sh.change now y true).1)) (fun sr hB => (smore_any sr hB y UOK.out).mono fun e w' ⟨h1, h2, h3⟩ => ⟨h1, h2, h3.mono fun b hb => .inl hb⟩))
        have hku : KeepU W1 W1.drew := fun _ _ _ _ _ => rfl
        clear N uok
        generalize hnw : (Sh.change now y true).2 = now1 at *
        generalize (Sh.change now y true).1 = ok at *
        clear hnw
        go_wp2_with fail
        go_region_held_law (fun X => X.cell? ⟨d, 1, none⟩ = some (.int .i64 y)) (first | exact (KD.out _ hku).1 | exact t1) (first
          | (go_at_call 31; (refine N1.out.mono ?_); rintro e w5 ⟨rfl, t5, hk5⟩; have hku : KeepU W1 w5 := (fun b cs t ht hb => hk5 b cs t ht hb))
          | (go_at_call 32; (refine (N2.out _ t5).mono ?_); rintro e w6 ⟨rfl, tq, hk6⟩; have hku : KeepU W1 w6 := (fun b cs t ht hb => (hk6 b cs t ht (Blk.keep hb (hku b cs t ht hb))).trans (hku b cs t ht hb))))
        all_goals
          have TQ := Lib.hid tq
          clear t5 hk5 hk6 hku tq
          have tq := TQ.out
          clear TQ
          cases ok
          all_goals
            have M1 := Lib.hid (shsame_any HS.out tq)
            clear tq N1 N2
            go_wp2_with fail
            refine M1.out.mono ?_
            rintro e wa ⟨rfl, ta⟩
            have M2 := Lib.hid (ta.same11 HC.out HS.out)
            clear ta M1
            go_wp2_with fail
            refine M2.out.mono ?_
            rintro e wb ⟨rfl, tbb⟩
            have Fn := Lib.hid (show PlS RepB B g gs gm gb gk (j + 1) w _ from ⟨F, now1, was, hF, cap2, hcap2.more (by omega), tbb⟩)
            clear tbb M2
            go_wp2_with fail
            go_roundw
            case rel => exact ⟨j + 1, by go_num, by omega, Fn.out⟩
            case measure => simp [intOf]; omega
      by_cases hx4 : x = 4
      · as_aux_lemma =>
        subst hx4
        have uok : UOk (Sh.change now y false).2 := (hcap.change y false).uok (by omega)
        have UOK := Lib.hid uok
        have cap2 := hcap.change y false
        have N := TB.out.drew HS.out |>.prog HS.out (F1 := F) (now1 := (Sh.change now y false).2) (was1 := was) ⟨TB.out.far.st.ok.change y false, uok, TB.out.far.st.few2⟩ (fun X hr => HS.out.less hr TB.out.far.st y T0.out uok)
        have N1 := Lib.hid N
        have N2 := Lib.hid (fun X (h : Twin RepB B g gs gm gb gk F (Sh.change now y false).2 was F now was w X) => h.doc HS.out (F1 := F) (now1 := (Sh.change now y false).2) (was1 := was) (f := 34) (args := #[.pointer (some ⟨gk, 0, none⟩), .int .i64 y]) (Q := fun e => e = .returned (.bool (Sh.change now y false).1)) (fun sr hB => (sless_any sr hB y UOK.out).mono fun e w' ⟨h1, h2, h3⟩ => ⟨h1, h2, h3.mono fun b hb => .inl hb⟩))
        have hku : KeepU W1 W1.drew := fun _ _ _ _ _ => rfl
        clear N uok
        generalize hnw : (Sh.change now y false).2 = now1 at *
        generalize (Sh.change now y false).1 = ok at *
        clear hnw
        go_wp2_with fail
        go_region_held_law (fun X => X.cell? ⟨d, 1, none⟩ = some (.int .i64 y)) (first | exact (KD.out _ hku).1 | exact t1) (first
          | (go_at_call 33; (refine N1.out.mono ?_); rintro e w5 ⟨rfl, t5, hk5⟩; have hku : KeepU W1 w5 := (fun b cs t ht hb => hk5 b cs t ht hb))
          | (go_at_call 34; (refine (N2.out _ t5).mono ?_); rintro e w6 ⟨rfl, tq, hk6⟩; have hku : KeepU W1 w6 := (fun b cs t ht hb => (hk6 b cs t ht (Blk.keep hb (hku b cs t ht hb))).trans (hku b cs t ht hb))))
        all_goals
          have TQ := Lib.hid tq
          clear t5 hk5 hk6 hku tq
          have tq := TQ.out
          clear TQ
          cases ok
          all_goals
            have M1 := Lib.hid (shsame_any HS.out tq)
            clear tq N1 N2
            go_wp2_with fail
            refine M1.out.mono ?_
            rintro e wa ⟨rfl, ta⟩
            have M2 := Lib.hid (ta.same11 HC.out HS.out)
            clear ta M1
            go_wp2_with fail
            refine M2.out.mono ?_
            rintro e wb ⟨rfl, tbb⟩
            have Fn := Lib.hid (show PlS RepB B g gs gm gb gk (j + 1) w _ from ⟨F, now1, was, hF, cap2, hcap2.more (by omega), tbb⟩)
            clear tbb M2
            go_wp2_with fail
            go_roundw
            case rel => exact ⟨j + 1, by go_num, by omega, Fn.out⟩
            case measure => simp [intOf]; omega
      by_cases hx5 : x = 5
      · as_aux_lemma =>
        subst hx5
        have uok : UOk (Sh.change now y false).2 := (hcap.change y false).uok (by omega)
        have UOK := Lib.hid uok
        have cap2 := hcap.change y false
        have N := TB.out.drew HS.out |>.prog HS.out (F1 := F) (now1 := (Sh.change now y false).2) (was1 := was) ⟨TB.out.far.st.ok.change y false, uok, TB.out.far.st.few2⟩ (fun X hr => HS.out.less hr TB.out.far.st y T0.out uok)
        have N1 := Lib.hid N
        have N2 := Lib.hid (fun X (h : Twin RepB B g gs gm gb gk F (Sh.change now y false).2 was F now was w X) => h.doc HS.out (F1 := F) (now1 := (Sh.change now y false).2) (was1 := was) (f := 34) (args := #[.pointer (some ⟨gk, 0, none⟩), .int .i64 y]) (Q := fun e => e = .returned (.bool (Sh.change now y false).1)) (fun sr hB => (sless_any sr hB y UOK.out).mono fun e w' ⟨h1, h2, h3⟩ => ⟨h1, h2, h3.mono fun b hb => .inl hb⟩))
        have hku : KeepU W1 W1.drew := fun _ _ _ _ _ => rfl
        clear N uok
        generalize hnw : (Sh.change now y false).2 = now1 at *
        generalize (Sh.change now y false).1 = ok at *
        clear hnw
        go_wp2_with fail
        go_region_held_law (fun X => X.cell? ⟨d, 1, none⟩ = some (.int .i64 y)) (first | exact (KD.out _ hku).1 | exact t1) (first
          | (go_at_call 33; (refine N1.out.mono ?_); rintro e w5 ⟨rfl, t5, hk5⟩; have hku : KeepU W1 w5 := (fun b cs t ht hb => hk5 b cs t ht hb))
          | (go_at_call 34; (refine (N2.out _ t5).mono ?_); rintro e w6 ⟨rfl, tq, hk6⟩; have hku : KeepU W1 w6 := (fun b cs t ht hb => (hk6 b cs t ht (Blk.keep hb (hku b cs t ht hb))).trans (hku b cs t ht hb))))
        all_goals
          have TQ := Lib.hid tq
          clear t5 hk5 hk6 hku tq
          have tq := TQ.out
          clear TQ
          cases ok
          all_goals
            have M1 := Lib.hid (shsame_any HS.out tq)
            clear tq N1 N2
            go_wp2_with fail
            refine M1.out.mono ?_
            rintro e wa ⟨rfl, ta⟩
            have M2 := Lib.hid (ta.same11 HC.out HS.out)
            clear ta M1
            go_wp2_with fail
            refine M2.out.mono ?_
            rintro e wb ⟨rfl, tbb⟩
            have Fn := Lib.hid (show PlS RepB B g gs gm gb gk (j + 1) w _ from ⟨F, now1, was, hF, cap2, hcap2.more (by omega), tbb⟩)
            clear tbb M2
            go_wp2_with fail
            go_roundw
            case rel => exact ⟨j + 1, by go_num, by omega, Fn.out⟩
            case measure => simp [intOf]; omega
      by_cases hx6 : x = 6
      · as_aux_lemma =>
        subst hx6
        have N1 := Lib.hid (TB.out.prog HS.out (F1 := Sh.giveAll F (Sh.lates now)) (now1 := Sh.used now) (was1 := Sh.used now) ⟨TB.out.far.st.ok.settle, TB.out.far.st.few.sub List.filter_sublist, TB.out.far.st.few.sub List.filter_sublist⟩ (fun X hr => HS.out.settle hr TB.out.far.st))
        have hF2 : (Sh.giveAll F (Sh.lates now)).length = 40 := by rw [(Sh.giveAll_at (TB.out.far.st.ok.heldL (l := Sh.lates now) List.filter_sublist)).1, hF]
        have cu : Cap j (Sh.used now) := hcap.sub List.filter_sublist
        obtain ⟨bl, hbl⟩ : ∃ bl, bl = Sh.blocks (Sh.lates now) := ⟨_, rfl⟩
        rw [← hbl] at N1
        have HBL := Lib.hid hbl
        clear hbl
        go_wp2_with fail
        refine N1.out.mono ?_
        rintro e w5 ⟨rfl, t5, -⟩
        have N2 := Lib.hid (t5.doc HS.out (F1 := Sh.giveAll F (Sh.lates now)) (now1 := Sh.used now) (was1 := Sh.used now) (f := 36) (args := #[.pointer (some ⟨gk, 0, none⟩)]) (Q := fun e => e = .returned (.int .i64 (bl : Int))) (fun sr hB => (ssettle_any sr hB).mono fun e w' ⟨h1, h2, h3⟩ => ⟨by rw [HBL.out]; exact h1, h2, h3⟩))
        clear t5 N1
        go_wp2_with fail
        refine N2.out.mono ?_
        rintro e w6 ⟨rfl, tq, -⟩
        have M1 := Lib.hid (shsame_any HS.out tq)
        clear tq N2
        go_wp2_with fail
        refine M1.out.mono ?_
        rintro e wa ⟨rfl, ta⟩
        have M2 := Lib.hid (ta.same11 HC.out HS.out)
        clear ta M1
        go_wp2_with fail
        refine M2.out.mono ?_
        rintro e wb ⟨rfl, tbb⟩
        have Fn := Lib.hid (show PlS RepB B g gs gm gb gk (j + 1) w _ from ⟨_, _, _, hF2, cu.more (by omega), cu.more (by omega), tbb⟩)
        clear tbb M2
        go_wp2_with fail
        go_roundw
        case rel => exact ⟨j + 1, by go_num, by omega, Fn.out⟩
        case measure => simp [intOf]; omega
      by_cases hx7 : x = 7
      · as_aux_lemma =>
        subst hx7
        have N1 := Lib.hid (TB.out.prog HS.out (F1 := Sh.giveAll F (Sh.news now was)) (now1 := was) (was1 := was) ⟨TB.out.far.st.ok.back, TB.out.far.st.few2, TB.out.far.st.few2⟩ (fun X hr => HS.out.back hr TB.out.far.st))
        have hF2 : (Sh.giveAll F (Sh.news now was)).length = 40 := by rw [(Sh.giveAll_at (TB.out.far.st.ok.heldL (l := Sh.news now was) List.filter_sublist)).1, hF]
        go_wp2_with fail
        refine N1.out.mono ?_
        rintro e w5 ⟨rfl, t5, -⟩
        have N2 := Lib.hid (t5.doc HS.out (F1 := Sh.giveAll F (Sh.news now was)) (now1 := was) (was1 := was) (f := 38) (args := #[.pointer (some ⟨gk, 0, none⟩)]) (Q := fun e => e = .returned (.tuple #[])) (fun sr hB => sback_any sr hB))
        clear t5 N1
        go_wp2_with fail
        refine N2.out.mono ?_
        rintro e w6 ⟨rfl, tq, -⟩
        have M1 := Lib.hid (shsame_any HS.out tq)
        clear tq N2
        go_wp2_with fail
        refine M1.out.mono ?_
        rintro e wa ⟨rfl, ta⟩
        have M2 := Lib.hid (ta.same11 HC.out HS.out)
        clear ta M1
        go_wp2_with fail
        refine M2.out.mono ?_
        rintro e wb ⟨rfl, tbb⟩
        have Fn := Lib.hid (show PlS RepB B g gs gm gb gk (j + 1) w _ from ⟨_, _, _, hF2, hcap2.more (by omega), hcap2.more (by omega), tbb⟩)
        clear tbb M2
        go_wp2_with fail
        go_roundw
        case rel => exact ⟨j + 1, by go_num, by omega, Fn.out⟩
        case measure => simp [intOf]; omega
      by_cases hx8 : x = 8
      · as_aux_lemma =>
        subst hx8
        by_cases hz : 0 < z
        · have zz : decide (0 < z) = true := by rw [decide_eq_true_eq]; exact hz
          by_cases hy : 0 ≤ y
          · have zy : decide (0 ≤ y) = true := by rw [decide_eq_true_eq]; exact hy
            have N0 := Lib.hid (suses_any TB.out.ref y)
            cases hu : Sh.uses now y with
            | zero =>
              rw [hu] at N0
              have Fn := Lib.hid (show PlS RepB B g gs gm gb gk (j + 1) w _ from ⟨F, now, was, hF, hcap.more (by omega), hcap2.more (by omega), TB.out⟩)
              go_wp2_with fail
              refine N0.out.mono ?_
              rintro e w5 ⟨rfl, rfl⟩
              go_wp2_with fail
              go_roundw
              case rel => exact ⟨j + 1, by go_num, by omega, Fn.out⟩
              case measure => simp [intOf]; omega
            | succ u =>
              have hi0 : 0 ≤ Sh.idxV now y := by
                unfold Sh.uses at hu
                unfold Sh.idxV
                cases hi : Sh.idx now y with
                | none => rw [hi] at hu; cases hu
                | some k => show (0 : Int) ≤ (k : Int); omega
              have hadd : Sh.add now y z = (false, now) := by
                unfold Sh.add
                rw [if_pos (.inr (.inr hi0))]
              clear hi0
              obtain ⟨v, hv⟩ : ∃ v, v = u + 1 := ⟨_, rfl⟩
              rw [hu, ← hv] at N0
              have zv : ((v : Int) == 0) = false := by rw [beq_eq_false_iff_ne]; omega
              have zv' : (v == 0) = false := by rw [beq_eq_false_iff_ne]; omega
              clear hu hv
              have ADD := Lib.hid hadd
              have N1 := Lib.hid ((TB.out.drew HS.out).prog HS.out (F1 := F) (now1 := (Sh.add now y z).2) (was1 := was) (by rw [hadd]; exact TB.out.far.st) (fun X hr => HS.out.add hr TB.out.far.st y z T0.out T1.out (by rw [hadd]; exact TB.out.far.st.few)))
              have N1 := N1.out
              rw [hadd] at N1
              have N1 := Lib.hid N1
              have N2 := Lib.hid (fun X (h : Twin RepB B g gs gm gb gk F now was F now was w X) => h.doc HS.out (F1 := F) (now1 := now) (was1 := was) (f := 30) (args := #[.pointer (some ⟨gk, 0, none⟩), .agg #[.int .i64 y, .int .i64 z]]) (Q := fun e => e = .returned (.bool false)) (fun sr hB => by
                have h := sadd_any sr hB y z (by rw [ADD.out]; exact sr.ok)
                rw [ADD.out] at h
                exact h.mono fun e w' ⟨h1, h2, h3⟩ => ⟨h1, h2, h3.mono fun b hb => .inl hb⟩))
              have hku : KeepU W1 W1.drew := fun _ _ _ _ _ => rfl
              clear hadd
              go_wp2_with fail
              refine N0.out.mono ?_
              rintro e w5 ⟨rfl, rfl⟩
              go_wp2_with fail
              go_region_held_law (fun X => X.cell? ⟨d, 1, none⟩ = some (.int .i64 y) ∧ X.cell? ⟨d, 2, none⟩ = some (.int .i64 z)) (first | exact KD.out _ hku | exact ⟨t1, t2⟩) (first
                | (go_at_call 29; (refine N1.out.mono ?_); rintro e w5 ⟨rfl, t5, hk5⟩; have hku : KeepU W1 w5 := (fun b cs t ht hb => hk5 b cs t ht hb))
                | (go_at_call 30; (refine (N2.out _ t5).mono ?_); rintro e w6 ⟨rfl, tq, hk6⟩; have hku : KeepU W1 w6 := (fun b cs t ht hb => (hk6 b cs t ht (Blk.keep hb (hku b cs t ht hb))).trans (hku b cs t ht hb))))
              all_goals
                have TQ := Lib.hid tq
                clear t5 hk5 hk6 hku tq
                have tq := TQ.out
                clear TQ
                have M1 := Lib.hid (shsame_any HS.out tq)
                clear tq N1 N2
                go_wp2_with fail
                refine M1.out.mono ?_
                rintro e wa ⟨rfl, ta⟩
                have M2 := Lib.hid (ta.same11 HC.out HS.out)
                clear ta M1
                go_wp2_with fail
                refine M2.out.mono ?_
                rintro e wb ⟨rfl, tbb⟩
                have Fn := Lib.hid (show PlS RepB B g gs gm gb gk (j + 1) w _ from ⟨F, now, was, hF, hcap.more (by omega), hcap2.more (by omega), tbb⟩)
                clear tbb M2
                go_wp2_with fail
                go_roundw
                case rel => exact ⟨j + 1, by go_num, by omega, Fn.out⟩
                case measure => simp [intOf]; omega
          · have zy : decide (0 ≤ y) = false := by rw [decide_eq_false_iff_not]; exact hy
            have hadd := Sh.add_bad now (a := y) (n := z) (by omega)
            have ADD := Lib.hid hadd
            have N1 := Lib.hid ((TB.out.drew HS.out).prog HS.out (F1 := F) (now1 := (Sh.add now y z).2) (was1 := was) (by rw [hadd]; exact TB.out.far.st) (fun X hr => HS.out.add hr TB.out.far.st y z T0.out T1.out (by rw [hadd]; exact TB.out.far.st.few)))
            have N1 := N1.out
            rw [hadd] at N1
            have N1 := Lib.hid N1
            have N2 := Lib.hid (fun X (h : Twin RepB B g gs gm gb gk F now was F now was w X) => h.doc HS.out (F1 := F) (now1 := now) (was1 := was) (f := 30) (args := #[.pointer (some ⟨gk, 0, none⟩), .agg #[.int .i64 y, .int .i64 z]]) (Q := fun e => e = .returned (.bool false)) (fun sr hB => by
              have h := sadd_any sr hB y z (by rw [ADD.out]; exact sr.ok)
              rw [ADD.out] at h
              exact h.mono fun e w' ⟨h1, h2, h3⟩ => ⟨h1, h2, h3.mono fun b hb => .inl hb⟩))
            have hku : KeepU W1 W1.drew := fun _ _ _ _ _ => rfl
            clear hadd
            go_wp2_with fail
            go_region_held_law (fun X => X.cell? ⟨d, 1, none⟩ = some (.int .i64 y) ∧ X.cell? ⟨d, 2, none⟩ = some (.int .i64 z)) (first | exact KD.out _ hku | exact ⟨t1, t2⟩) (first
              | (go_at_call 29; (refine N1.out.mono ?_); rintro e w5 ⟨rfl, t5, hk5⟩; have hku : KeepU W1 w5 := (fun b cs t ht hb => hk5 b cs t ht hb))
              | (go_at_call 30; (refine (N2.out _ t5).mono ?_); rintro e w6 ⟨rfl, tq, hk6⟩; have hku : KeepU W1 w6 := (fun b cs t ht hb => (hk6 b cs t ht (Blk.keep hb (hku b cs t ht hb))).trans (hku b cs t ht hb))))
            all_goals
              have TQ := Lib.hid tq
              clear t5 hk5 hk6 hku tq
              have tq := TQ.out
              clear TQ
              have M1 := Lib.hid (shsame_any HS.out tq)
              clear tq N1 N2
              go_wp2_with fail
              refine M1.out.mono ?_
              rintro e wa ⟨rfl, ta⟩
              have M2 := Lib.hid (ta.same11 HC.out HS.out)
              clear ta M1
              go_wp2_with fail
              refine M2.out.mono ?_
              rintro e wb ⟨rfl, tbb⟩
              have Fn := Lib.hid (show PlS RepB B g gs gm gb gk (j + 1) w _ from ⟨F, now, was, hF, hcap.more (by omega), hcap2.more (by omega), tbb⟩)
              clear tbb M2
              go_wp2_with fail
              go_roundw
              case rel => exact ⟨j + 1, by go_num, by omega, Fn.out⟩
              case measure => simp [intOf]; omega
        · have zz : decide (0 < z) = false := by rw [decide_eq_false_iff_not]; exact hz
          have hadd := Sh.add_bad now (a := y) (n := z) (by omega)
          have ADD := Lib.hid hadd
          have N1 := Lib.hid ((TB.out.drew HS.out).prog HS.out (F1 := F) (now1 := (Sh.add now y z).2) (was1 := was) (by rw [hadd]; exact TB.out.far.st) (fun X hr => HS.out.add hr TB.out.far.st y z T0.out T1.out (by rw [hadd]; exact TB.out.far.st.few)))
          have N1 := N1.out
          rw [hadd] at N1
          have N1 := Lib.hid N1
          have N2 := Lib.hid (fun X (h : Twin RepB B g gs gm gb gk F now was F now was w X) => h.doc HS.out (F1 := F) (now1 := now) (was1 := was) (f := 30) (args := #[.pointer (some ⟨gk, 0, none⟩), .agg #[.int .i64 y, .int .i64 z]]) (Q := fun e => e = .returned (.bool false)) (fun sr hB => by
            have h := sadd_any sr hB y z (by rw [ADD.out]; exact sr.ok)
            rw [ADD.out] at h
            exact h.mono fun e w' ⟨h1, h2, h3⟩ => ⟨h1, h2, h3.mono fun b hb => .inl hb⟩))
          have hku : KeepU W1 W1.drew := fun _ _ _ _ _ => rfl
          clear hadd
          go_wp2_with fail
          go_region_held_law (fun X => X.cell? ⟨d, 1, none⟩ = some (.int .i64 y) ∧ X.cell? ⟨d, 2, none⟩ = some (.int .i64 z)) (first | exact KD.out _ hku | exact ⟨t1, t2⟩) (first
            | (go_at_call 29; (refine N1.out.mono ?_); rintro e w5 ⟨rfl, t5, hk5⟩; have hku : KeepU W1 w5 := (fun b cs t ht hb => hk5 b cs t ht hb))
            | (go_at_call 30; (refine (N2.out _ t5).mono ?_); rintro e w6 ⟨rfl, tq, hk6⟩; have hku : KeepU W1 w6 := (fun b cs t ht hb => (hk6 b cs t ht (Blk.keep hb (hku b cs t ht hb))).trans (hku b cs t ht hb))))
          all_goals
            have TQ := Lib.hid tq
            clear t5 hk5 hk6 hku tq
            have tq := TQ.out
            clear TQ
            have M1 := Lib.hid (shsame_any HS.out tq)
            clear tq N1 N2
            go_wp2_with fail
            refine M1.out.mono ?_
            rintro e wa ⟨rfl, ta⟩
            have M2 := Lib.hid (ta.same11 HC.out HS.out)
            clear ta M1
            go_wp2_with fail
            refine M2.out.mono ?_
            rintro e wb ⟨rfl, tbb⟩
            have Fn := Lib.hid (show PlS RepB B g gs gm gb gk (j + 1) w _ from ⟨F, now, was, hF, hcap.more (by omega), hcap2.more (by omega), tbb⟩)
            clear tbb M2
            go_wp2_with fail
            go_roundw
            case rel => exact ⟨j + 1, by go_num, by omega, Fn.out⟩
            case measure => simp [intOf]; omega
      have o0 : (x == 0) = false := by rw [beq_eq_false_iff_ne]; exact hx0
      have o1 : (x == 1) = false := by rw [beq_eq_false_iff_ne]; exact hx1
      have o2 : (x == 2) = false := by rw [beq_eq_false_iff_ne]; exact hx2
      have o3 : (x == 3) = false := by rw [beq_eq_false_iff_ne]; exact hx3
      have o4 : (x == 4) = false := by rw [beq_eq_false_iff_ne]; exact hx4
      have o5 : (x == 5) = false := by rw [beq_eq_false_iff_ne]; exact hx5
      have o6 : (x == 6) = false := by rw [beq_eq_false_iff_ne]; exact hx6
      have o7 : (x == 7) = false := by rw [beq_eq_false_iff_ne]; exact hx7
      have o8 : (x == 8) = false := by rw [beq_eq_false_iff_ne]; exact hx8
      have tq := TB.out
      have M1 := Lib.hid (shsame_any HS.out tq)
      clear tq 
      go_wp2_with fail
      refine M1.out.mono ?_
      rintro e wa ⟨rfl, ta⟩
      have M2 := Lib.hid (ta.same11 HC.out HS.out)
      clear ta M1
      go_wp2_with fail
      refine M2.out.mono ?_
      rintro e wb ⟨rfl, tbb⟩
      have Fn := Lib.hid (show PlS RepB B g gs gm gb gk (j + 1) w _ from ⟨F, now, was, hF, hcap.more (by omega), hcap2.more (by omega), tbb⟩)
      clear tbb M2
      go_wp2_with fail
      go_roundw
      case rel => exact ⟨j + 1, by go_num, by omega, Fn.out⟩
      case measure => simp [intOf]; omega
    · have y0 : decide ((j : Int) < (p : Int)) = false := by rw [decide_eq_false_iff_not]; omega
      have y0' : decide (j < p) = false := by rw [decide_eq_false_iff_not]; exact hjp2
      have Fin := Lib.hid tw.far.bel
      clear tw
      go_wp2_with fail
      go_ret
      exact ⟨rfl, Fin.out⟩
end Go.Proofs.Ytfiafgmlbejboaa
