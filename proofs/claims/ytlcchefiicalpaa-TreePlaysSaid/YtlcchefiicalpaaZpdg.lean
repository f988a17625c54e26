/- The document's Map.Cut; what it makes lies in new blocks. -/
import Derived.Test.YtlcchefiicalpaaZpj
namespace Go.Proofs.Ytlcchefiicalpaa
open Go.RowKit
set_option maxRecDepth 8000 in
set_option maxHeartbeats 16000000 in
theorem mcutF_any {w : World} {A Ak : Option Addr} {c ck : Nat} {m : List Tr.E} {ks : List Int} (h : SlC w w.heap.size A c m.length (evs m)) (hk : SlC w w.heap.size Ak ck ks.length (ivs ks)) (hl : m.length ≤ 100000) (hkl : ks.length ≤ 100000) :
    Calls Try.prog 46 #[.agg #[.slice A m.length c], .slice Ak ks.length ck] w fun e w' => (¬ Tr.KeysOk ks ∧ e = .returned (.tuple #[.agg #[.slice A m.length c], .bool false]) ∨ Tr.KeysOk ks ∧ ∃ D d, e = .returned (.tuple #[.agg #[.slice D (Tr.cuts m ks).length d], .bool true]) ∧ SlC w' w'.heap.size D d (Tr.cuts m ks).length (evs (Tr.cuts m ks)) ∧ ∀ a, D = some a → w.heap.size ≤ a.block) ∧ Below w.heap.size w w' := by
  obtain ⟨i0, hi0, hz0, hs0, hb0⟩ := rentry_parts
  obtain ⟨W0, hW0⟩ : ∃ W, w.alloc (.cells #[.slice A m.length c] 71) = W := ⟨_, rfl⟩
  obtain ⟨W, hW⟩ : ∃ W, W0.alloc (.cells #[.slice none 0 0] 71) = W := ⟨_, rfl⟩
  have bx : Blk W0 w.heap.size 71 #[.slice A m.length c] := by rw [← hW0]; exact Blk.new _ _ _
  have hb1 : Below w.heap.size w W0 := by rw [← hW0]; exact (Below.refl _ _).alloc (Nat.le_refl _) _
  obtain ⟨rb, hrb⟩ : ∃ b, W0.heap.size = b := ⟨_, rfl⟩
  have by_ : Blk W rb 71 #[.slice none 0 0] := by rw [← hW, ← hrb]; exact Blk.new _ _ _
  have hb2 : Below W0.heap.size W0 W := by rw [← hW]; exact (Below.refl _ _).alloc (Nat.le_refl _) _
  have bx := bx.keep (w' := W) (hb2.block _ bx.lt)
  have hle : w.heap.size ≤ rb := by rw [← hrb]; exact hb1.size
  have hB := hb1.trans (hb2.mono hb1.size)
  have HF := Lib.hid (h.below hB)
  have HK := Lib.hid (hk.below hB)
  obtain ⟨b, hb⟩ : ∃ b, w.heap.size = b := ⟨_, rfl⟩
  rw [hb] at bx HF HK hle hB ⊢
  have HB := Lib.hid hB
  have BX := Lib.hid bx
  have BY := Lib.hid by_
  have HL := Lib.hid hle
  obtain ⟨q, hq⟩ : ∃ q, q = m.length := ⟨_, rfl⟩
  have Hq := Lib.hid hq
  obtain ⟨kq, hkq⟩ : ∃ q, q = ks.length := ⟨_, rfl⟩
  have Hkq := Lib.hid hkq
  rw [← hq] at HF BX hl hW0 ⊢
  rw [← hkq] at HK hkl ⊢
  have x0 : W.cell? ⟨b, 0, none⟩ = some (.slice A q c) := BX.out.cell 0
  have hMW : b < W.heap.size ∧ rb < W.heap.size := ⟨bx.lt, by_.lt⟩
  clear bx by_ hb1 hb2 hB hle h hk hq hkq
  go_enter Try.func46, Try.ntmps46
  go_wp2_with fail
  go_loopw [6] (fun v6 wr => ∃ i : Nat, v6 = .int .i64 (i : Int) ∧ i ≤ kq ∧ (∀ j, j < i → 0 ≤ Nd.at_ ks j ∧ Nd.at_ ks j < 512) ∧ wr = W) (fun v6 _ => kq - (intOf v6).toNat)
  case atStart => exact ⟨0, rfl, Nat.zero_le _, fun j hj => absurd hj (by omega), rfl⟩
  case round =>
    obtain ⟨i, rfl, hi, hno, hrel'⟩ := hrel
    obtain rfl : W = wr := hrel'.symm
    have Hno := Lib.hid hno
    clear hno
    by_cases hiq : i < kq
    · have z0 : decide ((i : Int) < (kq : Int)) = true := by rw [decide_eq_true_eq]; omega
      have z0' : decide (i < kq) = true := by rw [decide_eq_true_eq]; exact hiq
      have hqi : (i : Int) < (kq : Int) := by omega
      have hil : i < ks.length := by rw [← Hkq.out]; exact hiq
      obtain ⟨g, o, rfl, -, c0⟩ := HK.out.int (i := i) hil
      by_cases hk : 0 ≤ Nd.at_ ks i ∧ Nd.at_ ks i < 512
      · have z1 : decide (Nd.at_ ks i < 0) = false := by rw [decide_eq_false_iff_not]; omega
        have z2 : decide ((512 : Int) ≤ Nd.at_ ks i) = false := by rw [decide_eq_false_iff_not]; omega
        have Hn := Lib.hid hk
        clear hk hil
        generalize hx : Nd.at_ ks i = x at *
        have Hx := Lib.hid hx
        clear hx
        go_wp2_with fail
        go_roundw
        case rel =>
          refine ⟨i + 1, by go_num, by omega, fun j hj => ?_, by trivial⟩
          rcases Nat.lt_or_ge j i with hji | hji
          · exact Hno.out j hji
          · obtain rfl : j = i := by omega
            rw [Hx.out]; exact Hn.out
        case measure => simp [intOf]; omega
      · have HNo := Lib.hid (show ¬ Tr.KeysOk ks from fun h => hk (h i hil))
        obtain ⟨s1, q1⟩ : ∃ s, W.setCell ⟨rb, 0, none⟩ (.slice A q c) = s := ⟨_, rfl⟩
        have B1 : Blk s1 rb 71 #[.slice A q c] := by rw [← q1]; exact BY.out.set_ 0 _
        have b1 := Lib.hid (show Below b w s1 by rw [← q1]; exact HB.out.setCell (p := ⟨rb, 0, none⟩) HL.out _)
        have f0 := BY.out.frozen 0
        have u0 : W.cell? ⟨rb, 0, none⟩ = some (.slice none 0 0) := BY.out.cell 0
        have y0 : s1.cell? ⟨rb, 0, none⟩ = some (.slice A q c) := B1.cell 0
        clear B1 hil
        by_cases hn : Nd.at_ ks i < 0
        · have z1 : decide (Nd.at_ ks i < 0) = true := by rw [decide_eq_true_eq]; exact hn
          clear hk hn
          generalize Nd.at_ ks i = x at *
          go_wp2_with fail
          refine bodyPost_ret (v := .tuple #[.agg #[.slice A q c], .bool false]) ?_ rfl ⟨.inl ⟨HNo.out, rfl⟩, b1.out⟩
          simp [results, Try.results46]
          go_simp
        · have z1 : decide (Nd.at_ ks i < 0) = false := by rw [decide_eq_false_iff_not]; exact hn
          have z2 : decide ((512 : Int) ≤ Nd.at_ ks i) = true := by rw [decide_eq_true_eq]; omega
          clear hk hn
          generalize Nd.at_ ks i = x at *
          go_wp2_with fail
          refine bodyPost_ret (v := .tuple #[.agg #[.slice A q c], .bool false]) ?_ rfl ⟨.inl ⟨HNo.out, rfl⟩, b1.out⟩
          simp [results, Try.results46]
          go_simp
    · have hiq' : i = kq := by omega
      have HOk := Lib.hid (show Tr.KeysOk ks from fun j hj => Hno.out j (by rw [hiq', Hkq.out]; exact hj))
      have z0 : decide ((i : Int) < (kq : Int)) = false := by rw [decide_eq_false_iff_not]; omega
      have z0' : decide (i < kq) = false := by rw [decide_eq_false_iff_not]; exact hiq
      have C0 := Lib.hid (show CutI W W (.slice none 0 0) 0 m ks from ⟨World.ownsRow_nil _ _ _ _, Below.refl _ _⟩)
      clear hiq hiq' hi Hno
      go_wp2_with fail
      go_loopw [7, 8] (fun v7 v8 wx => ∃ i : Nat, v8 = .int .i64 (i : Int) ∧ i ≤ q ∧ CutI W wx v7 i m ks) (fun _ v8 _ => q - (intOf v8).toNat)
      case atStart => exact ⟨0, rfl, Nat.zero_le _, C0.out⟩
      case round =>
        obtain ⟨i, rfl, hi, hC⟩ := hrel
        obtain ⟨D, d, rfl⟩ := own_slice hC.row
        have HC := Lib.hid hC
        have bw : Blk wr b 71 #[.slice A q c] := BX.out.keep (hC.bel.block b hMW.1)
        have x0w : wr.cell? ⟨b, 0, none⟩ = some (.slice A q c) := bw.cell 0
        clear bw hC
        have Hlen := Lib.hid (Nat.le_trans (Tr.cuts_len (m.take i) ks) (show (m.take i).length ≤ i by rw [List.length_take]; omega))
        by_cases hiq : i < q
        · have z0 : decide ((i : Int) < (q : Int)) = true := by rw [decide_eq_true_eq]; omega
          have z0' : decide (i < q) = true := by rw [decide_eq_true_eq]; exact hiq
          have hqi : (i : Int) < (q : Int) := by omega
          have Hil := Lib.hid (show i < m.length by rw [← Hq.out]; exact hiq)
          obtain ⟨g, o, rfl, hg, -⟩ := HF.out.ev Hil.out
          obtain ⟨x, hx⟩ : ∃ x, x = (m.getD i Tr.z).k := ⟨_, rfl⟩
          have Hx := Lib.hid hx
          have Cell := Lib.hid (fun (X : World) (hX : Below W.heap.size W X) => show X.cell? ⟨b, 0, none⟩ = some (.slice (some ⟨g, o, none⟩) q c) ∧ X.cell? ⟨g, o + i * 5, none⟩ = some (.int .i64 (m.getD i Tr.z).k) ∧ X.cell? ⟨g, o + i * 5 + 1, none⟩ = some (.int .i64 (m.getD i Tr.z).p.1) ∧ X.cell? ⟨g, o + i * 5 + 2, none⟩ = some (.int .i64 (m.getD i Tr.z).p.2.1) ∧ X.cell? ⟨g, o + i * 5 + 3, none⟩ = some (.int .i64 (m.getD i Tr.z).p.2.2) ∧ X.cell? ⟨g, o + i * 5 + 4, none⟩ = some (.int .i64 (m.getD i Tr.z).g) from by
            obtain ⟨g', o', e, -, h⟩ := (HF.out.below (hX.mono (Nat.le_of_lt hMW.1))).ev Hil.out
            injection e with e
            injection e with e e'
            subst e; subst e'
            exact ⟨(BX.out.keep (hX.block b hMW.1)).cell 0, h⟩)
          clear hx hg
          have A0 := Lib.hid (show CutI W wr (.slice D (Tr.cuts (m.take i) ks).length d) i m ks from HC.out)
          clear HC
          generalize hcn : (Tr.cuts (m.take i) ks).length = cn at *
          have Hcn := Lib.hid hcn
          clear hcn
          go_wp2_with fail
          clear x0w
          go_loopw [9, 10] (fun v9 v10 wx => ∃ k : Nat, v10 = .int .i64 (k : Int) ∧ k ≤ kq ∧ v9 = .bool ((ks.take k).contains x) ∧ CutI W wx (.slice D cn d) i m ks) (fun _ v10 _ => kq - (intOf v10).toNat)
          case atStart => exact ⟨0, rfl, Nat.zero_le _, by simp, A0.out⟩
          case round =>
            clear A0
            obtain ⟨k, rfl, hk, rfl, hC⟩ := hrel
            have HC := Lib.hid hC
            obtain ⟨x0w, c0, c1, c2, c3, c4⟩ := Cell.out wr hC.bel
            by_cases hkk : k < kq
            · have y0 : decide ((k : Int) < (kq : Int)) = true := by rw [decide_eq_true_eq]; omega
              have y0' : decide (k < kq) = true := by rw [decide_eq_true_eq]; exact hkk
              have hkq : (k : Int) < (kq : Int) := by omega
              have hkl2 : k < ks.length := by rw [← Hkq.out]; exact hkk
              have Nx := Lib.hid (Tr.has_next (x := x) hkl2)
              obtain ⟨g2, o2, rfl, -, d0⟩ := (HK.out.below (hC.bel.mono (Nat.le_of_lt hMW.1))).int (i := k) hkl2
              clear hC hkl2 c1 c2 c3 c4
              rw [← Hx.out] at c0
              cases hgv : (ks.take k).contains x with
              | true =>
                rw [hgv] at Nx
                have Nx := Lib.hid (show (ks.take (k + 1)).contains x = true from Nx.out)
                clear hgv
                go_wp2_with fail
                go_quiet (fail)
                go_wp2_with fail
                go_roundw
                case rel => exact ⟨k + 1, by go_num, by omega, by rw [Nx.out], HC.out.drewN _⟩
                case measure => simp [intOf]; omega
              | false =>
                rw [hgv, Bool.false_or] at Nx
                clear hgv
                obtain ⟨y, hy⟩ : ∃ y, y = Nd.at_ ks k := ⟨_, rfl⟩
                rw [← hy] at Nx d0
                clear hy
                cases hv : (y == x) with
                | true =>
                  rw [hv] at Nx
                  go_wp2_with fail
                  go_quiet (fail)
                  go_wp2_with fail
                  go_roundw
                  case rel => exact ⟨k + 1, by go_num, by omega, by rw [Nx.out], HC.out.drewN _⟩
                  case measure => simp [intOf]; omega
                | false =>
                  rw [hv] at Nx
                  go_wp2_with fail
                  go_quiet (fail)
                  go_wp2_with fail
                  go_roundw
                  case rel => exact ⟨k + 1, by go_num, by omega, by rw [Nx.out], HC.out.drewN _⟩
                  case measure => simp [intOf]; omega
            · have y0 : decide ((k : Int) < (kq : Int)) = false := by rw [decide_eq_false_iff_not]; omega
              have y0' : decide (k < kq) = false := by rw [decide_eq_false_iff_not]; exact hkk
              have hall : ks.take k = ks := List.take_of_length_le (by rw [← Hkq.out]; omega)
              rw [hall]
              clear hall hkk hC
              cases hgv : ks.contains x with
              | true =>
                have Sk := Lib.hid (Tr.cuts_in Hil.out (by rw [← Hx.out]; exact hgv))
                have Sk2 := Lib.hid (HC.out.bel)
                have Row := Lib.hid (HC.out.row)
                clear hgv
                go_wp2_with fail
                go_roundw
                case rel => exact ⟨i + 1, by go_num, by omega, ⟨by rw [Sk.out, Hcn.out]; have := Row.out; rw [Hcn.out] at this; exact this, Sk2.out⟩⟩
                case measure => simp [intOf]; omega
              | false =>
                have Sk := Lib.hid (Tr.cuts_out Hil.out (by rw [← Hx.out]; exact hgv))
                have Bel := Lib.hid (HC.out.bel)
                have Row := Lib.hid (show wr.ownsRow W.heap.size 87 5 (.slice D cn d) cn (evs (Tr.cuts (m.take i) ks)) from by have := HC.out.row; rw [Hcn.out] at this; exact this)
                have hMs := Bel.out.size
                have hcl := Hlen.out
                clear hgv
                obtain ⟨e, he⟩ : ∃ e, e = m.getD i Tr.z := ⟨_, rfl⟩
                rw [← he] at c0 c1 c2 c3 c4
                rw [← he] at Sk
                clear he
                obtain ⟨ek, ⟨e1, e2, e3⟩, eg⟩ := e
                dsimp only at c0 c1 c2 c3 c4
                obtain ⟨w5, hw5⟩ : ∃ X, wr.alloc (.cells #[.int .i64 ek, .int .i64 e1, .int .i64 e2, .int .i64 e3, .int .i64 eg] 87) = X := ⟨_, rfl⟩
                have Own := Lib.hid (show w5.ownsRow W.heap.size 87 5 (.slice D cn d) cn (evs (Tr.cuts (m.take i) ks)) from by rw [← hw5]; exact own_keep Row.out fun b' _ hlt => Below.heap_alloc wr _ b' hlt)
                have b5 : Below W.heap.size W w5 := by rw [← hw5]; exact Bel.out.alloc hMs _
                have Sl5 := Lib.hid (show Sl w5 (wr.heap.size + 1) (some ⟨wr.heap.size, 0, none⟩) [.int .i64 ek, .int .i64 e1, .int .i64 e2, .int .i64 e3, .int .i64 eg] from by rw [← hw5]; exact sl_five)
                have B5 := Lib.hid b5
                clear b5
                go_wp2_with (at_builtin; refine wpList_append_sls (base := W.heap.size) _ rfl (.tmp 59) (.tmp 65) _ rfl Try.underlying69 hi0 hz0 hs0 hb0 rfl (by decide) rfl Own.out (m := 1) (c := 1) (A := some ⟨wr.heap.size, 0, none⟩) (news := [.int .i64 ek, .int .i64 e1, .int .i64 e2, .int .i64 e3, .int .i64 eg]) rfl rfl (by simp) (Nat.le_refl _) Sl5.out (by simp [Value.oneCell']) (by unfold maxLen; omega) (by omega) B5.out.size ?_; intro v6 w6 h1 h2 h3; obtain ⟨A6, c6, rfl⟩ := own_slice h1; have N6 := Lib.hid (show CutI W w6 (.slice A6 (cn + 1) c6) (i + 1) m ks from ⟨by rw [Sk.out, List.length_append, Hcn.out, evs_app]; exact h1, B5.out.grown h2 B5.out.size (fun b' hb' => (Own.out.lt b' hb').1)⟩); clear h1 h2 h3)
                go_roundw
                case rel => exact ⟨i + 1, by go_num, by omega, N6.out⟩
                case measure => simp [intOf]; omega
        · have hiq' : i = q := by omega
          have z0 : decide ((i : Int) < (q : Int)) = false := by rw [decide_eq_false_iff_not]; omega
          have z0' : decide (i < q) = false := by rw [decide_eq_false_iff_not]; exact hiq
          have hall : m.take i = m := List.take_of_length_le (by rw [← Hq.out]; omega)
          rw [hall] at HC ⊢
          have by2 : Blk wr rb 71 #[.slice none 0 0] := BY.out.keep (HC.out.bel.block rb hMW.2)
          have Row := HC.out.row
          rw [hall] at Row
          obtain ⟨s1, q1⟩ : ∃ s, wr.setCell ⟨rb, 0, none⟩ (.slice D (Tr.cuts m ks).length d) = s := ⟨_, rfl⟩
          have B1 : Blk s1 rb 71 #[.slice D (Tr.cuts m ks).length d] := by rw [← q1]; exact by2.set_ 0 _
          have b1 : Below b w s1 := by rw [← q1]; exact (HB.out.trans (HC.out.bel.mono (Nat.le_of_lt hMW.1))).setCell (p := ⟨rb, 0, none⟩) HL.out _
          have R1 : s1.ownsRow W.heap.size 87 5 (.slice D (Tr.cuts m ks).length d) (Tr.cuts m ks).length (evs (Tr.cuts m ks)) := by
            rw [← q1]
            exact own_keep Row fun b' hb' _ => Below.heap_setCell _ _ _ _ (fun e => by have := (Row.lt b' hb').1; have := hMW.2; simp only at e; omega)
          have Fin := Lib.hid (show (¬ Tr.KeysOk ks ∧ Ending.returned (.tuple #[.agg #[.slice D (Tr.cuts m ks).length d], .bool true]) = Ending.returned (.tuple #[.agg #[.slice A q c], .bool false]) ∨ Tr.KeysOk ks ∧ ∃ D' d', Ending.returned (.tuple #[.agg #[.slice D (Tr.cuts m ks).length d], .bool true]) = Ending.returned (.tuple #[.agg #[.slice D' (Tr.cuts m ks).length d'], .bool true]) ∧ SlC s1 s1.heap.size D' d' (Tr.cuts m ks).length (evs (Tr.cuts m ks)) ∧ ∀ a, D' = some a → b ≤ a.block) ∧ Below b w s1 from
            ⟨.inr ⟨HOk.out, D, d, rfl, ⟨own_len R1, own_none R1, own_slW' R1⟩, fun a ha => Nat.le_trans (Nat.le_of_lt hMW.1) (R1.lt a.block (by rw [ha]; rfl)).1⟩, b1⟩)
          have f0 := by2.frozen 0
          have u0 : wr.cell? ⟨rb, 0, none⟩ = some (.slice none 0 0) := by2.cell 0
          have y0 : s1.cell? ⟨rb, 0, none⟩ = some (.slice D (Tr.cuts m ks).length d) := B1.cell 0
          clear B1 R1 Row by2 b1 hall hiq' hiq
          go_wp2_with fail
          refine bodyPost_ret (v := .tuple #[.agg #[.slice D (Tr.cuts m ks).length d], .bool true]) ?_ rfl Fin.out
          simp [results, Try.results46]
          go_simp
end Go.Proofs.Ytlcchefiicalpaa
