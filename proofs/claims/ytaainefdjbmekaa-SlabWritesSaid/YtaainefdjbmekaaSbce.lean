/- The program's count (More, Less), Uses. -/
import Derived.Test.YtaainefdjbmekaaSbcd
namespace Go.Proofs.Ytaainefdjbmekaa
open Go.RowKit
section
variable {w : World} {g gs : Nat} {X Xr : Nat → Prop} {F : List Bool} {l : List Sk.K} {v : Value}
set_option maxRecDepth 8000 in
set_option maxHeartbeats 8000000 in
theorem scount_any (h : RepSV w g gs X Xr F l v) (hk : KB l) (a : Int) (more : Bool) (d : Int) (hd : d = if more = true then 1 else -1) :
    Calls Try.prog 36 #[.pointer (some ⟨gs, 0, none⟩), .int .i64 a, .int .i64 d] w fun e w' => e = .returned (.bool (Sh.change (Sk.ofN l) a more).1) ∧ OpS RepB g gs X F (Sh.change (Sk.ofN l) a more).2 (Sk.ofW l) w w' := by
  obtain ⟨R, hR⟩ : ∃ R, R = Sh.change (Sk.ofN l) a more := ⟨_, rfl⟩
  rw [← hR]
  have N1 := Lib.hid (find_any h hk.few a)
  have H := Lib.hid h
  have HK := Lib.hid hk
  have HR := Lib.hid hR
  have Hd := Lib.hid hd
  obtain ⟨q, hq⟩ : ∃ q, q = l.length := ⟨_, rfl⟩
  have Hq := Lib.hid hq
  have hq5 : q ≤ 100000 := by rw [hq]; exact hk.few
  obtain ⟨A, c, rfl, -, -⟩ := ownK_slice h.row
  have Kc := Lib.hid (fun (W' : World) (hb : Below w.heap.size w W') => show W'.cell? ⟨gs, 1, none⟩ = some (.slice A q c) by rw [hq]; exact ((h.below hb).blk.cell 1))
  clear h hk hR hd hq
  go_enter Try.func36, Try.ntmps36
  go_wp2_with fail
  refine N1.out.mono ?_
  rintro e w1 ⟨i, is, rfl, hf, hb1⟩
  clear N1
  have HF := Lib.hid hf
  have HB1 := Lib.hid hb1
  clear hf hb1
  cases is with
  | false =>
    have Fin := Lib.hid (show Ending.returned (.bool false) = Ending.returned (.bool R.1) ∧ OpS RepB g gs X F R.2 (Sk.ofW l) w w1 from by rw [HR.out, Sk.change_no H.out.asc HF.out]; exact ⟨rfl, opS_same H.out HB1.out⟩)
    go_wp2_with fail
    go_ret
    exact Fin.out
  | true =>
    obtain ⟨hi, -⟩ := HF.out.yes
    have hiq : (i : Int) < (q : Int) := by rw [Hq.out]; omega
    obtain ⟨gl, c', e, -, -, hcell⟩ := ownK_at (H.out.below HB1.out).row (by omega)
    injection e with e e2 e3
    subst e
    subst e3
    clear e2
    obtain ⟨c1, c2, c3, c4⟩ := hcell i hi
    have g1 := Kc.out w1 HB1.out
    clear hcell
    have hb9 := HK.out.at_ i
    obtain ⟨x, hx⟩ : ∃ x, x = (Sk.at_ l i).2.2.1 := ⟨_, rfl⟩
    have Hx := Lib.hid hx
    rw [← hx] at c3 hb9
    have hx9 : x ≤ 1000000000 := hb9.2.2.1
    clear hx hb9 hi
    generalize (Sk.at_ l i).1 = x1 at *
    generalize (Sk.at_ l i).2.1 = x2 at *
    generalize (Sk.at_ l i).2.2.2 = x4 at *
    have N2 : ∀ b : Bool, (!Sk.isL (x1, x2, x, x4)) = b → Hid (Calls Try.prog 57 #[.agg #[.int .i64 (x1 : Int), .int .i64 (x2 : Int), .int .i64 (x : Int), .int .i64 (x4 : Int)]] w1 fun e w' => e = .returned (.bool b) ∧ Below w1.heap.size w1 w') := fun b hb => by subst hb; exact Lib.hid (kused_any x1 x2 x x4 w1)
    by_cases hz : x = 0
    · have Fin := Lib.hid (fun (W : World) (hb : Below w.heap.size w W) => show Ending.returned (.bool false) = Ending.returned (.bool R.1) ∧ OpS RepB g gs X F R.2 (Sk.ofW l) w W from by rw [HR.out, Sk.change_late HF.out (by rw [← Hx.out]; exact hz)]; exact ⟨rfl, opS_same H.out hb⟩)
      have N2 := N2 false (by subst hz; rfl)
      clear hz
      go_wp2_with (refine N2.out.mono ?_; rintro e w2 ⟨rfl, h2⟩)
      have H2 := Lib.hid (HB1.out.trans (h2.mono HB1.out.size))
      clear h2
      go_wp2_with fail
      go_ret
      exact Fin.out _ H2.out
    · have N2 := N2 true (by simp [Sk.isL, hz])
      obtain ⟨y, hy⟩ : ∃ y : Nat, y = (if more = true then x + 1 else x - 1) := ⟨_, rfl⟩
      have s1 : (x : Int) + d = (y : Int) := by
        rw [hy, Hd.out]
        cases more with
        | true => simp
        | false => simp; omega
      have hy9 : y ≤ 2000000000 := by rw [hy]; split <;> omega
      have Fin := Lib.hid (fun (W : World) (hb : Below w.heap.size w W) => show Ending.returned (.bool true) = Ending.returned (.bool R.1) ∧ OpS RepB g gs X F R.2 (Sk.ofW l) w (W.setCell ⟨gl, i * 4 + 2, none⟩ (.int .i64 (y : Int))) from by
        have hi := HF.out.yes.1
        have hch := Sk.change_yes HF.out (show (Sk.at_ l i).2.2.1 ≠ 0 by rw [← Hx.out]; exact hz) more
        rw [← Hx.out, ← hy] at hch
        rw [HR.out, hch]
        refine ⟨rfl, ?_⟩
        have hf := scell_fin (j := i * 4 + 2) (u := .int .i64 (y : Int)) (l2 := Sk.putU l i y) H.out hb (kcs_put l i y hi) (Sk.putU_len _ _ _) (Sk.asc_put H.out.asc hi y)
        rw [Sk.ofW_put hi] at hf
        exact hf)
      have Cl := Lib.hid (fun (W : World) (hb : Below w.heap.size w W) => show W.cell? ⟨gl, i * 4 + 2, none⟩ = some (.int .i64 (x : Int)) ∧ W.frozen? ⟨gl, i * 4 + 2, none⟩ = false from by
        have hr := (H.out.below hb).row
        have hi := HF.out.yes.1
        obtain ⟨g2, c2, e, -, -, hcell⟩ := ownK_at hr (by omega)
        injection e with e e2 e3
        injection e with e
        injection e with e
        subst e
        exact ⟨by rw [(hcell i hi).2.2.1, Hx.out], hr.frozenAt _⟩)
      clear hz hy
      go_wp2_with (refine N2.out.mono ?_; rintro e w2 ⟨rfl, h2⟩; have H2 := Lib.hid (HB1.out.trans (h2.mono HB1.out.size)); have g2 := Kc.out w2 H2.out; obtain ⟨f1, f2⟩ := Cl.out w2 H2.out; clear h2)
      go_ret
      exact Fin.out _ H2.out
set_option maxHeartbeats 2000000 in
theorem sless_any' (h : RepSV w g gs X Xr F l v) (hk : KB l) (a : Int) :
    Calls Try.prog 16 #[.pointer (some ⟨gs, 0, none⟩), .int .i64 a] w fun e w' => e = .returned (.bool (Sh.change (Sk.ofN l) a false).1) ∧ OpS RepB g gs X F (Sh.change (Sk.ofN l) a false).2 (Sk.ofW l) w w' := by
  have N1 := Lib.hid (scount_any h hk a false (-1) rfl)
  obtain ⟨R, hR⟩ : ∃ R, R = Sh.change (Sk.ofN l) a false := ⟨_, rfl⟩
  rw [← hR] at N1 ⊢
  clear h hk hR
  go_enter Try.func16, Try.ntmps16
  go_wp2_with fail
  refine N1.out.mono ?_
  rintro e w' ⟨rfl, h2⟩
  have Fin := Lib.hid h2
  clear h2
  go_wp2_with fail
  go_ret
  exact ⟨rfl, Fin.out⟩
set_option maxRecDepth 8000 in
set_option maxHeartbeats 8000000 in
theorem suses_any' (h : RepSV w g gs X Xr F l v) (hk : KB l) (a : Int) :
    Calls Try.prog 10 #[.pointer (some ⟨gs, 0, none⟩), .int .i64 a] w fun e w' => e = .returned (.int .i64 (Sh.uses (Sk.ofN l) a : Int)) ∧ Below w.heap.size w w' := by
  obtain ⟨R, hR⟩ : ∃ R, R = Sh.uses (Sk.ofN l) a := ⟨_, rfl⟩
  rw [← hR]
  have N1 := Lib.hid (find_any h hk.few a)
  have H := Lib.hid h
  have HR := Lib.hid hR
  obtain ⟨q, hq⟩ : ∃ q, q = l.length := ⟨_, rfl⟩
  have Hq := Lib.hid hq
  obtain ⟨A, c, rfl, -, -⟩ := ownK_slice h.row
  have Kc := Lib.hid (fun (W' : World) (hb : Below w.heap.size w W') => show W'.cell? ⟨gs, 1, none⟩ = some (.slice A q c) by rw [hq]; exact ((h.below hb).blk.cell 1))
  clear h hk hR hq
  go_enter Try.func10, Try.ntmps10
  go_wp2_with fail
  refine N1.out.mono ?_
  rintro e w1 ⟨i, is, rfl, hf, hb1⟩
  clear N1
  have HF := Lib.hid hf
  have HB1 := Lib.hid hb1
  clear hf hb1
  cases is with
  | false =>
    have Fin := Lib.hid (show R = 0 from by rw [HR.out, Sk.uses_no H.out.asc HF.out])
    go_wp2_with fail
    go_ret
    exact ⟨by rw [Fin.out]; rfl, HB1.out⟩
  | true =>
    obtain ⟨hi, -⟩ := HF.out.yes
    have hiq : (i : Int) < (q : Int) := by rw [Hq.out]; omega
    obtain ⟨gl, c', e, -, -, hcell⟩ := ownK_at (H.out.below HB1.out).row (by omega)
    injection e with e e2 e3
    subst e
    subst e3
    clear e2
    obtain ⟨-, -, c3, -⟩ := hcell i hi
    have g1 := Kc.out w1 HB1.out
    clear hcell
    obtain ⟨x, hx⟩ : ∃ x, x = (Sk.at_ l i).2.2.1 := ⟨_, rfl⟩
    have Fin := Lib.hid (show R = x from by rw [HR.out, Sk.uses_yes HF.out, hx])
    rw [← hx] at c3
    clear hx hi
    go_wp2_with fail
    go_ret
    exact ⟨by rw [Fin.out]; rfl, HB1.out⟩
end
end Go.Proofs.Ytaainefdjbmekaa
