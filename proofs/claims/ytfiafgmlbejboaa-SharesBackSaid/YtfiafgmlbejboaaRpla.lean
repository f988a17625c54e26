/- RunsPlay under the contracts: the walk. -/
import Derived.Test.YtfiafgmlbejboaaRply
import Derived.Deep.RegionHeldLaw
namespace Go.Proofs.Ytfiafgmlbejboaa
open Go.RowKit

/-- The deeds as cells. -/
def DeedCells (w : World) (B : Nat) (A : Option Addr) (q : Nat) (D : Nat → Int × Int × Int) : Prop :=
  ∀ i, i < q → ∃ b o, A = some ⟨b, o, none⟩ ∧ b < B ∧ w.cell? ⟨b, o + i * 3, none⟩ = some (.int .i64 (D i).1) ∧ w.cell? ⟨b, o + i * 3 + 1, none⟩ = some (.int .i64 (D i).2.1) ∧ w.cell? ⟨b, o + i * 3 + 2, none⟩ = some (.int .i64 (D i).2.2)
theorem DeedCells.below {w w' : World} {B q : Nat} {A : Option Addr} {D : Nat → Int × Int × Int} (h : DeedCells w B A q D) (hb : Below B w w') : DeedCells w' B A q D := fun i hi => by
  obtain ⟨b, o, e, hB, h1, h2, h3⟩ := h i hi
  have hk := hb.block b hB
  exact ⟨b, o, e, hB, by rw [World.cell?_of_block hk]; exact h1, by rw [World.cell?_of_block hk]; exact h2, by rw [World.cell?_of_block hk]; exact h3⟩

set_option maxRecDepth 8000 in
set_option maxHeartbeats 16000000 in
theorem play_any {Rep : World → Nat → (Nat → Prop) → List Bool → Prop} (hC : RunsC Rep) {w : World} {A : Option Addr} {q c : Nat} (D : Nat → Int × Int × Int) (hD : ∀ i, I64 (D i).2.1 ∧ I64 (D i).2.2) (hcs : DeedCells w w.heap.size A q D) (blk : Int) (hblk : I64 blk) :
    Calls Try.prog 3 #[.int .i64 blk, .slice A q c] w fun e w' => e = .returned (.bool true) ∧ Below w.heap.size w w' := by
  have AW := Lib.hid (rawake_any hC w)
  have HC := Lib.hid hC
  obtain ⟨B, hB⟩ : ∃ B, B = w.heap.size := ⟨_, rfl⟩
  have HBw := Lib.hid (show B ≤ w.heap.size by omega)
  rw [← hB] at AW hcs ⊢
  have CS := Lib.hid hcs
  have HD := Lib.hid hD
  have HK := Lib.hid hblk
  clear hC hB hcs hD hblk
  by_cases hs : 100 < q ∨ (300 < blk ∧ blk ≤ 8192)
  · by_cases h1 : 100 < q
    · have q1 : decide (100 < (q : Int)) = true := by rw [decide_eq_true_eq]; omega
      have q2 : decide (100 < q) = true := by rw [decide_eq_true_eq]; exact h1
      go_enter Try.func3, Try.ntmps3
      go_wp2_with fail
      refine AW.out.mono ?_
      rintro e w0 ⟨rfl, hb0⟩
      go_wp2_with fail
      go_ret
      exact ⟨rfl, hb0⟩
    · have q1 : decide (100 < (q : Int)) = false := by rw [decide_eq_false_iff_not]; omega
      have q2 : decide (100 < q) = false := by rw [decide_eq_false_iff_not]; exact h1
      have q3 : decide (300 < blk) = true := by rw [decide_eq_true_eq]; omega
      have q4 : decide (blk ≤ 8192) = true := by rw [decide_eq_true_eq]; omega
      clear hs h1
      go_enter Try.func3, Try.ntmps3
      go_wp2_with fail
      refine AW.out.mono ?_
      rintro e w0 ⟨rfl, hb0⟩
      go_wp2_with fail
      go_ret
      exact ⟨rfl, hb0⟩
  have q1 : decide (100 < (q : Int)) = false := by rw [decide_eq_false_iff_not]; omega
  have q2 : decide (100 < q) = false := by rw [decide_eq_false_iff_not]; omega
  have hq1 : q ≤ 100 := by omega
  have key : Calls Try.prog 3 #[.int .i64 blk, .slice A q c] w fun e w' => e = .returned (.bool true) ∧ Below B w w' := by
    have hq34 : (decide (300 < blk) = true ∧ decide (blk ≤ 8192) = false) ∨ decide (300 < blk) = false := by
      by_cases h3 : 300 < blk
      · exact .inl ⟨by rw [decide_eq_true_eq]; exact h3, by rw [decide_eq_false_iff_not]; omega⟩
      · exact .inr (by rw [decide_eq_false_iff_not]; exact h3)
    clear hs
    rcases hq34 with ⟨q3, q4⟩ | q3
    all_goals
      go_enter Try.func3, Try.ntmps3
      go_wp2_with fail
      refine AW.out.mono ?_
      rintro e w0 ⟨rfl, hb0⟩
      have S0 := Lib.hid (Nat.le_trans HBw.out hb0.size)
      have H0 := Lib.hid hb0
      have N1 := Lib.hid (HC.out.new blk w0 HK.out)
      clear hb0 AW
      go_wp2_with fail
      refine N1.out.mono ?_
      rintro e w1 ⟨g, X, rfl, r1, x1, hb1⟩
      have R1 := Lib.hid r1
      have X1 := Lib.hid x1
      have H1 := Lib.hid hb1
      have N2 := Lib.hid (rnew_any blk w1)
      clear r1 x1 hb1 N1
      go_wp2_with fail
      refine N2.out.mono ?_
      rintro e w2 ⟨gm, gb, rfl, rr, hb2, hgm, hgb⟩
      have S1 : w0.heap.size ≤ w1.heap.size := H1.out.size
      have S2 := hb2.size
      have BO := Lib.hid (show Both Rep B g gm gb (Rn.new blk) w w2 from by
        have hs0 := S0.out
        have m1 : Maps Rep (fun b => b < B) w0 [] := Maps.none fun b hb => by omega
        have m2 := (m1.add HC.out R1.out X1.out H1.out).foreign (O' := fun b => b < B ∨ b = gm ∨ b = gb) HC.out hb2 (fun b hb => by
          have := rr.map.lt
          have := rr.blks.lt
          rcases hb with hb | rfl | rfl
          · exact ⟨.inl hb, by omega⟩
          · exact ⟨.inr hgm, by omega⟩
          · exact ⟨.inr hgb, by omega⟩)
        exact ⟨⟨fun b => b < B ∨ b = gm ∨ b = gb, fun b hb => .inl hb, .inr (.inl rfl), .inr (.inr rfl), m2⟩, rr, by omega, by omega, (H0.out.trans (H1.out.mono hs0)).trans (hb2.mono (by omega)), by omega⟩)
      clear rr hb2 hgm hgb S1 S2 N2 H0 H1 R1 X1
      go_wp2_with fail
      go_loopw [7] (fun v wr => ∃ (i : Nat) (F : List Bool), v = .int .i64 (i : Int) ∧ i ≤ q ∧ Both Rep B g gm gb F w wr) (fun v _ => q - (intOf v).toNat)
      case atStart => exact ⟨0, _, rfl, Nat.zero_le _, BO.out⟩
      case round =>
        obtain ⟨i, F, rfl, hi, bo⟩ := hrel
        have BR := Lib.hid bo
        clear bo BO
        by_cases hiq : i < q
        · have z0 : decide ((i : Int) < (q : Int)) = true := by rw [decide_eq_true_eq]; omega
          have z0' : decide (i < q) = true := by rw [decide_eq_true_eq]; exact hiq
          obtain ⟨b, o, rfl, hbB, d0, d1, d2⟩ := (CS.out.below BR.out.bel) i hiq
          obtain ⟨t0, t1⟩ := HD.out i
          generalize (D i).1 = x at *
          generalize (D i).2.1 = y at *
          generalize (D i).2.2 = z at *
          have T0 := Lib.hid t0
          have T1 := Lib.hid t1
          clear t0 t1
          by_cases hx : x = 0
          · subst hx
            have P1 := Lib.hid (BR.out.mid HC.out (o := .cells #[.int .i64 0, .int .i64 y, .int .i64 z] 29) rfl (fun X hr => HC.out.take hr z T1.out))
            clear BR
            go_wp2_with fail
            refine P1.out.mono ?_
            rintro e w3 ⟨rfl, md, hk⟩
            obtain ⟨d, hd⟩ : ∃ d, d = wr.heap.size := ⟨_, rfl⟩
            have Bd : Blk w3 d 29 #[.int .i64 0, .int .i64 y, .int .i64 z] := by rw [hd]; exact hk.trans (Blk.new _ _ _)
            rw [← hd] at md ⊢
            have e2 : w3.cell? ⟨d, 2, none⟩ = some (.int .i64 z) := Bd.cell 2
            have P2 := Lib.hid (md.both HC.out fun hr => rtake_any hr z)
            generalize (Rn.take F z).2.2 = G at *
            generalize (Rn.take F z).2.1 = ok at *
            generalize (Rn.take F z).1 = at_ at *
            clear md hk hd P1 Bd
            go_wp2_with fail
            refine P2.out.mono ?_
            rintro e w4 ⟨rfl, bo, _⟩
            have BB := Lib.hid bo
            clear bo P2
            have NS := Lib.hid (BB.out.same HC.out)
            clear BB
            cases ok
            all_goals
              go_wp2_with fail
              refine NS.out.mono ?_
              rintro e w5 ⟨rfl, bs⟩
              have BS := Lib.hid bs
              clear bs NS
              go_wp2_with fail
              go_roundw
              case rel => exact ⟨i + 1, _, by go_num, by omega, BS.out⟩
              case measure => simp [intOf]; omega
          have x0 : (x == 0) = false := by rw [beq_eq_false_iff_ne]; exact hx
          clear hx
          by_cases hx : x = 1
          · subst hx
            have P1 := Lib.hid (BR.out.mid HC.out (o := .cells #[.int .i64 1, .int .i64 y, .int .i64 z] 29) rfl (fun X hr => HC.out.take hr z T1.out))
            clear BR
            go_wp2_with fail
            refine P1.out.mono ?_
            rintro e w3 ⟨rfl, md, hk⟩
            obtain ⟨d, hd⟩ : ∃ d, d = wr.heap.size := ⟨_, rfl⟩
            have Bd : Blk w3 d 29 #[.int .i64 1, .int .i64 y, .int .i64 z] := by rw [hd]; exact hk.trans (Blk.new _ _ _)
            rw [← hd] at md ⊢
            have e2 : w3.cell? ⟨d, 2, none⟩ = some (.int .i64 z) := Bd.cell 2
            have P2 := Lib.hid (md.both HC.out fun hr => rtake_any hr z)
            generalize (Rn.take F z).2.2 = G at *
            generalize (Rn.take F z).2.1 = ok at *
            generalize (Rn.take F z).1 = at_ at *
            clear md hk hd P1 Bd
            go_wp2_with fail
            refine P2.out.mono ?_
            rintro e w4 ⟨rfl, bo, _⟩
            have BB := Lib.hid bo
            clear bo P2
            have NS := Lib.hid (BB.out.same HC.out)
            clear BB
            cases ok
            all_goals
              go_wp2_with fail
              refine NS.out.mono ?_
              rintro e w5 ⟨rfl, bs⟩
              have BS := Lib.hid bs
              clear bs NS
              go_wp2_with fail
              go_roundw
              case rel => exact ⟨i + 1, _, by go_num, by omega, BS.out⟩
              case measure => simp [intOf]; omega
          have x1 : (x == 1) = false := by rw [beq_eq_false_iff_ne]; exact hx
          clear hx
          by_cases hx : x = 2
          · subst hx
            have P1 := Lib.hid (BR.out.mid HC.out (o := .cells #[.int .i64 2, .int .i64 y, .int .i64 z] 29) rfl (fun X hr => HC.out.take hr z T1.out))
            clear BR
            go_wp2_with fail
            refine P1.out.mono ?_
            rintro e w3 ⟨rfl, md, hk⟩
            obtain ⟨d, hd⟩ : ∃ d, d = wr.heap.size := ⟨_, rfl⟩
            have Bd : Blk w3 d 29 #[.int .i64 2, .int .i64 y, .int .i64 z] := by rw [hd]; exact hk.trans (Blk.new _ _ _)
            rw [← hd] at md ⊢
            have e2 : w3.cell? ⟨d, 2, none⟩ = some (.int .i64 z) := Bd.cell 2
            have P2 := Lib.hid (md.both HC.out fun hr => rtake_any hr z)
            generalize (Rn.take F z).2.2 = G at *
            generalize (Rn.take F z).2.1 = ok at *
            generalize (Rn.take F z).1 = at_ at *
            clear md hk hd P1 Bd
            go_wp2_with fail
            refine P2.out.mono ?_
            rintro e w4 ⟨rfl, bo, _⟩
            have BB := Lib.hid bo
            clear bo P2
            have NS := Lib.hid (BB.out.same HC.out)
            clear BB
            cases ok
            all_goals
              go_wp2_with fail
              refine NS.out.mono ?_
              rintro e w5 ⟨rfl, bs⟩
              have BS := Lib.hid bs
              clear bs NS
              go_wp2_with fail
              go_roundw
              case rel => exact ⟨i + 1, _, by go_num, by omega, BS.out⟩
              case measure => simp [intOf]; omega
          have x2 : (x == 2) = false := by rw [beq_eq_false_iff_ne]; exact hx
          clear hx
          by_cases hx : x = 3
          · subst hx
            obtain ⟨d, hd⟩ : ∃ d, wr.heap.size = d := ⟨_, rfl⟩
            have P1 := Lib.hid (fun W (hl : Like (wr.alloc (.cells #[.int .i64 3, .int .i64 y, .int .i64 z] 29)) W) => BR.out.mid' HC.out hd.symm hl (fun X hr => HC.out.mark hr y z T0.out T1.out))
            have P2 := Lib.hid (fun w3 w4 (md : Mid Rep B g gm gb d F (Rn.mark F y z).2 w w3) (hl : Like w3 w4) => (md.like HC.out hl).both HC.out (fun hr => rmark_any hr y z))
            have hbd : Blk (wr.alloc (.cells #[.int .i64 3, .int .i64 y, .int .i64 z] 29)) d 29 #[.int .i64 3, .int .i64 y, .int .i64 z] := by rw [← hd]; exact Blk.new _ _ _
            have HK := Lib.hid (fun (w' : World) (h : w'.heap[d]? = (wr.alloc (.cells #[.int .i64 3, .int .i64 y, .int .i64 z] 29)).heap[d]?) => h.trans hbd)
            have Kp := Lib.hid (fun (w' : World) (h : Blk w' d 29 #[.int .i64 3, .int .i64 y, .int .i64 z]) => (⟨h.cell 1, h.cell 2⟩ : w'.cell? ⟨d, 1, none⟩ = some (.int .i64 y) ∧ w'.cell? ⟨d, 2, none⟩ = some (.int .i64 z)))
            generalize (Rn.mark F y z).2 = G at *
            generalize (Rn.mark F y z).1 = ok at *
            clear BR
            go_wp2_with fail
            go_region_held_law (fun w' => w'.cell? ⟨d, 1, none⟩ = some (.int .i64 y) ∧ w'.cell? ⟨d, 2, none⟩ = some (.int .i64 z)) (exact Kp.out _ hbd) (first
              | (go_at_call 17; refine (P1.out _ (by exact ⟨rfl, rfl, rfl, rfl⟩)).mono ?_; rintro e w3 ⟨rfl, md, hk⟩; have hbd := HK.out _ hk; clear hk)
              | (go_at_call 18; refine (P2.out _ _ md (by exact ⟨rfl, rfl, rfl, rfl⟩)).mono ?_; rintro e w4 ⟨rfl, bo, hk4⟩; have hbd := hk4.trans hbd; clear hk4))
            all_goals
              have NS := Lib.hid (bo.same HC.out)
              clear bo md P1 P2 HK Kp hbd
              cases ok
              all_goals
                go_wp2_with fail
                refine NS.out.mono ?_
                rintro e w5 ⟨rfl, bs⟩
                have BS := Lib.hid bs
                clear bs NS
                go_wp2_with fail
                go_roundw
                case rel => exact ⟨i + 1, _, by go_num, by omega, BS.out⟩
                case measure => simp [intOf]; omega
          have x3 : (x == 3) = false := by rw [beq_eq_false_iff_ne]; exact hx
          clear hx
          by_cases hx : x = 4
          · subst hx
            obtain ⟨d, hd⟩ : ∃ d, wr.heap.size = d := ⟨_, rfl⟩
            have P1 := Lib.hid (fun W (hl : Like (wr.alloc (.cells #[.int .i64 4, .int .i64 y, .int .i64 z] 29)) W) => BR.out.mid' HC.out hd.symm hl (fun X hr => HC.out.give hr y z T0.out T1.out))
            have P2 := Lib.hid (fun w3 w4 (md : Mid Rep B g gm gb d F (Rn.give F y z).2 w w3) (hl : Like w3 w4) => (md.like HC.out hl).both HC.out (fun hr => rgive_any hr y z))
            have hbd : Blk (wr.alloc (.cells #[.int .i64 4, .int .i64 y, .int .i64 z] 29)) d 29 #[.int .i64 4, .int .i64 y, .int .i64 z] := by rw [← hd]; exact Blk.new _ _ _
            have HK := Lib.hid (fun (w' : World) (h : w'.heap[d]? = (wr.alloc (.cells #[.int .i64 4, .int .i64 y, .int .i64 z] 29)).heap[d]?) => h.trans hbd)
            have Kp := Lib.hid (fun (w' : World) (h : Blk w' d 29 #[.int .i64 4, .int .i64 y, .int .i64 z]) => (⟨h.cell 1, h.cell 2⟩ : w'.cell? ⟨d, 1, none⟩ = some (.int .i64 y) ∧ w'.cell? ⟨d, 2, none⟩ = some (.int .i64 z)))
            generalize (Rn.give F y z).2 = G at *
            generalize (Rn.give F y z).1 = ok at *
            clear BR
            go_wp2_with fail
            go_region_held_law (fun w' => w'.cell? ⟨d, 1, none⟩ = some (.int .i64 y) ∧ w'.cell? ⟨d, 2, none⟩ = some (.int .i64 z)) (exact Kp.out _ hbd) (first
              | (go_at_call 19; refine (P1.out _ (by exact ⟨rfl, rfl, rfl, rfl⟩)).mono ?_; rintro e w3 ⟨rfl, md, hk⟩; have hbd := HK.out _ hk; clear hk)
              | (go_at_call 20; refine (P2.out _ _ md (by exact ⟨rfl, rfl, rfl, rfl⟩)).mono ?_; rintro e w4 ⟨rfl, bo, hk4⟩; have hbd := hk4.trans hbd; clear hk4))
            all_goals
              have NS := Lib.hid (bo.same HC.out)
              clear bo md P1 P2 HK Kp hbd
              cases ok
              all_goals
                go_wp2_with fail
                refine NS.out.mono ?_
                rintro e w5 ⟨rfl, bs⟩
                have BS := Lib.hid bs
                clear bs NS
                go_wp2_with fail
                go_roundw
                case rel => exact ⟨i + 1, _, by go_num, by omega, BS.out⟩
                case measure => simp [intOf]; omega
          have x4 : (x == 4) = false := by rw [beq_eq_false_iff_ne]; exact hx
          clear hx
          by_cases hx : x = 5
          · subst hx
            obtain ⟨d, hd⟩ : ∃ d, wr.heap.size = d := ⟨_, rfl⟩
            have P1 := Lib.hid (fun W (hl : Like (wr.alloc (.cells #[.int .i64 5, .int .i64 y, .int .i64 z] 29)) W) => BR.out.mid' HC.out hd.symm hl (fun X hr => HC.out.give hr y z T0.out T1.out))
            have P2 := Lib.hid (fun w3 w4 (md : Mid Rep B g gm gb d F (Rn.give F y z).2 w w3) (hl : Like w3 w4) => (md.like HC.out hl).both HC.out (fun hr => rgive_any hr y z))
            have hbd : Blk (wr.alloc (.cells #[.int .i64 5, .int .i64 y, .int .i64 z] 29)) d 29 #[.int .i64 5, .int .i64 y, .int .i64 z] := by rw [← hd]; exact Blk.new _ _ _
            have HK := Lib.hid (fun (w' : World) (h : w'.heap[d]? = (wr.alloc (.cells #[.int .i64 5, .int .i64 y, .int .i64 z] 29)).heap[d]?) => h.trans hbd)
            have Kp := Lib.hid (fun (w' : World) (h : Blk w' d 29 #[.int .i64 5, .int .i64 y, .int .i64 z]) => (⟨h.cell 1, h.cell 2⟩ : w'.cell? ⟨d, 1, none⟩ = some (.int .i64 y) ∧ w'.cell? ⟨d, 2, none⟩ = some (.int .i64 z)))
            generalize (Rn.give F y z).2 = G at *
            generalize (Rn.give F y z).1 = ok at *
            clear BR
            go_wp2_with fail
            go_region_held_law (fun w' => w'.cell? ⟨d, 1, none⟩ = some (.int .i64 y) ∧ w'.cell? ⟨d, 2, none⟩ = some (.int .i64 z)) (exact Kp.out _ hbd) (first
              | (go_at_call 19; refine (P1.out _ (by exact ⟨rfl, rfl, rfl, rfl⟩)).mono ?_; rintro e w3 ⟨rfl, md, hk⟩; have hbd := HK.out _ hk; clear hk)
              | (go_at_call 20; refine (P2.out _ _ md (by exact ⟨rfl, rfl, rfl, rfl⟩)).mono ?_; rintro e w4 ⟨rfl, bo, hk4⟩; have hbd := hk4.trans hbd; clear hk4))
            all_goals
              have NS := Lib.hid (bo.same HC.out)
              clear bo md P1 P2 HK Kp hbd
              cases ok
              all_goals
                go_wp2_with fail
                refine NS.out.mono ?_
                rintro e w5 ⟨rfl, bs⟩
                have BS := Lib.hid bs
                clear bs NS
                go_wp2_with fail
                go_roundw
                case rel => exact ⟨i + 1, _, by go_num, by omega, BS.out⟩
                case measure => simp [intOf]; omega
          have x5 : (x == 5) = false := by rw [beq_eq_false_iff_ne]; exact hx
          clear hx
          by_cases hx : x = 6
          · subst hx
            obtain ⟨d, hd⟩ : ∃ d, wr.heap.size = d := ⟨_, rfl⟩
            have P1 := Lib.hid (fun W (hl : Like (wr.alloc (.cells #[.int .i64 6, .int .i64 y, .int .i64 z] 29)) W) => BR.out.mid' HC.out hd.symm hl (fun X hr => HC.out.give hr y z T0.out T1.out))
            have P2 := Lib.hid (fun w3 w4 (md : Mid Rep B g gm gb d F (Rn.give F y z).2 w w3) (hl : Like w3 w4) => (md.like HC.out hl).both HC.out (fun hr => rgive_any hr y z))
            have hbd : Blk (wr.alloc (.cells #[.int .i64 6, .int .i64 y, .int .i64 z] 29)) d 29 #[.int .i64 6, .int .i64 y, .int .i64 z] := by rw [← hd]; exact Blk.new _ _ _
            have HK := Lib.hid (fun (w' : World) (h : w'.heap[d]? = (wr.alloc (.cells #[.int .i64 6, .int .i64 y, .int .i64 z] 29)).heap[d]?) => h.trans hbd)
            have Kp := Lib.hid (fun (w' : World) (h : Blk w' d 29 #[.int .i64 6, .int .i64 y, .int .i64 z]) => (⟨h.cell 1, h.cell 2⟩ : w'.cell? ⟨d, 1, none⟩ = some (.int .i64 y) ∧ w'.cell? ⟨d, 2, none⟩ = some (.int .i64 z)))
            generalize (Rn.give F y z).2 = G at *
            generalize (Rn.give F y z).1 = ok at *
            clear BR
            go_wp2_with fail
            go_region_held_law (fun w' => w'.cell? ⟨d, 1, none⟩ = some (.int .i64 y) ∧ w'.cell? ⟨d, 2, none⟩ = some (.int .i64 z)) (exact Kp.out _ hbd) (first
              | (go_at_call 19; refine (P1.out _ (by exact ⟨rfl, rfl, rfl, rfl⟩)).mono ?_; rintro e w3 ⟨rfl, md, hk⟩; have hbd := HK.out _ hk; clear hk)
              | (go_at_call 20; refine (P2.out _ _ md (by exact ⟨rfl, rfl, rfl, rfl⟩)).mono ?_; rintro e w4 ⟨rfl, bo, hk4⟩; have hbd := hk4.trans hbd; clear hk4))
            all_goals
              have NS := Lib.hid (bo.same HC.out)
              clear bo md P1 P2 HK Kp hbd
              cases ok
              all_goals
                go_wp2_with fail
                refine NS.out.mono ?_
                rintro e w5 ⟨rfl, bs⟩
                have BS := Lib.hid bs
                clear bs NS
                go_wp2_with fail
                go_roundw
                case rel => exact ⟨i + 1, _, by go_num, by omega, BS.out⟩
                case measure => simp [intOf]; omega
          have x6 : (x == 6) = false := by rw [beq_eq_false_iff_ne]; exact hx
          clear hx
          have hal : Below wr.heap.size wr (wr.alloc (.cells #[.int .i64 x, .int .i64 y, .int .i64 z] 29)) := (Below.refl _ _).alloc (Nat.le_refl _) _
          have NS := Lib.hid ((BR.out.below HC.out hal).same HC.out)
          clear BR hal
          go_wp2_with fail
          refine NS.out.mono ?_
          rintro e w5 ⟨rfl, bs⟩
          have BS := Lib.hid bs
          clear bs NS
          go_wp2_with fail
          go_roundw
          case rel => exact ⟨i + 1, _, by go_num, by omega, BS.out⟩
          case measure => simp [intOf]; omega
        · have hiq' : i = q := by omega
          subst hiq'
          have z0 : decide ((i : Int) < (i : Int)) = false := by simp
          have z0' : decide (i < i) = false := by simp
          obtain ⟨O, h1, h2, h3, h4⟩ := BR.out.has
          obtain ⟨XX, e1, e2⟩ := h4.has
          have N3 := Lib.hid (HC.out.copy (e1 0 g F rfl))
          have M3 := Lib.hid BR.out.ref
          have H3 := Lib.hid BR.out.bel
          have S3 := Lib.hid BR.out.few
          clear e1 e2 h1 h2 h3 h4 BR
          go_wp2_with fail
          refine N3.out.mono ?_
          rintro e w3 ⟨g', X', rfl, r3, x3, hb3⟩
          have H4 := Lib.hid (H3.out.trans (hb3.mono S3.out))
          have S4 := Lib.hid (Nat.le_trans S3.out hb3.size)
          have N4 := Lib.hid (same_any HC.out r3 (M3.out.keep (hb3.block gm M3.out.map.lt) (hb3.block gb M3.out.blks.lt)))
          clear r3 x3 hb3 N3 H3 M3 S3
          go_wp2_with fail
          refine N4.out.mono ?_
          rintro e w4 ⟨rfl, hb4⟩
          have H5 := Lib.hid (H4.out.trans (hb4.mono S4.out))
          clear hb4 N4 H4 S4
          go_wp2_with fail
          go_ret
          exact ⟨rfl, H5.out⟩
  exact key
end Go.Proofs.Ytfiafgmlbejboaa
