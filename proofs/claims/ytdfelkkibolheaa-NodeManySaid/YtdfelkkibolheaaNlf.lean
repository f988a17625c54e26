/- The statement NodeFinds. -/
import Derived.Test.YtdfelkkibolheaaNla
namespace Go.Proofs.Ytdfelkkibolheaa
open Go.RowKit Vint

theorem few_is {w : World} {B : Nat} {v : Value} {n : Nd.N} (h : NdAt w B v n) (r : Bool) (hr : decide (FewOk n) = r) : Calls Try.prog 41 #[v] w fun e w' => e = .returned (.bool r) ∧ Below w.heap.size w w' := by
  rw [← hr]; exact few_any h
set_option maxRecDepth 8000 in
set_option maxHeartbeats 16000000 in
theorem finds_any {w : World} {v : Value} {n : Nd.N} (h : NdAt w w.heap.size v n) (key : Int) : Calls Try.prog 11 #[v, .int .i64 key] w fun e w' => e = .returned (.bool true) ∧ Below w.heap.size w w' := by
  obtain ⟨A1, c1, A2, c2, A3, c3, A4, c4, rfl, hf⟩ := h
  obtain ⟨W, hW⟩ : ∃ W, w.alloc (.cells #[.int .i64 n.h, .slice A1 n.ks.length c1, .slice A2 n.ps.length c2, .slice A3 n.gs.length c3, .slice A4 n.cs.length c4] 60) = W := ⟨_, rfl⟩
  obtain ⟨b, hb⟩ : ∃ b, w.heap.size = b := ⟨_, rfl⟩
  have b0 : Below b w W := by rw [← hW, ← hb]; exact (Below.refl _ _).alloc (Nat.le_refl _) _
  have nb : NB 60 W b n A1 c1 A2 c2 A3 c3 A4 c4 := ⟨by rw [← hW, ← hb]; exact Blk.new _ _ _, (hf.below (by rw [hb]; exact b0)).more (by rw [hb]; exact Nat.le_trans (Nat.le_of_eq hb.symm) b0.size)⟩
  have HB := Lib.hid (show Below b w W ∧ b ≤ W.heap.size from ⟨b0, Nat.le_trans (Nat.le_of_eq hb.symm) b0.size⟩)
  have Cs := Lib.hid (fun (V : World) (h : Below W.heap.size W V) => show V.cell? ⟨b, 0, none⟩ = some (.int .i64 n.h) ∧ V.cell? ⟨b, 1, none⟩ = some (.slice A1 n.ks.length c1) ∧ V.cell? ⟨b, 2, none⟩ = some (.slice A2 n.ps.length c2) ∧ V.cell? ⟨b, 3, none⟩ = some (.slice A3 n.gs.length c3) ∧ V.cell? ⟨b, 4, none⟩ = some (.slice A4 n.cs.length c4) from (nb.below h).cells)
  have NA := Lib.hid (fun (V : World) (h : Below W.heap.size W V) => show NdAt V V.heap.size (.agg #[.int .i64 n.h, .slice A1 n.ks.length c1, .slice A2 n.ps.length c2, .slice A3 n.gs.length c3, .slice A4 n.cs.length c4]) n from (nb.below h).at_)
  have Fi := Lib.hid (fun (V : World) (h : Below W.heap.size W V) => show Below b w V from b0.trans (h.mono (Nat.le_trans (Nat.le_of_eq hb.symm) b0.size)))
  have NK := Lib.hid (nawake_any W)
  rw [hb]
  obtain ⟨x0, x1, x2, x3, x4⟩ := Cs.out W (Below.refl _ _)
  clear nb b0 hf
  by_cases hfew : FewOk n
  case neg =>
    have hfw : decide (FewOk n) = false := decide_eq_false hfew
    clear hfew
    go_enter Try.func11, Try.ntmps11
    go_wp2_with (first
      | (go_at_call 40; ((with_reducible refine NK.out.mono ?_); rintro e w1 ⟨rfl, b1⟩; have B1 := Lib.hid b1; obtain ⟨x0, x1, x2, x3, x4⟩ := Cs.out w1 B1.out; have NF := Lib.hid (few_is (NA.out w1 B1.out) _ hfw); clear b1))
      | (go_at_call 41; ((with_reducible refine NF.out.mono ?_); rintro e w2 ⟨rfl, b2⟩; have B2 := Lib.hid (B1.out.trans (b2.mono B1.out.size)); obtain ⟨x0, x1, x2, x3, x4⟩ := Cs.out w2 B2.out; clear b2)))
    go_ret
    exact ⟨rfl, Fi.out _ B2.out⟩
  have hfw : decide (FewOk n) = true := decide_eq_true hfew
  by_cases hok : Nd.Ok n
  case neg =>
    have NM0 := Lib.hid (fun (V : World) (h : Below W.heap.size W V) => rmay_any (NA.out V h) false ⟨(fun h => by cases h), fun h => absurd h hok⟩)
    clear hfew hok
    go_enter Try.func11, Try.ntmps11
    go_wp2_with (first
      | (go_at_call 40; ((with_reducible refine NK.out.mono ?_); rintro e w1 ⟨rfl, b1⟩; have B1 := Lib.hid b1; obtain ⟨x0, x1, x2, x3, x4⟩ := Cs.out w1 B1.out; have NF := Lib.hid (few_is (NA.out w1 B1.out) _ hfw); clear b1))
      | (go_at_call 41; ((with_reducible refine NF.out.mono ?_); rintro e w2 ⟨rfl, b2⟩; have B2 := Lib.hid (B1.out.trans (b2.mono B1.out.size)); obtain ⟨x0, x1, x2, x3, x4⟩ := Cs.out w2 B2.out; have NM := Lib.hid (NM0.out w2 B2.out); clear b2))
      | (go_at_call 46; ((with_reducible refine NM.out.mono ?_); rintro e w3 ⟨rfl, b3⟩; have B3 := Lib.hid (B2.out.trans (b3.mono B2.out.size)); obtain ⟨x0, x1, x2, x3, x4⟩ := Cs.out w3 B3.out; clear b3)))
    go_ret
    exact ⟨rfl, Fi.out _ B3.out⟩
  have NM0 := Lib.hid (fun (V : World) (h : Below W.heap.size W V) => rmay_any (NA.out V h) true ⟨fun _ => hok, fun _ => rfl⟩)
  have NN0 := Lib.hid (fun (V : World) (h : Below W.heap.size W V) => node_any (NA.out V h) hfew)
  have lk : n.ks.length ≤ 1000 := by have := hok.few; omega
  obtain ⟨q, hq⟩ : ∃ q, q = Nd.find n.ks key := ⟨_, rfl⟩
  have NP0 := Lib.hid (fun (V : World) (v : Value) (h : NdAt V V.heap.size v n) => show Calls Try.prog 51 #[v, .int .i64 key] V fun e w' => e = .returned (.tuple #[.int .i64 (q.1 : Int), .bool q.2]) ∧ Below V.heap.size V w' from by rw [hq]; exact find_any h key lk)
  have NR0 := Lib.hid (fun (V : World) (h : Below W.heap.size W V) => show Calls Try.prog 52 #[(.agg #[.int .i64 n.h, .slice A1 n.ks.length c1, .slice A2 n.ps.length c2, .slice A3 n.gs.length c3, .slice A4 n.cs.length c4]), .int .i64 key] V fun e w' => e = .returned (.tuple #[.int .i64 (q.1 : Int), .bool q.2]) ∧ Below V.heap.size V w' from by rw [hq]; exact rfind_any (NA.out V h) key lk)
  obtain ⟨q1, q2⟩ := q
  clear hfew hok hq
  go_enter Try.func11, Try.ntmps11
  go_wp2_with (first
    | (go_at_call 40; ((with_reducible refine NK.out.mono ?_); rintro e w1 ⟨rfl, b1⟩; have B1 := Lib.hid b1; obtain ⟨x0, x1, x2, x3, x4⟩ := Cs.out w1 B1.out; have NF := Lib.hid (few_is (NA.out w1 B1.out) _ hfw); clear b1))
    | (go_at_call 41; ((with_reducible refine NF.out.mono ?_); rintro e w2 ⟨rfl, b2⟩; have B2 := Lib.hid (B1.out.trans (b2.mono B1.out.size)); obtain ⟨x0, x1, x2, x3, x4⟩ := Cs.out w2 B2.out; have NM := Lib.hid (NM0.out w2 B2.out); clear b2))
    | (go_at_call 46; ((with_reducible refine NM.out.mono ?_); rintro e w3 ⟨rfl, b3⟩; have B3 := Lib.hid (B2.out.trans (b3.mono B2.out.size)); obtain ⟨x0, x1, x2, x3, x4⟩ := Cs.out w3 B3.out; have NN := Lib.hid (NN0.out w3 B3.out); clear b3))
    | (go_at_call 43; ((with_reducible refine NN.out.mono ?_); rintro e w4 ⟨v4, rfl, g4, b4⟩; have B4 := Lib.hid (B3.out.trans (b4.mono B3.out.size)); obtain ⟨x0, x1, x2, x3, x4⟩ := Cs.out w4 B4.out; have NP := Lib.hid (NP0.out w4 v4 g4); clear g4; clear b4))
    | (go_at_call 51; ((with_reducible refine NP.out.mono ?_); rintro e w5 ⟨rfl, b5⟩; have B5 := Lib.hid (B4.out.trans (b5.mono B4.out.size)); obtain ⟨x0, x1, x2, x3, x4⟩ := Cs.out w5 B5.out; have NR := Lib.hid (NR0.out w5 B5.out); clear b5))
    | (go_at_call 52; ((with_reducible refine NR.out.mono ?_); rintro e w6 ⟨rfl, b6⟩; have B6 := Lib.hid (B5.out.trans (b6.mono B5.out.size)); obtain ⟨x0, x1, x2, x3, x4⟩ := Cs.out w6 B6.out; clear b6)))
  all_goals
    go_ret
    exact ⟨by simp, Fi.out _ B6.out⟩
end Go.Proofs.Ytdfelkkibolheaa
