/- The document's map of free blocks: Greatest, Take. -/
import Derived.Test.YtfiafgmlbejboaaRlst
namespace Go.Proofs.Ytfiafgmlbejboaa
open Go.RowKit

theorem find_at {α : Type} {p : α → Bool} {d : α} : ∀ {l : List α} {i : Nat}, i < l.length → p (l.getD i d) = true → (∀ j, j < i → p (l.getD j d) = false) → l.find? p = some (l.getD i d)
  | x :: l, 0, _, h, _ => by rw [List.find?_cons_of_pos (show p x = true from h)]; rfl
  | x :: l, i + 1, hi, h, hb => by
    have h0 : p x = false := hb 0 (by omega)
    rw [List.find?_cons_of_neg (by rw [h0]; decide)]
    exact find_at (l := l) (i := i) (by simpa using hi) h (fun j hj => hb (j + 1) (by omega))
theorem find_no {α : Type} {p : α → Bool} {d : α} : ∀ {l : List α}, (∀ j, j < l.length → p (l.getD j d) = false) → l.find? p = none
  | [], _ => rfl
  | x :: l, h => by
    have h0 : p x = false := h 0 (by simp)
    rw [List.find?_cons_of_neg (by rw [h0]; decide)]
    exact find_no (l := l) (fun j hj => h (j + 1) (by simpa using hj))
theorem max_next (l : List (Nat × Nat)) {k : Nat} (h : k < l.length) : ((l.take (k + 1)).map (·.2)).foldl max 0 = max (((l.take k).map (·.2)).foldl max 0) (l.getD k (0, 0)).2 := by
  rw [List.take_add_one, List.getElem?_eq_getElem h, List.map_append, List.foldl_append, List.getD_eq_getElem?_getD, List.getElem?_eq_getElem h]; rfl
theorem max_few (l : List (Nat × Nat)) (m : Nat) (h : ∀ r ∈ l, r.2 ≤ m) : ∀ k, ((l.take k).map (·.2)).foldl max 0 ≤ m := by
  intro k
  induction k with
  | zero => simp
  | succ k ih =>
    by_cases hk : k < l.length
    · rw [max_next l hk]
      have := h (l.getD k (0, 0)) (by rw [List.getD_eq_getElem?_getD, List.getElem?_eq_getElem hk]; exact List.getElem_mem _)
      omega
    · rw [List.take_of_length_le (by omega)] at ih ⊢
      exact ih

set_option maxRecDepth 4000 in
set_option maxHeartbeats 4000000 in
theorem rgreat_any {w : World} {g gb : Nat} {F : List Bool} (h : RRef w g gb F) :
    Calls Try.prog 52 #[.pointer (some ⟨g, 0, none⟩)] w fun e w' => e = .returned (.int .i64 (Rn.greatest F : Int)) ∧ Below w.heap.size w w' := by
  have N1 := Lib.hid (rlist_any h)
  have hf := h.few
  have few := listK_few F F.length
  have fit := fun r hr => Rn.list_end F r hr
  have Hg := Lib.hid (show ((Rn.list F).map (·.2)).foldl max 0 = Rn.greatest F from rfl)
  have hq8 : (Rn.list F).length ≤ 8192 := Nat.le_trans few hf
  have Few := Lib.hid (max_few (Rn.list F) 8192 (fun r hr => by have := fit r hr; omega))
  generalize Rn.list F = L at *
  clear h hf few fit
  obtain ⟨q, hq⟩ : ∃ q, q = L.length := ⟨_, rfl⟩
  have Hq := Lib.hid hq
  rw [← hq] at hq8
  clear hq
  go_enter Try.func52, Try.ntmps52
  go_wp2_with fail
  refine N1.out.mono ?_
  rintro e w1 ⟨v, rfl, own, hb⟩
  obtain ⟨A, c, rfl⟩ := ownR_slice own
  rw [← Hq.out]
  have Own := Lib.hid own
  have HB := Lib.hid hb
  clear own hb N1
  go_wp2_with fail
  go_loop [4, 5] (fun n i => ∃ k : Nat, i = .int .i64 (k : Int) ∧ k ≤ q ∧ n = .int .i64 ((((L.take k).map (·.2)).foldl max 0 : Nat) : Int)) (fun _ i => q - (intOf i).toNat)
  case atStart => exact ⟨0, rfl, Nat.zero_le _, rfl⟩
  case round =>
    obtain ⟨k, rfl, hk, rfl⟩ := hrel
    by_cases hkq : k < q
    · have z0 : decide ((k : Int) < (q : Int)) = true := by rw [decide_eq_true_eq]; omega
      have z0' : decide (k < q) = true := by rw [decide_eq_true_eq]; exact hkq
      obtain ⟨gl, c', e, hgl, hgl2, hcell, hfz, hset⟩ := ownR_at Own.out (by rw [← Hq.out]; omega)
      injection e with e _ _
      subst e
      obtain ⟨-, cl2⟩ := hcell k (by rw [← Hq.out]; exact hkq)
      have hn := max_next L (k := k) (by rw [← Hq.out]; exact hkq)
      have hb0 := Few.out k
      have hb1 := Few.out (k + 1)
      have Hn := Lib.hid hn
      clear hcell hfz hset hn
      generalize (L.getD k (0, 0)).2 = y at *
      generalize ((L.take k).map (·.2)).foldl max 0 = x at *
      obtain ⟨mx, hmx⟩ : ∃ mx : Nat, mx = max x y := ⟨_, rfl⟩
      have hmax : ∀ (ts : Array TypeId) (t : TypeId) (W : World), (Builtin.max_ ts t #[.int .i64 (x : Int), .int .i64 (y : Int)]).run Try.prog W = .ok (.int .i64 (mx : Int)) W := fun ts t W => by
        rw [run_max_int2, show (if (x : Int) < (y : Int) then (y : Int) else (x : Int)) = (mx : Int) by rw [hmx]; split <;> omega]
      have Hmx := Lib.hid hmx
      clear hmx
      go_wp2_with fail
      go_round
      case rel => exact ⟨k + 1, by go_num, by omega, by rw [Hn.out, Hmx.out]⟩
      case measure => simp [intOf]; omega
    · have hkq' : k = q := by omega
      subst hkq'
      have z0 : decide ((k : Int) < (k : Int)) = false := by simp
      have z0' : decide (k < k) = false := by simp
      rw [List.take_of_length_le (by rw [← Hq.out]; exact Nat.le_refl _), Hg.out]
      go_wp2_with fail
      go_ret
      exact ⟨rfl, HB.out⟩

/-- How Take ends. -/
def TakR (g gb : Nat) (R : Nat × Bool × List Bool) (w : World) (e : Ending) (w' : World) : Prop := e = .returned (.tuple #[.int .i64 (R.1 : Int), .bool R.2.1]) ∧ RRef w' g gb R.2.2 ∧ Chg (fun b => b = gb) w w'
theorem below_chg {F : Nat → Prop} {w w' : World} (h : Below w.heap.size w w') : Chg F w w' := Chg.of_below F h

set_option maxRecDepth 8000 in
set_option maxHeartbeats 8000000 in
theorem rtake_any {w : World} {g gb : Nat} {F : List Bool} (h : RRef w g gb F) (n : Int) :
    Calls Try.prog 16 #[.pointer (some ⟨g, 0, none⟩), .int .i64 n] w (TakR g gb (Rn.take F n) w) := by
  have N1 := Lib.hid (rlist_any h)
  have hf := h.few
  have few := listK_few F F.length
  have H := Lib.hid h
  obtain ⟨R, hR⟩ : ∃ R, R = Rn.take F n := ⟨_, rfl⟩
  rw [← hR]
  unfold Rn.take at hR
  have hq8 : (Rn.list F).length ≤ 8192 := Nat.le_trans few hf
  have Fit := Lib.hid (Rn.list_end F)
  generalize hLL : Rn.list F = L at *
  have hgl0 := h.map.lt
  have hgl1 := h.blks.lt
  obtain ⟨m, hm⟩ : ∃ m, m = F.length := ⟨_, rfl⟩
  rw [← hm] at Fit hf
  have Hm := Lib.hid hm
  clear h few hm
  obtain ⟨q, hq⟩ : ∃ q, q = L.length := ⟨_, rfl⟩
  have Hq := Lib.hid hq
  rw [← hq] at hq8
  by_cases hn : n < 1
  · rw [if_pos hn] at hR
    have HR := Lib.hid hR
    have z1 : decide (0 < n) = false := by rw [decide_eq_false_iff_not]; omega
    clear hR hn hLL hq
    go_enter Try.func16, Try.ntmps16
    go_wp2_with fail
    refine N1.out.mono ?_
    rintro e w1 ⟨v, rfl, own, hb⟩
    obtain ⟨A, c, rfl⟩ := ownR_slice own
    rw [← Hq.out]
    have Fin := Lib.hid (show TakR g gb R w (.returned (.tuple #[.int .i64 0, .bool false])) w1 from by
      rw [HR.out]; exact ⟨rfl, H.out.keep (hb.block g hgl0) (hb.block gb hgl1), below_chg hb⟩)
    clear own hb N1
    by_cases h0 : 0 < q
    · have z0 : decide ((0 : Int) < (q : Int)) = true := by rw [decide_eq_true_eq]; omega
      have z0' : decide (0 < q) = true := by rw [decide_eq_true_eq]; exact h0
      go_wp2_with fail
      go_loopw [7] (fun v wr => v = .int .i64 0 ∧ wr = w1) (fun _ _ => 0)
      case atStart => exact ⟨rfl, rfl⟩
      case round =>
        obtain ⟨rfl, rfl⟩ := hrel
        go_wp2_with fail
        go_returns
        exact Fin.out
    · obtain rfl : q = 0 := by omega
      go_wp2_with fail
      go_loopw [7] (fun v wr => v = .int .i64 0 ∧ wr = w1) (fun _ _ => 0)
      case atStart => exact ⟨rfl, rfl⟩
      case round =>
        obtain ⟨rfl, rfl⟩ := hrel
        go_wp2_with fail
        go_returns
        exact Fin.out
  rw [if_neg hn] at hR
  obtain ⟨k, rfl⟩ : ∃ k : Nat, n = (k : Int) := ⟨n.toNat, by omega⟩
  have hk1 : 1 ≤ k := by omega
  have z1 : decide ((0 : Int) < (k : Int)) = true := by rw [decide_eq_true_eq]; omega
  have z1' : decide (0 < k) = true := by rw [decide_eq_true_eq]; omega
  have HR := Lib.hid hR
  clear hR hn hLL hq
  go_enter Try.func16, Try.ntmps16
  go_wp2_with fail
  refine N1.out.mono ?_
  rintro e w1 ⟨v, rfl, own, hb⟩
  obtain ⟨A, c, rfl⟩ := ownR_slice own
  rw [← Hq.out]
  have Own := Lib.hid own
  have HB := Lib.hid hb
  clear own hb N1
  go_wp2_with fail
  go_loopw [7] (fun v wr => ∃ i : Nat, v = .int .i64 (i : Int) ∧ i ≤ q ∧ wr = w1 ∧ ∀ j, j < i → decide ((k : Int) ≤ (((L.getD j (0, 0)).2 : Nat) : Int)) = false) (fun v _ => q - (intOf v).toNat)
  case atStart => exact ⟨0, rfl, Nat.zero_le _, rfl, fun j hj => absurd hj (by omega)⟩
  case round =>
    obtain ⟨i, rfl, hi, hwr, hno⟩ := hrel
    replace hwr := hwr.symm
    subst hwr
    have Hno := Lib.hid hno
    clear hno
    by_cases hiq : i < q
    · have z0 : decide ((i : Int) < (q : Int)) = true := by rw [decide_eq_true_eq]; omega
      have z0' : decide (i < q) = true := by rw [decide_eq_true_eq]; exact hiq
      obtain ⟨gl, c', e, hgl, hgl2, hcell, hfz, hset⟩ := ownR_at Own.out (by rw [← Hq.out]; omega)
      injection e with e _ _
      subst e
      obtain ⟨cl1, cl2⟩ := hcell i (by rw [← Hq.out]; exact hiq)
      have hfit := Fit.out (L.getD i (0, 0)) (by rw [List.getD_eq_getElem?_getD, List.getElem?_eq_getElem (by rw [← Hq.out]; exact hiq)]; exact List.getElem_mem _)
      have hat : decide ((k : Int) ≤ (((L.getD i (0, 0)).2 : Nat) : Int)) = true → L.find? (fun r => decide ((k : Int) ≤ (r.2 : Int))) = some (L.getD i (0, 0)) := fun h => find_at (d := (0, 0)) (by rw [← Hq.out]; exact hiq) h Hno.out
      obtain ⟨x1, hx1⟩ : ∃ x, x = (L.getD i (0, 0)).1 := ⟨_, rfl⟩
      obtain ⟨x2, hx2⟩ : ∃ x, x = (L.getD i (0, 0)).2 := ⟨_, rfl⟩
      rw [← hx1] at cl1 hfit
      rw [← hx2] at cl2 hfit hat
      have Hx1 := Lib.hid hx1
      have Hx2 := Lib.hid hx2
      clear hcell hfz hset hx1 hx2
      by_cases hkx : k ≤ x2
      · have z2 : decide ((k : Int) ≤ (x2 : Int)) = true := by rw [decide_eq_true_eq]; omega
        have z2' : decide (k ≤ x2) = true := by rw [decide_eq_true_eq]; exact hkx
        have hr := HR.out
        rw [hat z2] at hr
        simp only [Int.toNat_natCast] at hr
        rw [← Hx1.out] at hr
        have Hr := Lib.hid hr
        have R0 := Lib.hid (H.out.keep (HB.out.block g hgl0) (HB.out.block gb hgl1))
        have hne : gl ≠ gb := by omega
        have hxm : x1 + k ≤ m := by omega
        have Cl := Lib.hid cl1
        clear hat hr cl1
        go_wp2_with fail
        go_loopw [8] (fun v wr => ∃ j : Nat, v = .int .i64 (j : Int) ∧ j ≤ k ∧ RRef wr g gb (Rn.setN F x1 false j) ∧ Chg (fun b => b = gb) w1 wr) (fun v _ => k - (intOf v).toNat)
        case atStart => exact ⟨0, rfl, Nat.zero_le _, R0.out, Chg.refl _ _⟩
        case round =>
          obtain ⟨j, rfl, hj, hrr, hc⟩ := hrel
          have cl1 : wr.cell? ⟨gl, i * 2, none⟩ = some (.int .i64 (x1 : Int)) := by
            rw [World.cell?_of_block (hc.block gl hgl2 hne)]; exact Cl.out
          by_cases hjk : j < k
          · have y0 : decide ((j : Int) < (k : Int)) = true := by rw [decide_eq_true_eq]; omega
            have y0' : decide (j < k) = true := by rw [decide_eq_true_eq]; exact hjk
            obtain ⟨p, hp⟩ : ∃ p : Nat, p = x1 + j := ⟨_, rfl⟩
            have s1 : (x1 : Int) + (j : Int) = (p : Int) := by omega
            have s1w : IntKind.i64.wrap ((x1 : Int) + (j : Int)) = (p : Int) := by rw [s1, IntKind.wrap_i64]; omega
            have s1v : IntKind.i64.wrap (p : Int) = (p : Int) := by rw [IntKind.wrap_i64]; omega
            have c0 : wr.cell? ⟨g, 0, none⟩ = some (.slice (some ⟨gb, 0, none⟩) m m) := by
              have := hrr.map.cell 0
              rw [Rn.setN_len, ← Hm.out] at this
              exact this
            have zp : p < m := by omega
            have zp2 : (0 : Int) ≤ (p : Int) ∧ (p : Int) < (m : Int) := by omega
            have zi2 : (0 : Int) ≤ (i : Int) ∧ (i : Int) < (q : Int) := by omega
            have cq := hrr.blks.cell p
            rw [bls_at (by rw [Rn.setN_len, ← Hm.out]; exact zp)] at cq
            have fq := hrr.blks.frozen p
            have St := Lib.hid (show RRef ((wr.setCell ⟨gb, p, none⟩ (.bool false)).drew) g gb (Rn.setN F x1 false (j + 1)) by
              rw [Rn.setN, ← hp]; exact (hrr.set_ p false).keep rfl rfl)
            have Sc := Lib.hid (hc.setCell (p := ⟨gb, p, none⟩) (.inl rfl) (.bool false)).drew
            clear hrr hc hp R0
            generalize (Rn.setN F x1 false j).getD p false = y at *
            go_wp2_with fail
            go_region
            all_goals
              go_wp2_with fail
              go_roundw
              case rel => exact ⟨j + 1, by go_num, by omega, St.out, Sc⟩
              case measure => simp [intOf]; omega
          · have hjk' : j = k := by omega
            subst hjk'
            have y0 : decide ((j : Int) < (j : Int)) = false := by simp
            have y0' : decide (j < j) = false := by simp
            have Fin := Lib.hid (show TakR g gb R w (.returned (.tuple #[.int .i64 (x1 : Int), .bool true])) wr from by
              rw [Hr.out]; exact ⟨rfl, hrr, (below_chg HB.out).then_ hc⟩)
            clear hrr hc hjk
            go_wp2_with fail
            go_returns
            exact Fin.out
      · have z2 : decide ((k : Int) ≤ (x2 : Int)) = false := by rw [decide_eq_false_iff_not]; omega
        have z2' : decide (k ≤ x2) = false := by rw [decide_eq_false_iff_not]; exact hkx
        have Z2 := Lib.hid z2
        clear hat hkx
        go_wp2_with fail
        go_roundw
        case rel =>
          refine ⟨i + 1, by go_num, by omega, by trivial, fun j hj => ?_⟩
          by_cases he : j = i
          · rw [he, ← Hx2.out]; exact Z2.out
          · exact Hno.out j (by omega)
        case measure => simp [intOf]; omega
    · have hiq' : i = q := by omega
      subst hiq'
      have z0 : decide ((i : Int) < (i : Int)) = false := by simp
      have z0' : decide (i < i) = false := by simp
      have hr := HR.out
      rw [find_no (d := (0, 0)) (l := L) (p := fun r => decide ((k : Int) ≤ (r.2 : Int))) (fun j hj => Hno.out j (by rw [Hq.out]; exact hj))] at hr
      have Fin := Lib.hid (show TakR g gb R w (.returned (.tuple #[.int .i64 0, .bool false])) w1 from by
        rw [hr]; exact ⟨rfl, H.out.keep (HB.out.block g hgl0) (HB.out.block gb hgl1), below_chg HB.out⟩)
      clear hr hiq
      go_wp2_with fail
      go_returns
      exact Fin.out
end Go.Proofs.Ytfiafgmlbejboaa
