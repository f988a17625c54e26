/- slices.symMergeCmpFunc where the last element is set into the others. -/
import Derived.Test.YthcppebfhjleiaaSymA
namespace Go.Proofs.Ythcppebfhjleiaa
open Go.RowKit Go.Shelf Go.Lib Go.Sort

set_option maxRecDepth 20000 in
set_option maxHeartbeats 8000000 in
theorem symLast {w0 : World} {blk N : Nat} (s : Srt w0 blk N) {c : Fin 256 → Int} {g : Nat} {cb : Array Value} (C : Cmp c g cb w0 blk N) (cap : Nat) (P X S : List (Fin 256)) (y : Fin 256) (a m b : Nat) (ha : P.length = a) (hm : a + X.length = m) (hb : m + 1 = b) (hx : 2 ≤ X.length)
    (hX : X.Pairwise (Tot c)) (hB : ∀ x ∈ X, x.val < y.val) (hN : (P ++ ((X ++ [y]) ++ S)).length = N) (w : World) (h : Sl1 w0 blk (P ++ ((X ++ [y]) ++ S)) w) :
    Calls Try.prog 30 #[.slice (some ⟨blk, 0, none⟩) N cap, .int .i64 a, .int .i64 m, .int .i64 b, .func (.func g) #[] cb] w fun e w' => e = .returned (.tuple #[]) ∧ ∃ Z : List (Fin 256), Z.Perm (X ++ [y]) ∧ Z.Pairwise (Tot c) ∧ Sl1 w0 blk (P ++ (Z ++ S)) w' := by
  have hbig := s.small
  have hbn : b ≤ N := by simp at hN; omega
  obtain ⟨f, hf⟩ : ∃ f : Nat → Bool, f = fun h => !decide (c y < c (X.getD (h - a) 0)) := ⟨_, rfl⟩
  have Fin_ := Lib.hid (show ∀ i, Se f a m i i → (X.take (i - a) ++ y :: X.drop (i - a)).Pairwise (Tot c) from fun i si => by
    rw [← hm] at si
    refine put_in hX si (fun k hk hf1 => ?_) (fun k hk hf1 => ?_)
    · rw [hf] at hf1
      simp only [Bool.not_eq_true', decide_eq_false_iff_not] at hf1
      rw [show a + k - a = k by omega, List.getD_eq_getElem?_getD, List.getElem?_eq_getElem hk] at hf1
      exact Tot.of_not (hB _ (List.getElem_mem hk)) hf1
    · rw [hf] at hf1
      simp only [Bool.not_eq_false', decide_eq_true_eq] at hf1
      rw [show a + k - a = k by omega, List.getD_eq_getElem?_getD, List.getElem?_eq_getElem hk] at hf1
      exact Tot.of_lt hf1)
  have hl : (P ++ ((X ++ [y]) ++ S)).length = N := hN
  have F := Lib.hid (show ∀ h, f h = !decide (c y < c (X.getD (h - a) 0)) from fun h => by rw [hf])
  have Hw := Lib.hid h
  have Hs := Lib.hid s
  have HC := Lib.hid C
  have Ha := Lib.hid ha
  have Hm := Lib.hid hm
  have HN := Lib.hid hN
  have eg := C.enter
  have mixed : Try.prog.follows .mixedOrders = true := by kernel_rfl
  obtain ⟨d, hd⟩ : ∃ d, d = X.length := ⟨_, rfl⟩
  have z1 : (m : Int) - (a : Int) = (d : Int) := by omega
  have z1b : ((d : Int) == 1) = false := by simp; omega
  have z2 : (b : Int) - (m : Int) = 1 := by omega
  have hmb : m < b := by omega
  have ham : a < m := by omega
  have cellM := Lib.hid (show (P ++ ((X ++ [y]) ++ S)).toArray[m]! = y from arr_at' (P := P ++ X) (S := S) (by simp) (by simp; omega))
  have cellX := Lib.hid (show ∀ h, a ≤ h → h < m → (P ++ ((X ++ [y]) ++ S)).toArray[h]! = X.getD (h - a) 0 from fun h h1 h2 => by
    obtain ⟨k, rfl⟩ : ∃ k, h = a + k := ⟨h - a, by omega⟩
    rw [show a + k - a = k by omega, List.getD_eq_getElem?_getD, List.getElem?_eq_getElem (by omega)]
    refine arr_at' (P := P ++ X.take k) (S := X.drop (k + 1) ++ ([y] ++ S)) ?_ ?_
    · conv => lhs; rw [← List.take_append_drop k X, List.drop_eq_getElem_cons (by omega : k < X.length)]
      simp only [List.append_assoc, List.cons_append, Option.getD_some]
    · simp only [List.length_append, List.length_take]; omega)
  clear h s C ha hb hN hX hB hf hx hd
  go_enter Try.func30, Try.ntmps30
  go_wp2_with fail
  go_loopw [14, 15, 16] (fun vi vj _ wr => ∃ i j : Nat, vi = .int .i64 i ∧ vj = .int .i64 j ∧ Se f a m i j ∧ Sl1 w0 blk (P ++ ((X ++ [y]) ++ S)) wr) (fun vi vj _ _ => (intOf vj).toNat - (intOf vi).toNat)
  case atStart => exact ⟨a, m, rfl, rfl, Se.start f (by omega), Hw.out⟩
  case round =>
    obtain ⟨i, j, rfl, rfl, se, hw⟩ := hrel
    have Se_ := Lib.hid se
    have hi1 := se.l1
    have hi2 := se.mid
    have hi3 := se.l2
    clear se Hw
    by_cases hlt : i < j
    · have hltz : (i : Int) < (j : Int) := by omega
      have Hw := Lib.hid hw
      clear hw hm
      go_wp2_with fail
      obtain ⟨h, hh, hh2⟩ := half_is i j
      rw [hh]
      have hih : i ≤ h := by omega
      have hhj : h < j := by omega
      have hhN : h < N := by omega
      clear hh hh2
      have l1 := fun n os => (Hw.out.grown n os).at_ Hs.out hl (i := m) (by omega) cellM.out
      have l2 := fun n os => (Hw.out.grown n os).at_ Hs.out hl (i := h) (by omega) (cellX.out h (by omega) (by omega))
      have hc := Hw.out.cmp HC.out hl y (X.getD (h - a) 0)
      have hv := cmpV_neg c y (X.getD (h - a) 0)
      have hf := F.out h
      rw [← hv] at hf
      have Up := Lib.hid (fun hf : f h = true => Se_.out.up hih hhj hf)
      have Dn := Lib.hid (fun hf : f h = false => Se_.out.down hih hhj hf)
      clear hv
      generalize X.getD (h - a) 0 = x at *
      generalize cmpV c y x = r at *
      obtain ⟨q, hq⟩ : ∃ q, q = decide (r < 0) := ⟨_, rfl⟩
      rw [← hq] at hf
      have hq' : decide (r < 0) = q := hq.symm
      clear hq
      have hhz : (0 : Int) ≤ (h : Int) ∧ (h : Int) < (N : Int) := by omega
      have hmz : (0 : Int) ≤ (m : Int) ∧ (m : Int) < (N : Int) := by omega
      clear cellX cellM Se_
      cases q with
      | false =>
        have Hf := Lib.hid hf
        clear hf
        go_quiet_grown (first | (go_at_fn g; refine Calls.grown_of (hc _ _)))
        have S2 := Lib.hid (Hw.out.grown nq osq)
        clear Hw l1 l2 hc
        generalize grow (wr.drewN nq) osq = w2 at S2 ⊢
        clear nq osq
        go_wp2_with fail
        go_roundw
        case rel => exact ⟨h + 1, j, by go_num, rfl, Up.out (by simpa using Hf.out), S2.out⟩
        case measure => simp [intOf]; omega
      | true =>
        have Hf := Lib.hid hf
        clear hf
        go_quiet_grown (first | (go_at_fn g; refine Calls.grown_of (hc _ _)))
        have S2 := Lib.hid (Hw.out.grown nq osq)
        clear Hw l1 l2 hc
        generalize grow (wr.drewN nq) osq = w2 at S2 ⊢
        clear nq osq
        go_wp2_with fail
        go_roundw
        case rel => exact ⟨i, h, rfl, rfl, Dn.out (by simpa using Hf.out), S2.out⟩
        case measure => simp [intOf]; omega
    · have hltz : ¬ (i : Int) < (j : Int) := by omega
      obtain rfl : i = j := by omega
      have Z := Lib.hid (Fin_.out i Se_.out)
      have Hw := Lib.hid hw
      clear hw F Fin_ cellM cellX hi2 hm z1 z2
      go_wp2_with fail
      go_loopw [17] (fun vk wr => ∃ q : Nat, i ≤ q ∧ q ≤ m ∧ vk = .int .i64 (q : Int) ∧ Sl1 w0 blk (P ++ ((X.take (q - a) ++ y :: X.drop (q - a)) ++ S)) wr) (fun vk _ => (intOf vk).toNat - i)
      case atStart => exact ⟨m, by omega, by omega, rfl, by have := Hm.out; rw [List.take_of_length_le (by omega), List.drop_eq_nil_of_le (by omega)]; simpa using Hw.out⟩
      case round =>
        obtain ⟨q, hiq, hqm, rfl, hw⟩ := hrel
        by_cases hgo : i < q
        · have q1 : decide ((i : Int) < (q : Int)) = true := by rw [decide_eq_true_eq]; omega
          have hltz : (i : Int) < (q : Int) := by omega
          obtain ⟨k, hk⟩ : ∃ k, k = q - a - 1 := ⟨_, rfl⟩
          obtain ⟨p, hp⟩ : ∃ p, p = a + k := ⟨_, rfl⟩
          have hpq : q = p + 1 := by omega
          have hqa : q - a = k + 1 := by omega
          rw [hqa] at hw
          have zq : (q : Int) - 1 = (p : Int) := by omega
          have hkX : k < X.length := by have := Hm.out; omega
          have now := way_next P S (x := y) hkX
          have nxt := way_now P S (x := y) hkX
          have hl2 : (P ++ ((X.take (k + 1) ++ y :: X.drop (k + 1)) ++ S)).length = N := by have := HN.out; simp at *; omega
          have hlA : (P ++ X.take k).length = p := by rw [List.length_append, List.length_take]; have := Ha.out; omega
          generalize X[k] = x at *
          have hpN : p < N := by omega
          have hqN : q < N := by omega
          have ap : (P ++ ((X.take (k + 1) ++ y :: X.drop (k + 1)) ++ S)).toArray[p]! = x := arr_at' now.symm hlA
          have aq : (P ++ ((X.take (k + 1) ++ y :: X.drop (k + 1)) ++ S)).toArray[q]! = y := by
            rw [← now]
            exact arr_at' (P := (P ++ X.take k) ++ [x]) (S := X.drop (k + 1) ++ S) (by simp) (by rw [List.length_append, hlA, hpq]; rfl)
          have sw := swp_is' (i := p) (j := q) now.symm hlA (by simp; omega)
          rw [← nxt] at sw
          have S3 := Lib.hid (hw.swapped Hs.out hl2 hqN hpN sw aq ap)
          have cp := hw.at_ Hs.out hl2 hpN ap
          have cq := hw.at_ Hs.out hl2 hqN aq
          have fp := hw.frz Hs.out hl2 hpN
          have fq := hw.frz Hs.out hl2 hqN
          obtain ⟨u, c2⟩ := hw.c2 Hs.out hl2 hqN hpN (encF x)
          have hpz : (0 : Int) ≤ (p : Int) ∧ (p : Int) < (N : Int) := by omega
          have hqz : (0 : Int) ≤ (q : Int) ∧ (q : Int) < (N : Int) := by omega
          have wp : IntKind.i64.wrap (p : Int) = (p : Int) := by rw [IntKind.wrap_i64]; omega
          have wq : IntKind.i64.wrap (q : Int) = (q : Int) := by rw [IntKind.wrap_i64]; omega
          have Hp := Lib.hid hp
          have Hpq := Lib.hid hpq
          have Hk := Lib.hid hk
          have Hqa := Lib.hid hqa
          clear now nxt hl2 hlA ap aq sw hw hp hpq hk hqa hkX
          unfold encF at *
          go_wp2_with fail
          go_region
          all_goals (go_wp2_with fail)
          go_roundw
          case rel => exact ⟨p, by have := Hpq.out; omega, by have := Hpq.out; omega, by go_num, by rw [show p - a = k by have := Hp.out; omega]; exact S3.out⟩
          case measure => have := Hpq.out; simp [intOf]; omega
        · have q1 : decide ((i : Int) < (q : Int)) = false := by rw [decide_eq_false_iff_not]; omega
          have hltz : ¬ (i : Int) < (q : Int) := by omega
          obtain rfl : i = q := by omega
          have Hw2 := Lib.hid hw
          clear hw
          go_wp2_with fail
          refine bodyPost_ret (results_none rfl _ _ _) rfl ?_
          refine ⟨rfl, _, ?_, Z.out, Hw2.out⟩
          have hp : (X.take (i - a) ++ y :: X.drop (i - a)).Perm (y :: (X.take (i - a) ++ X.drop (i - a))) := List.perm_middle
          rw [List.take_append_drop] at hp
          exact hp.trans (List.perm_append_comm (l₁ := [y]) (l₂ := X))
end Go.Proofs.Ythcppebfhjleiaa
