/- slices.symMergeCmpFunc where one element is set into the others. -/
import Derived.Test.YthcppebfhjleiaaSym
namespace Go.Proofs.Ythcppebfhjleiaa
open Go.RowKit Go.Shelf Go.Lib Go.Sort

/-- x on its way through Y: k places far. -/
theorem way_now (P S : List (Fin 256)) {Y : List (Fin 256)} {x : Fin 256} {k : Nat} (h : k < Y.length) : P ++ ((Y.take k ++ x :: Y.drop k) ++ S) = (P ++ Y.take k) ++ x :: ([] ++ Y[k] :: (Y.drop (k + 1) ++ S)) := by
  rw [List.drop_eq_getElem_cons h]
  simp only [List.append_assoc, List.cons_append, List.nil_append]
theorem way_next (P S : List (Fin 256)) {Y : List (Fin 256)} {x : Fin 256} {k : Nat} (h : k < Y.length) : (P ++ Y.take k) ++ Y[k] :: ([] ++ x :: (Y.drop (k + 1) ++ S)) = P ++ ((Y.take (k + 1) ++ x :: Y.drop (k + 1)) ++ S) := by
  rw [take_snoc' h]
  simp only [List.append_assoc, List.cons_append, List.nil_append]

set_option maxRecDepth 20000 in
set_option maxHeartbeats 8000000 in
theorem symOne {w0 : World} {blk N : Nat} (s : Srt w0 blk N) {c : Fin 256 → Int} {g : Nat} {cb : Array Value} (C : Cmp c g cb w0 blk N) (cap : Nat) (P Y S : List (Fin 256)) (x : Fin 256) (a m b : Nat) (ha : P.length = a) (hm : a + 1 = m) (hb : m + Y.length = b) (hy : 0 < Y.length)
    (hY : Y.Pairwise (Tot c)) (hB : ∀ y ∈ Y, x.val < y.val) (hN : (P ++ (([x] ++ Y) ++ S)).length = N) (w : World) (h : Sl1 w0 blk (P ++ (([x] ++ Y) ++ S)) w) :
    Calls Try.prog 30 #[.slice (some ⟨blk, 0, none⟩) N cap, .int .i64 a, .int .i64 m, .int .i64 b, .func (.func g) #[] cb] w fun e w' => e = .returned (.tuple #[]) ∧ ∃ Z : List (Fin 256), Z.Perm ([x] ++ Y) ∧ Z.Pairwise (Tot c) ∧ Sl1 w0 blk (P ++ (Z ++ S)) w' := by
  have hbig := s.small
  have hbn : b ≤ N := by simp at hN; omega
  obtain ⟨f, hf⟩ : ∃ f : Nat → Bool, f = fun h => decide (c (Y.getD (h - m) 0) < c x) := ⟨_, rfl⟩
  have Fin_ := Lib.hid (show ∀ i, Se f m b i i → (Y.take (i - m) ++ x :: Y.drop (i - m)).Pairwise (Tot c) from fun i si => by
    rw [← hb] at si
    refine put_in hY si (fun k hk hf1 => ?_) (fun k hk hf1 => ?_)
    · rw [hf] at hf1
      simp only [decide_eq_true_eq] at hf1
      rw [show m + k - m = k by omega, List.getD_eq_getElem?_getD, List.getElem?_eq_getElem hk] at hf1
      exact Tot.of_lt hf1
    · rw [hf] at hf1
      simp only [decide_eq_false_iff_not] at hf1
      rw [show m + k - m = k by omega, List.getD_eq_getElem?_getD, List.getElem?_eq_getElem hk] at hf1
      exact Tot.of_not (hB _ (List.getElem_mem hk)) hf1)
  have hl : (P ++ (([x] ++ Y) ++ S)).length = N := hN
  have F := Lib.hid (show ∀ h, f h = decide (c (Y.getD (h - m) 0) < c x) from fun h => by rw [hf])
  have Hw := Lib.hid h
  have Hs := Lib.hid s
  have HC := Lib.hid C
  have Ha := Lib.hid ha
  have Hb := Lib.hid hb
  have HN := Lib.hid hN
  have eg := C.enter
  have mixed : Try.prog.follows .mixedOrders = true := by kernel_rfl
  have z1 : (m : Int) - (a : Int) = 1 := by omega
  have hmb : m < b := by omega
  have ham : a < m := by omega
  have cellA := Lib.hid (show (P ++ (([x] ++ Y) ++ S)).toArray[a]! = x from arr_at' (S := Y ++ S) (by simp) ha)
  have cellY := Lib.hid (show ∀ h, m ≤ h → h < b → (P ++ (([x] ++ Y) ++ S)).toArray[h]! = Y.getD (h - m) 0 from fun h h1 h2 => by
    obtain ⟨k, rfl⟩ : ∃ k, h = m + k := ⟨h - m, by omega⟩
    rw [show m + k - m = k by omega, List.getD_eq_getElem?_getD, List.getElem?_eq_getElem (by omega)]
    refine arr_at' (P := P ++ ([x] ++ Y.take k)) (S := Y.drop (k + 1) ++ S) ?_ ?_
    · conv => lhs; rw [← List.take_append_drop k Y, List.drop_eq_getElem_cons (by omega : k < Y.length)]
      simp only [List.append_assoc, List.cons_append, Option.getD_some]
    · simp only [List.length_append, List.length_singleton, List.length_take]; omega)
  clear h s C ha hb hN hY hB hf hy
  go_enter Try.func30, Try.ntmps30
  go_wp2_with fail
  go_loopw [10, 11, 12] (fun vi vj _ wr => ∃ i j : Nat, vi = .int .i64 i ∧ vj = .int .i64 j ∧ Se f m b i j ∧ Sl1 w0 blk (P ++ (([x] ++ Y) ++ S)) wr) (fun vi vj _ _ => (intOf vj).toNat - (intOf vi).toNat)
  case atStart => exact ⟨m, b, rfl, rfl, Se.start f (by omega), Hw.out⟩
  case round =>
    obtain ⟨i, j, rfl, rfl, se, hw⟩ := hrel
    have Se_ := Lib.hid se
    have hi1 := se.l1
    have hi2 := se.mid
    have hi3 := se.l2
    clear se Hw
    by_cases hlt : i < j
    · have hltz : (i : Int) < (j : Int) := by omega
      have Hw := Lib.hid hw
      clear hw hm
      go_wp2_with fail
      obtain ⟨h, hh, hh2⟩ := half_is i j
      rw [hh]
      have hih : i ≤ h := by omega
      have hhj : h < j := by omega
      have hhN : h < N := by omega
      clear hh hh2
      have l1 := fun n os => (Hw.out.grown n os).at_ Hs.out hl (i := a) (by omega) cellA.out
      have l2 := fun n os => (Hw.out.grown n os).at_ Hs.out hl (i := h) (by omega) (cellY.out h (by omega) (by omega))
      have hc := Hw.out.cmp HC.out hl (Y.getD (h - m) 0) x
      have hv := cmpV_neg c (Y.getD (h - m) 0) x
      rw [← F.out h] at hv
      have Up := Lib.hid (fun hf : f h = true => Se_.out.up hih hhj hf)
      have Dn := Lib.hid (fun hf : f h = false => Se_.out.down hih hhj hf)
      generalize Y.getD (h - m) 0 = y at *
      generalize cmpV c y x = r at *
      generalize f h = fh at *
      have hhz : (0 : Int) ≤ (h : Int) ∧ (h : Int) < (N : Int) := by omega
      have haz : (0 : Int) ≤ (a : Int) ∧ (a : Int) < (N : Int) := by omega
      clear cellY cellA Se_
      cases fh with
      | true =>
        go_quiet_grown (first | (go_at_fn g; refine Calls.grown_of (hc _ _)))
        have S2 := Lib.hid (Hw.out.grown nq osq)
        clear Hw l1 l2 hc
        generalize grow (wr.drewN nq) osq = w2 at S2 ⊢
        clear nq osq
        go_wp2_with fail
        go_roundw
        case rel => exact ⟨h + 1, j, by go_num, rfl, Up.out rfl, S2.out⟩
        case measure => simp [intOf]; omega
      | false =>
        go_quiet_grown (first | (go_at_fn g; refine Calls.grown_of (hc _ _)))
        have S2 := Lib.hid (Hw.out.grown nq osq)
        clear Hw l1 l2 hc
        generalize grow (wr.drewN nq) osq = w2 at S2 ⊢
        clear nq osq
        go_wp2_with fail
        go_roundw
        case rel => exact ⟨i, h, rfl, rfl, Dn.out rfl, S2.out⟩
        case measure => simp [intOf]; omega
    · have hltz : ¬ (i : Int) < (j : Int) := by omega
      obtain rfl : i = j := by omega
      have Z := Lib.hid (Fin_.out i Se_.out)
      have Hw := Lib.hid hw
      have hi4 : i - m ≤ Y.length := by have := Hb.out; omega
      clear hw F Fin_ cellA cellY hi2
      obtain ⟨i1, hi1'⟩ : ∃ i1 : Nat, i1 + 1 = i := ⟨i - 1, by omega⟩
      have zi : (i : Int) - 1 = (i1 : Int) := by omega
      have hma : m = a + 1 := hm.symm
      clear hm z1
      go_wp2_with fail
      go_loopw [13] (fun vk wr => ∃ k p : Nat, k ≤ i - m ∧ p = a + k ∧ vk = .int .i64 (p : Int) ∧ Sl1 w0 blk (P ++ ((Y.take k ++ x :: Y.drop k) ++ S)) wr) (fun vk _ => i - (intOf vk).toNat)
      case atStart => exact ⟨0, a, by omega, rfl, rfl, by simpa using Hw.out⟩
      case round =>
        obtain ⟨k, p, hk, hp, rfl, hw⟩ := hrel
        by_cases hgo : k < i - m
        · have hltz : (p : Int) < (i1 : Int) := by omega
          obtain ⟨q, hq⟩ : ∃ q, q = p + 1 := ⟨_, rfl⟩
          have zq : (p : Int) + 1 = (q : Int) := by omega
          have hkY : k < Y.length := by omega
          have now := way_now P S (x := x) hkY
          have nxt := way_next P S (x := x) hkY
          have hl2 : (P ++ ((Y.take k ++ x :: Y.drop k) ++ S)).length = N := by have := HN.out; simp at *; omega
          have hlA : (P ++ Y.take k).length = p := by rw [List.length_append, List.length_take]; have := Ha.out; omega
          generalize Y[k] = y at *
          have hpN : p < N := by omega
          have hqN : q < N := by omega
          have ap : (P ++ ((Y.take k ++ x :: Y.drop k) ++ S)).toArray[p]! = x := arr_at' now hlA
          have aq : (P ++ ((Y.take k ++ x :: Y.drop k) ++ S)).toArray[q]! = y := by
            rw [now]
            exact arr_at' (P := (P ++ Y.take k) ++ [x]) (S := Y.drop (k + 1) ++ S) (by simp) (by rw [List.length_append, hlA, hq]; rfl)
          have sw := swp_is (i := p) (j := q) now hlA (by simp; omega)
          rw [nxt] at sw
          have S3 := Lib.hid (hw.swapped Hs.out hl2 hpN hqN sw ap aq)
          have cp := hw.at_ Hs.out hl2 hpN ap
          have cq := hw.at_ Hs.out hl2 hqN aq
          have fp := hw.frz Hs.out hl2 hpN
          have fq := hw.frz Hs.out hl2 hqN
          obtain ⟨u, c2⟩ := hw.c2 Hs.out hl2 hpN hqN (encF y)
          have hpz : (0 : Int) ≤ (p : Int) ∧ (p : Int) < (N : Int) := by omega
          have hqz : (0 : Int) ≤ (q : Int) ∧ (q : Int) < (N : Int) := by omega
          have wp : IntKind.i64.wrap (p : Int) = (p : Int) := by rw [IntKind.wrap_i64]; omega
          have wq : IntKind.i64.wrap (q : Int) = (q : Int) := by rw [IntKind.wrap_i64]; omega
          have Hq := Lib.hid hq
          have Hp := Lib.hid hp
          have Hma := Lib.hid hma
          have Hk := Lib.hid hk
          have Hgo := Lib.hid hgo
          clear now nxt hl2 hlA ap aq sw hw hq hp hma hk hgo hkY hi4
          unfold encF at *
          go_wp2_with fail
          go_region
          all_goals (go_wp2_with fail)
          go_roundw
          case rel => exact ⟨k + 1, q, by have := Hgo.out; omega, by have := Hq.out; have := Hp.out; omega, by go_num, S3.out⟩
          case measure => have := Hq.out; have := Hp.out; have := Hgo.out; have := Hma.out; simp [intOf]; omega
        · have hltz : ¬ (p : Int) < (i1 : Int) := by omega
          obtain rfl : k = i - m := by omega
          have Hw2 := Lib.hid hw
          clear hw
          go_wp2_with fail
          refine bodyPost_ret (results_none rfl _ _ _) rfl ?_
          refine ⟨rfl, _, ?_, Z.out, Hw2.out⟩
          have hp : (Y.take (i - m) ++ x :: Y.drop (i - m)).Perm (x :: (Y.take (i - m) ++ Y.drop (i - m))) := List.perm_middle
          rw [List.take_append_drop] at hp
          exact hp
end Go.Proofs.Ythcppebfhjleiaa
