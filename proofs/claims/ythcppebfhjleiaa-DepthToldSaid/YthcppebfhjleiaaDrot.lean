/- slices.swapRangeCmpFunc and slices.rotateCmpFunc. -/
import Derived.Test.YthcppebfhjleiaaSrt
namespace Go.Proofs.Ythcppebfhjleiaa
open Go.RowKit Go.Shelf Go.Lib Go.Sort

/-- What a range swapped i elements far looks like. -/
def swK (P U M V S : List (Fin 256)) (i : Nat) : List (Fin 256) := (P ++ V.take i) ++ (U.drop i ++ (M ++ (U.take i ++ (V.drop i ++ S))))
theorem swK_zero (P U M V S : List (Fin 256)) : swK P U M V S 0 = P ++ (U ++ (M ++ (V ++ S))) := by simp [swK]
theorem swK_all {P U M V S : List (Fin 256)} {n : Nat} (hu : U.length = n) (hv : V.length = n) : swK P U M V S n = P ++ (V ++ (M ++ (U ++ S))) := by
  unfold swK
  rw [List.take_of_length_le (by omega), List.drop_eq_nil_of_le (by omega), List.take_of_length_le (by omega), List.drop_eq_nil_of_le (by omega)]
  simp
theorem swK_len (P U M V S : List (Fin 256)) {i n : Nat} (hu : U.length = n) (hv : V.length = n) (hi : i ≤ n) : (swK P U M V S i).length = P.length + n + M.length + n + S.length := by
  unfold swK
  simp
  omega
theorem swK_now (P M S : List (Fin 256)) {U V : List (Fin 256)} {i n : Nat} (hu : U.length = n) (hv : V.length = n) (hi : i < n) :
    swK P U M V S i = (P ++ V.take i) ++ U[i] :: ((U.drop (i + 1) ++ (M ++ U.take i)) ++ V[i] :: (V.drop (i + 1) ++ S)) := by
  unfold swK
  rw [List.drop_eq_getElem_cons (by omega : i < U.length), List.drop_eq_getElem_cons (by omega : i < V.length)]
  simp only [List.append_assoc, List.cons_append]
theorem swK_next (P M S : List (Fin 256)) {U V : List (Fin 256)} {i n : Nat} (hu : U.length = n) (hv : V.length = n) (hi : i < n) :
    (P ++ V.take i) ++ V[i] :: ((U.drop (i + 1) ++ (M ++ U.take i)) ++ U[i] :: (V.drop (i + 1) ++ S)) = swK P U M V S (i + 1) := by
  unfold swK
  rw [take_snoc' (by omega : i < U.length), take_snoc' (by omega : i < V.length)]
  simp only [List.append_assoc, List.cons_append, List.nil_append]

set_option maxHeartbeats 4000000 in
theorem swapRange_any {w0 : World} {blk N : Nat} (s : Srt w0 blk N) (cap : Nat) (fv : Value) (P U M V S : List (Fin 256)) (a b n : Nat) (ha : P.length = a) (hb : a + n + M.length = b) (hu : U.length = n) (hv : V.length = n)
    (hN : (P ++ (U ++ (M ++ (V ++ S)))).length = N) (w : World) (h : Sl1 w0 blk (P ++ (U ++ (M ++ (V ++ S)))) w) :
    Calls Try.prog 32 #[.slice (some ⟨blk, 0, none⟩) N cap, .int .i64 a, .int .i64 b, .int .i64 n, fv] w fun e w' => e = .returned (.tuple #[]) ∧ Sl1 w0 blk (P ++ (V ++ (M ++ (U ++ S)))) w' := by
  have hbig := s.small
  have hbn : b + n ≤ N := by simp at hN; omega
  have Hh := Lib.hid h
  have Hs := Lib.hid s
  have Ha := Lib.hid ha
  have Hb := Lib.hid hb
  have Hu := Lib.hid hu
  have Hv := Lib.hid hv
  have HN := Lib.hid hN
  clear h s ha hb hu hv hN
  go_enter Try.func32, Try.ntmps32
  go_wp2_with fail
  go_loopw [10] (fun vi wr => ∃ i : Nat, i ≤ n ∧ vi = .int .i64 i ∧ Sl1 w0 blk (swK P U M V S i) wr) (fun vi _ => n - (intOf vi).toNat)
  case atStart => exact ⟨0, by omega, rfl, by rw [swK_zero]; exact Hh.out⟩
  case round =>
    obtain ⟨i, hi, rfl, hw⟩ := hrel
    by_cases hlt : i < n
    · have hltz : (i : Int) < (n : Int) := by omega
      have now := swK_now P M S Hu.out Hv.out hlt
      have nxt := swK_next P M S Hu.out Hv.out hlt
      have hl : (swK P U M V S i).length = N := by rw [swK_len P U M V S Hu.out Hv.out hi]; have := HN.out; have := Hu.out; have := Hv.out; simp at *; omega
      have hlA : (P ++ V.take i).length = a + i := by rw [List.length_append, List.length_take]; have := Ha.out; have := Hv.out; omega
      have hlB : (U.drop (i + 1) ++ (M ++ U.take i)).length + (a + i) + 1 = b + i := by
        simp only [List.length_append, List.length_drop, List.length_take]; have := Hb.out; have := Hu.out; omega
      generalize U[i]'(by have := Hu.out; omega) = u at *
      generalize V[i]'(by have := Hv.out; omega) = v at *
      obtain ⟨p, hp⟩ : ∃ p : Nat, p = a + i := ⟨_, rfl⟩
      obtain ⟨q, hq⟩ : ∃ q : Nat, q = b + i := ⟨_, rfl⟩
      have zp : (a : Int) + (i : Int) = (p : Int) := by omega
      have zq : (b : Int) + (i : Int) = (q : Int) := by omega
      have hpN : p < N := by omega
      have hqN : q < N := by omega
      have ap : (swK P U M V S i).toArray[p]! = u := arr_at' now (by omega)
      have aq : (swK P U M V S i).toArray[q]! = v := by
        rw [now]
        exact arr_at' (P := (P ++ V.take i) ++ u :: (U.drop (i + 1) ++ (M ++ U.take i))) (S := V.drop (i + 1) ++ S) (by simp) (by rw [List.length_append, List.length_cons]; omega)
      have sw := swp_is (i := p) (j := q) now (by omega) (by omega)
      rw [nxt] at sw
      have S3 := Lib.hid (hw.swapped Hs.out hl hpN hqN sw ap aq)
      have cp := hw.at_ Hs.out hl hpN ap
      have cq := hw.at_ Hs.out hl hqN aq
      have fp := hw.frz Hs.out hl hpN
      have fq := hw.frz Hs.out hl hqN
      obtain ⟨x, c2⟩ := hw.c2 Hs.out hl hpN hqN (encF v)
      have hpz : (0 : Int) ≤ (p : Int) ∧ (p : Int) < (N : Int) := by omega
      have hqz : (0 : Int) ≤ (q : Int) ∧ (q : Int) < (N : Int) := by omega
      have wp : IntKind.i64.wrap (p : Int) = (p : Int) := by rw [IntKind.wrap_i64]; omega
      have wq : IntKind.i64.wrap (q : Int) = (q : Int) := by rw [IntKind.wrap_i64]; omega
      clear now nxt hl hlA hlB hp hq ap aq sw hw
      unfold encF at *
      go_wp2_with fail
      go_region
      all_goals (go_wp2_with fail)
      go_roundw
      case rel => exact ⟨i + 1, by omega, by go_num, S3.out⟩
      case measure => simp [intOf]; omega
    · have hltz : ¬ (i : Int) < (n : Int) := by omega
      obtain rfl : i = n := by omega
      rw [swK_all Hu.out Hv.out] at hw
      have Hw := Lib.hid hw
      clear hw
      go_wp2_with fail
      go_end0
      exact ⟨rfl, Hw.out⟩

set_option maxHeartbeats 4000000 in
theorem rotate_any {w0 : World} {blk N : Nat} (s : Srt w0 blk N) (cap : Nat) (fv : Value) (P X Y S : List (Fin 256)) (a m b : Nat) (ha : P.length = a) (hm : a + X.length = m) (hb : m + Y.length = b) (hx : 0 < X.length) (hy : 0 < Y.length)
    (hN : (P ++ (X ++ (Y ++ S))).length = N) (w : World) (h : Sl1 w0 blk (P ++ (X ++ (Y ++ S))) w) :
    Calls Try.prog 31 #[.slice (some ⟨blk, 0, none⟩) N cap, .int .i64 a, .int .i64 m, .int .i64 b, fv] w fun e w' => e = .returned (.tuple #[]) ∧ Sl1 w0 blk (P ++ (Y ++ (X ++ S))) w' := by
  have hbig := s.small
  have hbn : b ≤ N := by simp at hN; omega
  have c := Lib.hid (fun (P U M V S : List (Fin 256)) (a b n : Nat) => swapRange_any s cap fv P U M V S a b n)
  obtain ⟨i0, hi0⟩ : ∃ i, i = X.length := ⟨_, rfl⟩
  obtain ⟨j0, hj0⟩ : ∃ j, j = Y.length := ⟨_, rfl⟩
  have z1 : (m : Int) - (a : Int) = (i0 : Int) := by omega
  have z2 : (b : Int) - (m : Int) = (j0 : Int) := by omega
  have hi0m : i0 ≤ m := by omega
  have hj0b : m + j0 ≤ b := by omega
  have Hh := Lib.hid (show ∃ P' X' Y' S' : List (Fin 256), X'.length = i0 ∧ Y'.length = j0 ∧ P'.length + i0 = m ∧ 0 < i0 ∧ 0 < j0 ∧ m + j0 ≤ b ∧ (P' ++ (X' ++ (Y' ++ S'))).length = N ∧ Sl1 w0 blk (P' ++ (X' ++ (Y' ++ S'))) w ∧ P' ++ (Y' ++ (X' ++ S')) = P ++ (Y ++ (X ++ S)) from ⟨P, X, Y, S, hi0.symm, hj0.symm, by omega, by omega, by omega, by omega, hN, h, rfl⟩)
  generalize P ++ (Y ++ (X ++ S)) = R at *
  clear h s ha hb hN hi0 hj0 hx hy hm hj0b hi0m
  go_enter Try.func31, Try.ntmps31
  go_wp2_with fail
  go_loopw [10, 11] (fun vi vj wr => ∃ i j : Nat, vi = .int .i64 i ∧ vj = .int .i64 j ∧ ∃ P' X' Y' S' : List (Fin 256), X'.length = i ∧ Y'.length = j ∧ P'.length + i = m ∧ 0 < i ∧ 0 < j ∧ m + j ≤ b ∧ (P' ++ (X' ++ (Y' ++ S'))).length = N ∧ Sl1 w0 blk (P' ++ (X' ++ (Y' ++ S'))) wr ∧ P' ++ (Y' ++ (X' ++ S')) = R) (fun vi vj _ => (intOf vi).toNat + (intOf vj).toNat)
  case atStart => exact ⟨i0, j0, rfl, rfl, Hh.out⟩
  case round =>
    obtain ⟨i, j, rfl, rfl, P', X', Y', S', hX, hY, hP, hip, hjp, hjb, hl, hw, hR⟩ := hrel
    have HX := Lib.hid hX
    have HY := Lib.hid hY
    have HP := Lib.hid hP
    have HR := Lib.hid hR
    have Hl := Lib.hid hl
    have Hw := Lib.hid hw
    obtain ⟨p, hp⟩ : ∃ p, p = P'.length := ⟨_, rfl⟩
    have hpm : p + i = m := by omega
    have Hp := Lib.hid hp
    have hmi : (m : Int) - (i : Int) = (p : Int) := by omega
    clear hX hY hP hR hl hw hp Hh z1 z2
    by_cases hne : i = j
    · subst hne
      go_wp2_with (first
        | (go_at_call 32; refine (c.out P' X' [] Y' S' p m i Hp.out.symm (by simpa using hpm) HX.out HY.out (by simpa using Hl.out) _ (by simpa using Hw.out)).mono ?_; rintro e w' ⟨rfl, hw'⟩))
      go_end0
      refine ⟨rfl, ?_⟩
      rw [← HR.out]
      simpa using hw'
    · have hne' : ¬ (i : Int) = (j : Int) := by omega
      by_cases hlt : j < i
      · have q1 : decide ((j : Int) < (i : Int)) = true := by rw [decide_eq_true_eq]; omega
        have hlt' : (j : Int) < (i : Int) := by omega
        obtain ⟨X1, X2, rfl, h1⟩ : ∃ X1 X2, X' = X1 ++ X2 ∧ X1.length = j := ⟨X'.take j, X'.drop j, (List.take_append_drop _ _).symm, by rw [List.length_take]; have := HX.out; omega⟩
        have H1 := Lib.hid h1
        have H2 := Lib.hid (show X2.length = i - j by have := HX.out; simp at this; omega)
        have Hl2 := Lib.hid (show (P' ++ (X1 ++ (X2 ++ (Y' ++ S')))).length = N by have := Hl.out; simp at *; omega)
        clear h1
        go_wp2_with (first
          | (go_at_call 32; refine (c.out P' X1 X2 Y' S' p m j Hp.out.symm (by have := H2.out; omega) H1.out HY.out Hl2.out _ (by have := Hw.out; rw [List.append_assoc] at this; exact this)).mono ?_; rintro e w' ⟨rfl, hw'⟩))
        have Hw' := Lib.hid hw'
        clear hw'
        go_wp2_with fail
        go_roundw
        case rel =>
          refine ⟨i - j, j, by go_num, rfl, P' ++ Y', X2, X1, S', H2.out, H1.out, ?_, by omega, by omega, by omega, ?_, ?_, ?_⟩
          · rw [List.length_append, HY.out, ← Hp.out]; omega
          · have := Hl2.out; simp at *; omega
          · rw [List.append_assoc]; exact Hw'.out
          · rw [← HR.out]; simp
        case measure => simp [intOf]; omega
      · have q1 : decide ((j : Int) < (i : Int)) = false := by rw [decide_eq_false_iff_not]; omega
        have hlt' : ¬ (j : Int) < (i : Int) := by omega
        obtain ⟨Y1, Y2, rfl, h1⟩ : ∃ Y1 Y2, Y' = Y1 ++ Y2 ∧ Y1.length = j - i := ⟨Y'.take (j - i), Y'.drop (j - i), (List.take_append_drop _ _).symm, by rw [List.length_take]; have := HY.out; omega⟩
        have H1 := Lib.hid h1
        have H2 := Lib.hid (show Y2.length = i by have := HY.out; simp at this; omega)
        have Hl2 := Lib.hid (show (P' ++ (X' ++ (Y1 ++ (Y2 ++ S')))).length = N by have := Hl.out; simp at *; omega)
        obtain ⟨q, hq⟩ : ∃ q : Nat, q = m + j - i := ⟨_, rfl⟩
        have hq' : q + i = m + j := by omega
        have zq : (m : Int) + (j : Int) - (i : Int) = (q : Int) := by omega
        clear h1 hq
        go_wp2_with (first
          | (go_at_call 32; refine (c.out P' X' Y1 Y2 S' p q i Hp.out.symm (by have := H1.out; omega) HX.out H2.out Hl2.out _ (by have := Hw.out; rw [List.append_assoc] at this; exact this)).mono ?_; rintro e w' ⟨rfl, hw'⟩))
        have Hw' := Lib.hid hw'
        clear hw'
        go_wp2_with fail
        go_roundw
        case rel =>
          refine ⟨i, j - i, rfl, by go_num, P', Y2, Y1, X' ++ S', H2.out, H1.out, ?_, by omega, by omega, by omega, ?_, ?_, ?_⟩
          · rw [← Hp.out]; omega
          · have := Hl2.out; simp at *; omega
          · exact Hw'.out
          · rw [← HR.out]; simp
        case measure => simp [intOf]; omega
end Go.Proofs.Ythcppebfhjleiaa
