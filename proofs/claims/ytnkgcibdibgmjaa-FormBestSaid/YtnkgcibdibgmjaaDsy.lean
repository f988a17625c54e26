/- Rows that are being sorted, as lists: a swap, and what a walk wants at one. slices.swapRangeCmpFunc and slices.rotateCmpFunc. The order of the byte values by their counts, and what a comparison of two of them says. slices.symMergeCmpFunc where one element is set into the others. slices.symMergeCmpFunc where the last element is set into the others. -/
import Derived.Test.YtnkgcibdibgmjaaChecked
import Derived.Shelf.SlSortCmp.Insertion1
import Derived.WalkKit
import Derived.Lib.Hide
import Derived.BigRegion
namespace Go.Proofs.Ytnkgcibdibgmjaa
open Go.RowKit Go.Shelf Go.Lib Go.Sort

/-- A byte value as an int. -/
def encF (x : Fin 256) : Value := .int .i64 ((x.val : Nat) : Int)
theorem encF_one : OneCell encF := fun _ => rfl

section
variable {α : Type} [Inhabited α]
theorem arr_at (P : List α) (u : α) (S : List α) : (P ++ u :: S).toArray[P.length]! = u := by simp
theorem arr_at' {L P S : List α} {u : α} {k : Nat} (h : L = P ++ u :: S) (hk : P.length = k) : L.toArray[k]! = u := by
  subst h; subst hk; exact arr_at P u S
theorem swp_list (P : List α) (u : α) (M : List α) (v : α) (S : List α) : swp (P ++ u :: (M ++ v :: S)).toArray P.length (P.length + 1 + M.length) = (P ++ v :: (M ++ u :: S)).toArray := by
  unfold swp
  have h1 : (P ++ u :: (M ++ v :: S)).toArray[P.length]! = u := arr_at _ _ _
  have h2 : (P ++ u :: (M ++ v :: S)).toArray[P.length + 1 + M.length]! = v := arr_at' (P := P ++ u :: M) (S := S) (by simp) (by simp; omega)
  rw [h1, h2, List.setIfInBounds_toArray, List.setIfInBounds_toArray]
  congr 1
  rw [List.set_append_right _ _ (Nat.le_refl _), Nat.sub_self, List.set_cons_zero, List.set_append_right _ _ (by omega), show P.length + 1 + M.length - P.length = M.length + 1 by omega, List.set_cons_succ, List.set_append_right _ _ (Nat.le_refl _), Nat.sub_self, List.set_cons_zero]
theorem swp_list' (P : List α) (u : α) (M : List α) (v : α) (S : List α) : swp (P ++ u :: (M ++ v :: S)).toArray (P.length + 1 + M.length) P.length = (P ++ v :: (M ++ u :: S)).toArray := by
  refine Eq.trans ?_ (swp_list P u M v S)
  unfold swp
  have h1 : (P ++ u :: (M ++ v :: S)).toArray[P.length]! = u := arr_at _ _ _
  have h2 : (P ++ u :: (M ++ v :: S)).toArray[P.length + 1 + M.length]! = v := arr_at' (P := P ++ u :: M) (S := S) (by simp) (by simp; omega)
  rw [h1, h2]
  exact (Array.setIfInBounds_comm _ _ (by omega))
theorem swp_is {L P M S : List α} {u v : α} {i j : Nat} (h : L = P ++ u :: (M ++ v :: S)) (hi : P.length = i) (hj : i + 1 + M.length = j) : swp L.toArray i j = (P ++ v :: (M ++ u :: S)).toArray := by
  subst h; subst hi; subst hj; exact swp_list P u M v S
theorem swp_is' {L P M S : List α} {u v : α} {i j : Nat} (h : L = P ++ u :: (M ++ v :: S)) (hi : P.length = i) (hj : i + 1 + M.length = j) : swp L.toArray j i = (P ++ v :: (M ++ u :: S)).toArray := by
  subst h; subst hi; subst hj; exact swp_list' P u M v S
omit [Inhabited α] in
theorem take_snoc' {l : List α} {i : Nat} (h : i < l.length) : l.take (i + 1) = l.take i ++ [l[i]] := by
  rw [List.take_add_one, List.getElem?_eq_getElem h]; rfl
end

/-- The row of byte values, of N elements, in a world of the sort's. -/
def Sl1 (w0 : World) (blk : Nat) (L : List (Fin 256)) (W : World) : Prop := SW encF w0 blk 0 L.toArray W
structure Srt (w0 : World) (blk N : Nat) : Prop where
  row : ∃ d0 : Array (Fin 256), d0.size = N ∧ Row1 encF w0 blk 0 d0
  small : N ≤ 256
section
variable {w0 W : World} {blk N : Nat} {L : List (Fin 256)}
theorem Sl1.at_ (h : Sl1 w0 blk L W) (s : Srt w0 blk N) (hL : L.length = N) {i : Nat} {u : Fin 256} (hi : i < N) (hu : L.toArray[i]! = u) : W.cell? ⟨blk, i, none⟩ = some (encF u) := by
  obtain ⟨d0, hd, R⟩ := s.row
  have := SW.c1 h R (by simp; omega) i (by simp; omega)
  rw [hu, Nat.zero_add] at this
  exact this
theorem Sl1.frz (h : Sl1 w0 blk L W) (s : Srt w0 blk N) (hL : L.length = N) {i : Nat} (hi : i < N) : W.frozen? ⟨blk, i, none⟩ = false := by
  obtain ⟨d0, hd, R⟩ := s.row
  have := SW.f1 h R (by simp; omega) i (by simp; omega)
  rw [Nat.zero_add] at this
  exact this
theorem Sl1.c2 (h : Sl1 w0 blk L W) (s : Srt w0 blk N) (hL : L.length = N) {i j : Nat} (hi : i < N) (hj : j < N) (v : Value) : ∃ u, (W.setCell ⟨blk, i, none⟩ v).cell? ⟨blk, j, none⟩ = some u := by
  obtain ⟨d0, hd, R⟩ := s.row
  have := SW.c2 h R (by simp; omega) i j (by simp; omega) (by simp; omega) v
  rwa [Nat.zero_add, Nat.zero_add] at this
theorem Sl1.swapped (h : Sl1 w0 blk L W) (s : Srt w0 blk N) (hL : L.length = N) {i j : Nat} (hi : i < N) (hj : j < N) {L' : List (Fin 256)} (hs : swp L.toArray i j = L'.toArray) {x y : Fin 256} (hx : L.toArray[i]! = x) (hy : L.toArray[j]! = y) :
    Sl1 w0 blk L' ((W.setCell ⟨blk, i, none⟩ (encF y)).setCell ⟨blk, j, none⟩ (encF x)).drew := by
  obtain ⟨d0, hd, R⟩ := s.row
  have := SW.swapped h R i j (by simp; omega) (by simp; omega)
  rw [hs, hx, hy, Nat.zero_add, Nat.zero_add] at this
  exact this
theorem Sl1.drew (h : Sl1 w0 blk L W) : Sl1 w0 blk L W.drew := SW.drew h
end
end Go.Proofs.Ytnkgcibdibgmjaa

namespace Go.Proofs.Ytnkgcibdibgmjaa
open Go.RowKit Go.Shelf Go.Lib Go.Sort

/-- What a range swapped i elements far looks like. -/
def swK (P U M V S : List (Fin 256)) (i : Nat) : List (Fin 256) := (P ++ V.take i) ++ (U.drop i ++ (M ++ (U.take i ++ (V.drop i ++ S))))
theorem swK_zero (P U M V S : List (Fin 256)) : swK P U M V S 0 = P ++ (U ++ (M ++ (V ++ S))) := by simp [swK]
theorem swK_all {P U M V S : List (Fin 256)} {n : Nat} (hu : U.length = n) (hv : V.length = n) : swK P U M V S n = P ++ (V ++ (M ++ (U ++ S))) := by
  unfold swK
  rw [List.take_of_length_le (by omega), List.drop_eq_nil_of_le (by omega), List.take_of_length_le (by omega), List.drop_eq_nil_of_le (by omega)]
  simp
theorem swK_len (P U M V S : List (Fin 256)) {i n : Nat} (hu : U.length = n) (hv : V.length = n) (hi : i ≤ n) : (swK P U M V S i).length = P.length + n + M.length + n + S.length := by
  unfold swK
  simp
  omega
theorem swK_now (P M S : List (Fin 256)) {U V : List (Fin 256)} {i n : Nat} (hu : U.length = n) (hv : V.length = n) (hi : i < n) :
    swK P U M V S i = (P ++ V.take i) ++ U[i] :: ((U.drop (i + 1) ++ (M ++ U.take i)) ++ V[i] :: (V.drop (i + 1) ++ S)) := by
  unfold swK
  rw [List.drop_eq_getElem_cons (by omega : i < U.length), List.drop_eq_getElem_cons (by omega : i < V.length)]
  simp only [List.append_assoc, List.cons_append]
theorem swK_next (P M S : List (Fin 256)) {U V : List (Fin 256)} {i n : Nat} (hu : U.length = n) (hv : V.length = n) (hi : i < n) :
    (P ++ V.take i) ++ V[i] :: ((U.drop (i + 1) ++ (M ++ U.take i)) ++ U[i] :: (V.drop (i + 1) ++ S)) = swK P U M V S (i + 1) := by
  unfold swK
  rw [take_snoc' (by omega : i < U.length), take_snoc' (by omega : i < V.length)]
  simp only [List.append_assoc, List.cons_append, List.nil_append]

set_option maxHeartbeats 4000000 in
theorem swapRange_any {w0 : World} {blk N : Nat} (s : Srt w0 blk N) (cap : Nat) (fv : Value) (P U M V S : List (Fin 256)) (a b n : Nat) (ha : P.length = a) (hb : a + n + M.length = b) (hu : U.length = n) (hv : V.length = n)
    (hN : (P ++ (U ++ (M ++ (V ++ S)))).length = N) (w : World) (h : Sl1 w0 blk (P ++ (U ++ (M ++ (V ++ S)))) w) :
    Calls Try.prog 77 #[.slice (some ⟨blk, 0, none⟩) N cap, .int .i64 a, .int .i64 b, .int .i64 n, fv] w fun e w' => e = .returned (.tuple #[]) ∧ Sl1 w0 blk (P ++ (V ++ (M ++ (U ++ S)))) w' := by
  have hbig := s.small
  have hbn : b + n ≤ N := by simp at hN; omega
  have Hh := Lib.hid h
  have Hs := Lib.hid s
  have Ha := Lib.hid ha
  have Hb := Lib.hid hb
  have Hu := Lib.hid hu
  have Hv := Lib.hid hv
  have HN := Lib.hid hN
  clear h s ha hb hu hv hN
  go_enter Try.func77, Try.ntmps77
  go_wp2_with fail
  go_loopw [10] (fun vi wr => ∃ i : Nat, i ≤ n ∧ vi = .int .i64 i ∧ Sl1 w0 blk (swK P U M V S i) wr) (fun vi _ => n - (intOf vi).toNat)
  case atStart => exact ⟨0, by omega, rfl, by rw [swK_zero]; exact Hh.out⟩
  case round =>
    obtain ⟨i, hi, rfl, hw⟩ := hrel
    by_cases hlt : i < n
    · have hltz : (i : Int) < (n : Int) := by omega
      have now := swK_now P M S Hu.out Hv.out hlt
      have nxt := swK_next P M S Hu.out Hv.out hlt
      have hl : (swK P U M V S i).length = N := by rw [swK_len P U M V S Hu.out Hv.out hi]; have := HN.out; have := Hu.out; have := Hv.out; simp at *; omega
      have hlA : (P ++ V.take i).length = a + i := by rw [List.length_append, List.length_take]; have := Ha.out; have := Hv.out; omega
      have hlB : (U.drop (i + 1) ++ (M ++ U.take i)).length + (a + i) + 1 = b + i := by
        simp only [List.length_append, List.length_drop, List.length_take]; have := Hb.out; have := Hu.out; omega
      generalize U[i]'(by have := Hu.out; omega) = u at *
      generalize V[i]'(by have := Hv.out; omega) = v at *
      obtain ⟨p, hp⟩ : ∃ p : Nat, p = a + i := ⟨_, rfl⟩
      obtain ⟨q, hq⟩ : ∃ q : Nat, q = b + i := ⟨_, rfl⟩
      have zp : (a : Int) + (i : Int) = (p : Int) := by omega
      have zq : (b : Int) + (i : Int) = (q : Int) := by omega
      have hpN : p < N := by omega
      have hqN : q < N := by omega
      have ap : (swK P U M V S i).toArray[p]! = u := arr_at' now (by omega)
      have aq : (swK P U M V S i).toArray[q]! = v := by
        rw [now]
        exact arr_at' (P := (P ++ V.take i) ++ u :: (U.drop (i + 1) ++ (M ++ U.take i))) (S := V.drop (i + 1) ++ S) (by simp) (by rw [List.length_append, List.length_cons]; omega)
      have sw := swp_is (i := p) (j := q) now (by omega) (by omega)
      rw [nxt] at sw
      have S3 := Lib.hid (hw.swapped Hs.out hl hpN hqN sw ap aq)
      have cp := hw.at_ Hs.out hl hpN ap
      have cq := hw.at_ Hs.out hl hqN aq
      have fp := hw.frz Hs.out hl hpN
      have fq := hw.frz Hs.out hl hqN
      obtain ⟨x, c2⟩ := hw.c2 Hs.out hl hpN hqN (encF v)
      have hpz : (0 : Int) ≤ (p : Int) ∧ (p : Int) < (N : Int) := by omega
      have hqz : (0 : Int) ≤ (q : Int) ∧ (q : Int) < (N : Int) := by omega
      have wp : IntKind.i64.wrap (p : Int) = (p : Int) := by rw [IntKind.wrap_i64]; omega
      have wq : IntKind.i64.wrap (q : Int) = (q : Int) := by rw [IntKind.wrap_i64]; omega
      clear now nxt hl hlA hlB hp hq ap aq sw hw
      unfold encF at *
      go_wp2_with fail
      go_region
      all_goals (go_wp2_with fail)
      go_roundw
      case rel => exact ⟨i + 1, by omega, by go_num, S3.out⟩
      case measure => simp [intOf]; omega
    · have hltz : ¬ (i : Int) < (n : Int) := by omega
      obtain rfl : i = n := by omega
      rw [swK_all Hu.out Hv.out] at hw
      have Hw := Lib.hid hw
      clear hw
      go_wp2_with fail
      go_end0
      exact ⟨rfl, Hw.out⟩

set_option maxHeartbeats 4000000 in
theorem rotate_any {w0 : World} {blk N : Nat} (s : Srt w0 blk N) (cap : Nat) (fv : Value) (P X Y S : List (Fin 256)) (a m b : Nat) (ha : P.length = a) (hm : a + X.length = m) (hb : m + Y.length = b) (hx : 0 < X.length) (hy : 0 < Y.length)
    (hN : (P ++ (X ++ (Y ++ S))).length = N) (w : World) (h : Sl1 w0 blk (P ++ (X ++ (Y ++ S))) w) :
    Calls Try.prog 76 #[.slice (some ⟨blk, 0, none⟩) N cap, .int .i64 a, .int .i64 m, .int .i64 b, fv] w fun e w' => e = .returned (.tuple #[]) ∧ Sl1 w0 blk (P ++ (Y ++ (X ++ S))) w' := by
  have hbig := s.small
  have hbn : b ≤ N := by simp at hN; omega
  have c := Lib.hid (fun (P U M V S : List (Fin 256)) (a b n : Nat) => swapRange_any s cap fv P U M V S a b n)
  obtain ⟨i0, hi0⟩ : ∃ i, i = X.length := ⟨_, rfl⟩
  obtain ⟨j0, hj0⟩ : ∃ j, j = Y.length := ⟨_, rfl⟩
  have z1 : (m : Int) - (a : Int) = (i0 : Int) := by omega
  have z2 : (b : Int) - (m : Int) = (j0 : Int) := by omega
  have hi0m : i0 ≤ m := by omega
  have hj0b : m + j0 ≤ b := by omega
  have Hh := Lib.hid (show ∃ P' X' Y' S' : List (Fin 256), X'.length = i0 ∧ Y'.length = j0 ∧ P'.length + i0 = m ∧ 0 < i0 ∧ 0 < j0 ∧ m + j0 ≤ b ∧ (P' ++ (X' ++ (Y' ++ S'))).length = N ∧ Sl1 w0 blk (P' ++ (X' ++ (Y' ++ S'))) w ∧ P' ++ (Y' ++ (X' ++ S')) = P ++ (Y ++ (X ++ S)) from ⟨P, X, Y, S, hi0.symm, hj0.symm, by omega, by omega, by omega, by omega, hN, h, rfl⟩)
  generalize P ++ (Y ++ (X ++ S)) = R at *
  clear h s ha hb hN hi0 hj0 hx hy hm hj0b hi0m
  go_enter Try.func76, Try.ntmps76
  go_wp2_with fail
  go_loopw [10, 11] (fun vi vj wr => ∃ i j : Nat, vi = .int .i64 i ∧ vj = .int .i64 j ∧ ∃ P' X' Y' S' : List (Fin 256), X'.length = i ∧ Y'.length = j ∧ P'.length + i = m ∧ 0 < i ∧ 0 < j ∧ m + j ≤ b ∧ (P' ++ (X' ++ (Y' ++ S'))).length = N ∧ Sl1 w0 blk (P' ++ (X' ++ (Y' ++ S'))) wr ∧ P' ++ (Y' ++ (X' ++ S')) = R) (fun vi vj _ => (intOf vi).toNat + (intOf vj).toNat)
  case atStart => exact ⟨i0, j0, rfl, rfl, Hh.out⟩
  case round =>
    obtain ⟨i, j, rfl, rfl, P', X', Y', S', hX, hY, hP, hip, hjp, hjb, hl, hw, hR⟩ := hrel
    have HX := Lib.hid hX
    have HY := Lib.hid hY
    have HP := Lib.hid hP
    have HR := Lib.hid hR
    have Hl := Lib.hid hl
    have Hw := Lib.hid hw
    obtain ⟨p, hp⟩ : ∃ p, p = P'.length := ⟨_, rfl⟩
    have hpm : p + i = m := by omega
    have Hp := Lib.hid hp
    have hmi : (m : Int) - (i : Int) = (p : Int) := by omega
    clear hX hY hP hR hl hw hp Hh z1 z2
    by_cases hne : i = j
    · subst hne
      go_wp2_with (first
        | (go_at_call 77; refine (c.out P' X' [] Y' S' p m i Hp.out.symm (by simpa using hpm) HX.out HY.out (by simpa using Hl.out) _ (by simpa using Hw.out)).mono ?_; rintro e w' ⟨rfl, hw'⟩))
      go_end0
      refine ⟨rfl, ?_⟩
      rw [← HR.out]
      simpa using hw'
    · have hne' : ¬ (i : Int) = (j : Int) := by omega
      by_cases hlt : j < i
      · have q1 : decide ((j : Int) < (i : Int)) = true := by rw [decide_eq_true_eq]; omega
        have hlt' : (j : Int) < (i : Int) := by omega
        obtain ⟨X1, X2, rfl, h1⟩ : ∃ X1 X2, X' = X1 ++ X2 ∧ X1.length = j := ⟨X'.take j, X'.drop j, (List.take_append_drop _ _).symm, by rw [List.length_take]; have := HX.out; omega⟩
        have H1 := Lib.hid h1
        have H2 := Lib.hid (show X2.length = i - j by have := HX.out; simp at this; omega)
        have Hl2 := Lib.hid (show (P' ++ (X1 ++ (X2 ++ (Y' ++ S')))).length = N by have := Hl.out; simp at *; omega)
        clear h1
        go_wp2_with (first
          | (go_at_call 77; refine (c.out P' X1 X2 Y' S' p m j Hp.out.symm (by have := H2.out; omega) H1.out HY.out Hl2.out _ (by have := Hw.out; rw [List.append_assoc] at this; exact this)).mono ?_; rintro e w' ⟨rfl, hw'⟩))
        have Hw' := Lib.hid hw'
        clear hw'
        go_wp2_with fail
        go_roundw
        case rel =>
          refine ⟨i - j, j, by go_num, rfl, P' ++ Y', X2, X1, S', H2.out, H1.out, ?_, by omega, by omega, by omega, ?_, ?_, ?_⟩
          · rw [List.length_append, HY.out, ← Hp.out]; omega
          · have := Hl2.out; simp at *; omega
          · rw [List.append_assoc]; exact Hw'.out
          · rw [← HR.out]; simp
        case measure => simp [intOf]; omega
      · have q1 : decide ((j : Int) < (i : Int)) = false := by rw [decide_eq_false_iff_not]; omega
        have hlt' : ¬ (j : Int) < (i : Int) := by omega
        obtain ⟨Y1, Y2, rfl, h1⟩ : ∃ Y1 Y2, Y' = Y1 ++ Y2 ∧ Y1.length = j - i := ⟨Y'.take (j - i), Y'.drop (j - i), (List.take_append_drop _ _).symm, by rw [List.length_take]; have := HY.out; omega⟩
        have H1 := Lib.hid h1
        have H2 := Lib.hid (show Y2.length = i by have := HY.out; simp at this; omega)
        have Hl2 := Lib.hid (show (P' ++ (X' ++ (Y1 ++ (Y2 ++ S')))).length = N by have := Hl.out; simp at *; omega)
        obtain ⟨q, hq⟩ : ∃ q : Nat, q = m + j - i := ⟨_, rfl⟩
        have hq' : q + i = m + j := by omega
        have zq : (m : Int) + (j : Int) - (i : Int) = (q : Int) := by omega
        clear h1 hq
        go_wp2_with (first
          | (go_at_call 77; refine (c.out P' X' Y1 Y2 S' p q i Hp.out.symm (by have := H1.out; omega) HX.out H2.out Hl2.out _ (by have := Hw.out; rw [List.append_assoc] at this; exact this)).mono ?_; rintro e w' ⟨rfl, hw'⟩))
        have Hw' := Lib.hid hw'
        clear hw'
        go_wp2_with fail
        go_roundw
        case rel =>
          refine ⟨i, j - i, rfl, by go_num, P', Y2, Y1, X' ++ S', H2.out, H1.out, ?_, by omega, by omega, by omega, ?_, ?_, ?_⟩
          · rw [← Hp.out]; omega
          · have := Hl2.out; simp at *; omega
          · exact Hw'.out
          · rw [← HR.out]; simp
        case measure => simp [intOf]; omega
end Go.Proofs.Ytnkgcibdibgmjaa

namespace Go.Proofs.Ytnkgcibdibgmjaa
open Go.RowKit Go.Shelf Go.Lib Go.Sort

/-- Byte values in their order: by counts, then by themselves. -/
def Tot (c : Fin 256 → Int) (x y : Fin 256) : Prop := c x < c y ∨ (c x = c y ∧ x.val < y.val)
theorem Tot.trans {c : Fin 256 → Int} {x y z : Fin 256} (h1 : Tot c x y) (h2 : Tot c y z) : Tot c x z := by unfold Tot at *; omega
theorem Tot.of_not {c : Fin 256 → Int} {x y : Fin 256} (hv : x.val < y.val) (h : ¬ c y < c x) : Tot c x y := by unfold Tot; omega
theorem Tot.of_lt {c : Fin 256 → Int} {x y : Fin 256} (h : c x < c y) : Tot c x y := .inl h
def cmpV (c : Fin 256 → Int) (x y : Fin 256) : Int := if c x < c y then -1 else if c y < c x then 1 else 0
theorem cmpV_neg (c : Fin 256 → Int) (x y : Fin 256) : decide (cmpV c x y < 0) = decide (c x < c y) := by
  unfold cmpV
  split
  · rename_i h; simp [h]
  · rename_i h; split <;> simp [h]

/-- What is asked of the comparison. -/
structure Cmp (c : Fin 256 → Int) (g : Nat) (cb : Array Value) (w0 : World) (blk N : Nat) : Prop where
  enter : ∀ args w, (callFunc g args).run Try.prog w = .ok (.enter g args) w
  lays : CmpLays1 Try.prog g cb encF (cmpV c) blk 0 N w0

section
variable {c : Fin 256 → Int} {g : Nat} {cb : Array Value} {w0 W : World} {blk N : Nat} {L : List (Fin 256)}
theorem Sl1.cmp (h : Sl1 w0 blk L W) (k : Cmp c g cb w0 blk N) (hL : L.length = N) (x y : Fin 256) (n : Nat) (os : Array Obj) :
    Calls Try.prog g (#[encF x, encF y] ++ cb) (grow (W.drewN n) os) fun e w' => e = .returned (.int .i64 (cmpV c x y)) ∧ ∃ q os', w' = grow ((grow (W.drewN n) os).drewN q) os' :=
  SW.cmp h k.lays (by simp; omega) x y n os
theorem Sl1.grown (h : Sl1 w0 blk L W) (n : Nat) (os : Array Obj) : Sl1 w0 blk L (grow (W.drewN n) os) := SW.grown h n os
end

/-- Where a search stands between lo and hi. -/
structure Se (f : Nat → Bool) (lo hi i j : Nat) : Prop where
  l1 : lo ≤ i
  mid : i ≤ j
  l2 : j ≤ hi
  yes : i = lo ∨ f (i - 1) = true
  no : j = hi ∨ f j = false
theorem Se.start (f : Nat → Bool) {lo hi : Nat} (h : lo ≤ hi) : Se f lo hi lo hi := ⟨Nat.le_refl _, h, Nat.le_refl _, .inl rfl, .inl rfl⟩
theorem Se.up {f : Nat → Bool} {lo hi i j h : Nat} (s : Se f lo hi i j) (h1 : i ≤ h) (h2 : h < j) (hf : f h = true) : Se f lo hi (h + 1) j :=
  ⟨by have := s.l1; omega, by omega, s.l2, .inr (by simpa using hf), s.no⟩
theorem Se.down {f : Nat → Bool} {lo hi i j h : Nat} (s : Se f lo hi i j) (h1 : i ≤ h) (h2 : h < j) (hf : f h = false) : Se f lo hi i h :=
  ⟨s.l1, h1, by have := s.l2; omega, s.yes, .inr hf⟩

/-- One element set into a row that is in order. -/
theorem put_in {c : Fin 256 → Int} {Y : List (Fin 256)} {x : Fin 256} (hY : Y.Pairwise (Tot c)) {f : Nat → Bool} {lo i : Nat} (s : Se f lo (lo + Y.length) i i)
    (h1 : ∀ k (hk : k < Y.length), f (lo + k) = true → Tot c Y[k] x) (h2 : ∀ k (hk : k < Y.length), f (lo + k) = false → Tot c x Y[k]) :
    (Y.take (i - lo) ++ x :: Y.drop (i - lo)).Pairwise (Tot c) := by
  have hlo := s.l1
  have hhi := s.l2
  obtain ⟨k, rfl⟩ : ∃ k, i = lo + k := ⟨i - lo, by omega⟩
  rw [show lo + k - lo = k by omega]
  have hp : ∀ u v (hu : u < Y.length) (hv : v < Y.length), u < v → Tot c Y[u] Y[v] := fun u v hu hv huv => List.pairwise_iff_getElem.1 hY u v hu hv huv
  have hA : ∀ u (hu : u < Y.length), u < k → Tot c Y[u] x := by
    intro u hu huk
    have hy := s.yes.resolve_left (by omega)
    rw [show lo + k - 1 = lo + (k - 1) by omega] at hy
    have h0 := h1 (k - 1) (by omega) hy
    rcases Nat.lt_or_ge u (k - 1) with h | h
    · exact (hp u (k - 1) hu (by omega) h).trans h0
    · obtain rfl : u = k - 1 := by omega
      exact h0
  have hB : ∀ u (hu : u < Y.length), k ≤ u → Tot c x Y[u] := by
    intro u hu huk
    have hn := s.no.resolve_left (by omega)
    have h0 := h2 k (by omega) hn
    rcases Nat.lt_or_ge k u with h | h
    · exact h0.trans (hp k u (by omega) hu h)
    · obtain rfl : k = u := by omega
      exact h0
  rw [List.pairwise_append, List.pairwise_cons]
  refine ⟨hY.sublist (List.take_sublist _ _), ⟨?_, hY.sublist (List.drop_sublist _ _)⟩, ?_⟩
  · intro y hy
    obtain ⟨u, hu, rfl⟩ := List.mem_drop_iff_getElem.1 hy
    exact hB _ _ (by omega)
  · intro y hy z hz
    obtain ⟨u, hu, rfl⟩ := List.mem_take_iff_getElem.1 hy
    rcases List.mem_cons.1 hz with rfl | hz
    · exact hA _ _ (by omega)
    · obtain ⟨v, hv, rfl⟩ := List.mem_drop_iff_getElem.1 hz
      exact hp _ _ _ _ (by omega)
theorem half_is (i j : Nat) : ∃ h : Nat, ((i : Int) + (j : Int)) / 2 = (h : Int) ∧ h = (i + j) / 2 := ⟨(i + j) / 2, by omega, rfl⟩
end Go.Proofs.Ytnkgcibdibgmjaa

namespace Go.Proofs.Ytnkgcibdibgmjaa
open Go.RowKit Go.Shelf Go.Lib Go.Sort

/-- x on its way through Y: k places far. -/
theorem way_now (P S : List (Fin 256)) {Y : List (Fin 256)} {x : Fin 256} {k : Nat} (h : k < Y.length) : P ++ ((Y.take k ++ x :: Y.drop k) ++ S) = (P ++ Y.take k) ++ x :: ([] ++ Y[k] :: (Y.drop (k + 1) ++ S)) := by
  rw [List.drop_eq_getElem_cons h]
  simp only [List.append_assoc, List.cons_append, List.nil_append]
theorem way_next (P S : List (Fin 256)) {Y : List (Fin 256)} {x : Fin 256} {k : Nat} (h : k < Y.length) : (P ++ Y.take k) ++ Y[k] :: ([] ++ x :: (Y.drop (k + 1) ++ S)) = P ++ ((Y.take (k + 1) ++ x :: Y.drop (k + 1)) ++ S) := by
  rw [take_snoc' h]
  simp only [List.append_assoc, List.cons_append, List.nil_append]

set_option maxRecDepth 20000 in
set_option maxHeartbeats 8000000 in
theorem symOne {w0 : World} {blk N : Nat} (s : Srt w0 blk N) {c : Fin 256 → Int} {g : Nat} {cb : Array Value} (C : Cmp c g cb w0 blk N) (cap : Nat) (P Y S : List (Fin 256)) (x : Fin 256) (a m b : Nat) (ha : P.length = a) (hm : a + 1 = m) (hb : m + Y.length = b) (hy : 0 < Y.length)
    (hY : Y.Pairwise (Tot c)) (hB : ∀ y ∈ Y, x.val < y.val) (hN : (P ++ (([x] ++ Y) ++ S)).length = N) (w : World) (h : Sl1 w0 blk (P ++ (([x] ++ Y) ++ S)) w) :
    Calls Try.prog 73 #[.slice (some ⟨blk, 0, none⟩) N cap, .int .i64 a, .int .i64 m, .int .i64 b, .func (.func g) #[] cb] w fun e w' => e = .returned (.tuple #[]) ∧ ∃ Z : List (Fin 256), Z.Perm ([x] ++ Y) ∧ Z.Pairwise (Tot c) ∧ Sl1 w0 blk (P ++ (Z ++ S)) w' := by
  have hbig := s.small
  have hbn : b ≤ N := by simp at hN; omega
  obtain ⟨f, hf⟩ : ∃ f : Nat → Bool, f = fun h => decide (c (Y.getD (h - m) 0) < c x) := ⟨_, rfl⟩
  have Fin_ := Lib.hid (show ∀ i, Se f m b i i → (Y.take (i - m) ++ x :: Y.drop (i - m)).Pairwise (Tot c) from fun i si => by
    rw [← hb] at si
    refine put_in hY si (fun k hk hf1 => ?_) (fun k hk hf1 => ?_)
    · rw [hf] at hf1
      simp only [decide_eq_true_eq] at hf1
      rw [show m + k - m = k by omega, List.getD_eq_getElem?_getD, List.getElem?_eq_getElem hk] at hf1
      exact Tot.of_lt hf1
    · rw [hf] at hf1
      simp only [decide_eq_false_iff_not] at hf1
      rw [show m + k - m = k by omega, List.getD_eq_getElem?_getD, List.getElem?_eq_getElem hk] at hf1
      exact Tot.of_not (hB _ (List.getElem_mem hk)) hf1)
  have hl : (P ++ (([x] ++ Y) ++ S)).length = N := hN
  have F := Lib.hid (show ∀ h, f h = decide (c (Y.getD (h - m) 0) < c x) from fun h => by rw [hf])
  have Hw := Lib.hid h
  have Hs := Lib.hid s
  have HC := Lib.hid C
  have Ha := Lib.hid ha
  have Hb := Lib.hid hb
  have HN := Lib.hid hN
  have eg := C.enter
  have mixed : Try.prog.follows .mixedOrders = true := by kernel_rfl
  have z1 : (m : Int) - (a : Int) = 1 := by omega
  have hmb : m < b := by omega
  have ham : a < m := by omega
  have cellA := Lib.hid (show (P ++ (([x] ++ Y) ++ S)).toArray[a]! = x from arr_at' (S := Y ++ S) (by simp) ha)
  have cellY := Lib.hid (show ∀ h, m ≤ h → h < b → (P ++ (([x] ++ Y) ++ S)).toArray[h]! = Y.getD (h - m) 0 from fun h h1 h2 => by
    obtain ⟨k, rfl⟩ : ∃ k, h = m + k := ⟨h - m, by omega⟩
    rw [show m + k - m = k by omega, List.getD_eq_getElem?_getD, List.getElem?_eq_getElem (by omega)]
    refine arr_at' (P := P ++ ([x] ++ Y.take k)) (S := Y.drop (k + 1) ++ S) ?_ ?_
    · conv => lhs; rw [← List.take_append_drop k Y, List.drop_eq_getElem_cons (by omega : k < Y.length)]
      simp only [List.append_assoc, List.cons_append, Option.getD_some]
    · simp only [List.length_append, List.length_singleton, List.length_take]; omega)
  clear h s C ha hb hN hY hB hf hy
  go_enter Try.func73, Try.ntmps73
  go_wp2_with fail
  go_loopw [10, 11, 12] (fun vi vj _ wr => ∃ i j : Nat, vi = .int .i64 i ∧ vj = .int .i64 j ∧ Se f m b i j ∧ Sl1 w0 blk (P ++ (([x] ++ Y) ++ S)) wr) (fun vi vj _ _ => (intOf vj).toNat - (intOf vi).toNat)
  case atStart => exact ⟨m, b, rfl, rfl, Se.start f (by omega), Hw.out⟩
  case round =>
    obtain ⟨i, j, rfl, rfl, se, hw⟩ := hrel
    have Se_ := Lib.hid se
    have hi1 := se.l1
    have hi2 := se.mid
    have hi3 := se.l2
    clear se Hw
    by_cases hlt : i < j
    · have hltz : (i : Int) < (j : Int) := by omega
      have Hw := Lib.hid hw
      clear hw hm
      go_wp2_with fail
      obtain ⟨h, hh, hh2⟩ := half_is i j
      rw [hh]
      have hih : i ≤ h := by omega
      have hhj : h < j := by omega
      have hhN : h < N := by omega
      clear hh hh2
      have l1 := fun n os => (Hw.out.grown n os).at_ Hs.out hl (i := a) (by omega) cellA.out
      have l2 := fun n os => (Hw.out.grown n os).at_ Hs.out hl (i := h) (by omega) (cellY.out h (by omega) (by omega))
      have hc := Hw.out.cmp HC.out hl (Y.getD (h - m) 0) x
      have hv := cmpV_neg c (Y.getD (h - m) 0) x
      rw [← F.out h] at hv
      have Up := Lib.hid (fun hf : f h = true => Se_.out.up hih hhj hf)
      have Dn := Lib.hid (fun hf : f h = false => Se_.out.down hih hhj hf)
      generalize Y.getD (h - m) 0 = y at *
      generalize cmpV c y x = r at *
      generalize f h = fh at *
      have hhz : (0 : Int) ≤ (h : Int) ∧ (h : Int) < (N : Int) := by omega
      have haz : (0 : Int) ≤ (a : Int) ∧ (a : Int) < (N : Int) := by omega
      clear cellY cellA Se_
      cases fh with
      | true =>
        go_quiet_grown (first | (go_at_fn g; refine Calls.grown_of (hc _ _)))
        have S2 := Lib.hid (Hw.out.grown nq osq)
        clear Hw l1 l2 hc
        generalize grow (wr.drewN nq) osq = w2 at S2 ⊢
        clear nq osq
        go_wp2_with fail
        go_roundw
        case rel => exact ⟨h + 1, j, by go_num, rfl, Up.out rfl, S2.out⟩
        case measure => simp [intOf]; omega
      | false =>
        go_quiet_grown (first | (go_at_fn g; refine Calls.grown_of (hc _ _)))
        have S2 := Lib.hid (Hw.out.grown nq osq)
        clear Hw l1 l2 hc
        generalize grow (wr.drewN nq) osq = w2 at S2 ⊢
        clear nq osq
        go_wp2_with fail
        go_roundw
        case rel => exact ⟨i, h, rfl, rfl, Dn.out rfl, S2.out⟩
        case measure => simp [intOf]; omega
    · have hltz : ¬ (i : Int) < (j : Int) := by omega
      obtain rfl : i = j := by omega
      have Z := Lib.hid (Fin_.out i Se_.out)
      have Hw := Lib.hid hw
      have hi4 : i - m ≤ Y.length := by have := Hb.out; omega
      clear hw F Fin_ cellA cellY hi2
      obtain ⟨i1, hi1'⟩ : ∃ i1 : Nat, i1 + 1 = i := ⟨i - 1, by omega⟩
      have zi : (i : Int) - 1 = (i1 : Int) := by omega
      have hma : m = a + 1 := hm.symm
      clear hm z1
      go_wp2_with fail
      go_loopw [13] (fun vk wr => ∃ k p : Nat, k ≤ i - m ∧ p = a + k ∧ vk = .int .i64 (p : Int) ∧ Sl1 w0 blk (P ++ ((Y.take k ++ x :: Y.drop k) ++ S)) wr) (fun vk _ => i - (intOf vk).toNat)
      case atStart => exact ⟨0, a, by omega, rfl, rfl, by simpa using Hw.out⟩
      case round =>
        obtain ⟨k, p, hk, hp, rfl, hw⟩ := hrel
        by_cases hgo : k < i - m
        · have hltz : (p : Int) < (i1 : Int) := by omega
          obtain ⟨q, hq⟩ : ∃ q, q = p + 1 := ⟨_, rfl⟩
          have zq : (p : Int) + 1 = (q : Int) := by omega
          have hkY : k < Y.length := by omega
          have now := way_now P S (x := x) hkY
          have nxt := way_next P S (x := x) hkY
          have hl2 : (P ++ ((Y.take k ++ x :: Y.drop k) ++ S)).length = N := by have := HN.out; simp at *; omega
          have hlA : (P ++ Y.take k).length = p := by rw [List.length_append, List.length_take]; have := Ha.out; omega
          generalize Y[k] = y at *
          have hpN : p < N := by omega
          have hqN : q < N := by omega
          have ap : (P ++ ((Y.take k ++ x :: Y.drop k) ++ S)).toArray[p]! = x := arr_at' now hlA
          have aq : (P ++ ((Y.take k ++ x :: Y.drop k) ++ S)).toArray[q]! = y := by
            rw [now]
            exact arr_at' (P := (P ++ Y.take k) ++ [x]) (S := Y.drop (k + 1) ++ S) (by simp) (by rw [List.length_append, hlA, hq]; rfl)
          have sw := swp_is (i := p) (j := q) now hlA (by simp; omega)
          rw [nxt] at sw
          have S3 := Lib.hid (hw.swapped Hs.out hl2 hpN hqN sw ap aq)
          have cp := hw.at_ Hs.out hl2 hpN ap
          have cq := hw.at_ Hs.out hl2 hqN aq
          have fp := hw.frz Hs.out hl2 hpN
          have fq := hw.frz Hs.out hl2 hqN
          obtain ⟨u, c2⟩ := hw.c2 Hs.out hl2 hpN hqN (encF y)
          have hpz : (0 : Int) ≤ (p : Int) ∧ (p : Int) < (N : Int) := by omega
          have hqz : (0 : Int) ≤ (q : Int) ∧ (q : Int) < (N : Int) := by omega
          have wp : IntKind.i64.wrap (p : Int) = (p : Int) := by rw [IntKind.wrap_i64]; omega
          have wq : IntKind.i64.wrap (q : Int) = (q : Int) := by rw [IntKind.wrap_i64]; omega
          have Hq := Lib.hid hq
          have Hp := Lib.hid hp
          have Hma := Lib.hid hma
          have Hk := Lib.hid hk
          have Hgo := Lib.hid hgo
          clear now nxt hl2 hlA ap aq sw hw hq hp hma hk hgo hkY hi4
          unfold encF at *
          go_wp2_with fail
          go_region
          all_goals (go_wp2_with fail)
          go_roundw
          case rel => exact ⟨k + 1, q, by have := Hgo.out; omega, by have := Hq.out; have := Hp.out; omega, by go_num, S3.out⟩
          case measure => have := Hq.out; have := Hp.out; have := Hgo.out; have := Hma.out; simp [intOf]; omega
        · have hltz : ¬ (p : Int) < (i1 : Int) := by omega
          obtain rfl : k = i - m := by omega
          have Hw2 := Lib.hid hw
          clear hw
          go_wp2_with fail
          refine bodyPost_ret (results_none rfl _ _ _) rfl ?_
          refine ⟨rfl, _, ?_, Z.out, Hw2.out⟩
          have hp : (Y.take (i - m) ++ x :: Y.drop (i - m)).Perm (x :: (Y.take (i - m) ++ Y.drop (i - m))) := List.perm_middle
          rw [List.take_append_drop] at hp
          exact hp
end Go.Proofs.Ytnkgcibdibgmjaa

namespace Go.Proofs.Ytnkgcibdibgmjaa
open Go.RowKit Go.Shelf Go.Lib Go.Sort

set_option maxRecDepth 20000 in
set_option maxHeartbeats 8000000 in
theorem symLast {w0 : World} {blk N : Nat} (s : Srt w0 blk N) {c : Fin 256 → Int} {g : Nat} {cb : Array Value} (C : Cmp c g cb w0 blk N) (cap : Nat) (P X S : List (Fin 256)) (y : Fin 256) (a m b : Nat) (ha : P.length = a) (hm : a + X.length = m) (hb : m + 1 = b) (hx : 2 ≤ X.length)
    (hX : X.Pairwise (Tot c)) (hB : ∀ x ∈ X, x.val < y.val) (hN : (P ++ ((X ++ [y]) ++ S)).length = N) (w : World) (h : Sl1 w0 blk (P ++ ((X ++ [y]) ++ S)) w) :
    Calls Try.prog 73 #[.slice (some ⟨blk, 0, none⟩) N cap, .int .i64 a, .int .i64 m, .int .i64 b, .func (.func g) #[] cb] w fun e w' => e = .returned (.tuple #[]) ∧ ∃ Z : List (Fin 256), Z.Perm (X ++ [y]) ∧ Z.Pairwise (Tot c) ∧ Sl1 w0 blk (P ++ (Z ++ S)) w' := by
  have hbig := s.small
  have hbn : b ≤ N := by simp at hN; omega
  obtain ⟨f, hf⟩ : ∃ f : Nat → Bool, f = fun h => !decide (c y < c (X.getD (h - a) 0)) := ⟨_, rfl⟩
  have Fin_ := Lib.hid (show ∀ i, Se f a m i i → (X.take (i - a) ++ y :: X.drop (i - a)).Pairwise (Tot c) from fun i si => by
    rw [← hm] at si
    refine put_in hX si (fun k hk hf1 => ?_) (fun k hk hf1 => ?_)
    · rw [hf] at hf1
      simp only [Bool.not_eq_true', decide_eq_false_iff_not] at hf1
      rw [show a + k - a = k by omega, List.getD_eq_getElem?_getD, List.getElem?_eq_getElem hk] at hf1
      exact Tot.of_not (hB _ (List.getElem_mem hk)) hf1
    · rw [hf] at hf1
      simp only [Bool.not_eq_false', decide_eq_true_eq] at hf1
      rw [show a + k - a = k by omega, List.getD_eq_getElem?_getD, List.getElem?_eq_getElem hk] at hf1
      exact Tot.of_lt hf1)
  have hl : (P ++ ((X ++ [y]) ++ S)).length = N := hN
  have F := Lib.hid (show ∀ h, f h = !decide (c y < c (X.getD (h - a) 0)) from fun h => by rw [hf])
  have Hw := Lib.hid h
  have Hs := Lib.hid s
  have HC := Lib.hid C
  have Ha := Lib.hid ha
  have Hm := Lib.hid hm
  have HN := Lib.hid hN
  have eg := C.enter
  have mixed : Try.prog.follows .mixedOrders = true := by kernel_rfl
  obtain ⟨d, hd⟩ : ∃ d, d = X.length := ⟨_, rfl⟩
  have z1 : (m : Int) - (a : Int) = (d : Int) := by omega
  have z1b : ((d : Int) == 1) = false := by simp; omega
  have z2 : (b : Int) - (m : Int) = 1 := by omega
  have hmb : m < b := by omega
  have ham : a < m := by omega
  have cellM := Lib.hid (show (P ++ ((X ++ [y]) ++ S)).toArray[m]! = y from arr_at' (P := P ++ X) (S := S) (by simp) (by simp; omega))
  have cellX := Lib.hid (show ∀ h, a ≤ h → h < m → (P ++ ((X ++ [y]) ++ S)).toArray[h]! = X.getD (h - a) 0 from fun h h1 h2 => by
    obtain ⟨k, rfl⟩ : ∃ k, h = a + k := ⟨h - a, by omega⟩
    rw [show a + k - a = k by omega, List.getD_eq_getElem?_getD, List.getElem?_eq_getElem (by omega)]
    refine arr_at' (P := P ++ X.take k) (S := X.drop (k + 1) ++ ([y] ++ S)) ?_ ?_
    · conv => lhs; rw [← List.take_append_drop k X, List.drop_eq_getElem_cons (by omega : k < X.length)]
      simp only [List.append_assoc, List.cons_append, Option.getD_some]
    · simp only [List.length_append, List.length_take]; omega)
  clear h s C ha hb hN hX hB hf hx hd
  go_enter Try.func73, Try.ntmps73
  go_wp2_with fail
  go_loopw [14, 15, 16] (fun vi vj _ wr => ∃ i j : Nat, vi = .int .i64 i ∧ vj = .int .i64 j ∧ Se f a m i j ∧ Sl1 w0 blk (P ++ ((X ++ [y]) ++ S)) wr) (fun vi vj _ _ => (intOf vj).toNat - (intOf vi).toNat)
  case atStart => exact ⟨a, m, rfl, rfl, Se.start f (by omega), Hw.out⟩
  case round =>
    obtain ⟨i, j, rfl, rfl, se, hw⟩ := hrel
    have Se_ := Lib.hid se
    have hi1 := se.l1
    have hi2 := se.mid
    have hi3 := se.l2
    clear se Hw
    by_cases hlt : i < j
    · have hltz : (i : Int) < (j : Int) := by omega
      have Hw := Lib.hid hw
      clear hw hm
      go_wp2_with fail
      obtain ⟨h, hh, hh2⟩ := half_is i j
      rw [hh]
      have hih : i ≤ h := by omega
      have hhj : h < j := by omega
      have hhN : h < N := by omega
      clear hh hh2
      have l1 := fun n os => (Hw.out.grown n os).at_ Hs.out hl (i := m) (by omega) cellM.out
      have l2 := fun n os => (Hw.out.grown n os).at_ Hs.out hl (i := h) (by omega) (cellX.out h (by omega) (by omega))
      have hc := Hw.out.cmp HC.out hl y (X.getD (h - a) 0)
      have hv := cmpV_neg c y (X.getD (h - a) 0)
      have hf := F.out h
      rw [← hv] at hf
      have Up := Lib.hid (fun hf : f h = true => Se_.out.up hih hhj hf)
      have Dn := Lib.hid (fun hf : f h = false => Se_.out.down hih hhj hf)
      clear hv
      generalize X.getD (h - a) 0 = x at *
      generalize cmpV c y x = r at *
      obtain ⟨q, hq⟩ : ∃ q, q = decide (r < 0) := ⟨_, rfl⟩
      rw [← hq] at hf
      have hq' : decide (r < 0) = q := hq.symm
      clear hq
      have hhz : (0 : Int) ≤ (h : Int) ∧ (h : Int) < (N : Int) := by omega
      have hmz : (0 : Int) ≤ (m : Int) ∧ (m : Int) < (N : Int) := by omega
      clear cellX cellM Se_
      cases q with
      | false =>
        have Hf := Lib.hid hf
        clear hf
        go_quiet_grown (first | (go_at_fn g; refine Calls.grown_of (hc _ _)))
        have S2 := Lib.hid (Hw.out.grown nq osq)
        clear Hw l1 l2 hc
        generalize grow (wr.drewN nq) osq = w2 at S2 ⊢
        clear nq osq
        go_wp2_with fail
        go_roundw
        case rel => exact ⟨h + 1, j, by go_num, rfl, Up.out (by simpa using Hf.out), S2.out⟩
        case measure => simp [intOf]; omega
      | true =>
        have Hf := Lib.hid hf
        clear hf
        go_quiet_grown (first | (go_at_fn g; refine Calls.grown_of (hc _ _)))
        have S2 := Lib.hid (Hw.out.grown nq osq)
        clear Hw l1 l2 hc
        generalize grow (wr.drewN nq) osq = w2 at S2 ⊢
        clear nq osq
        go_wp2_with fail
        go_roundw
        case rel => exact ⟨i, h, rfl, rfl, Dn.out (by simpa using Hf.out), S2.out⟩
        case measure => simp [intOf]; omega
    · have hltz : ¬ (i : Int) < (j : Int) := by omega
      obtain rfl : i = j := by omega
      have Z := Lib.hid (Fin_.out i Se_.out)
      have Hw := Lib.hid hw
      clear hw F Fin_ cellM cellX hi2 hm z1 z2
      go_wp2_with fail
      go_loopw [17] (fun vk wr => ∃ q : Nat, i ≤ q ∧ q ≤ m ∧ vk = .int .i64 (q : Int) ∧ Sl1 w0 blk (P ++ ((X.take (q - a) ++ y :: X.drop (q - a)) ++ S)) wr) (fun vk _ => (intOf vk).toNat - i)
      case atStart => exact ⟨m, by omega, by omega, rfl, by have := Hm.out; rw [List.take_of_length_le (by omega), List.drop_eq_nil_of_le (by omega)]; simpa using Hw.out⟩
      case round =>
        obtain ⟨q, hiq, hqm, rfl, hw⟩ := hrel
        by_cases hgo : i < q
        · have q1 : decide ((i : Int) < (q : Int)) = true := by rw [decide_eq_true_eq]; omega
          have hltz : (i : Int) < (q : Int) := by omega
          obtain ⟨k, hk⟩ : ∃ k, k = q - a - 1 := ⟨_, rfl⟩
          obtain ⟨p, hp⟩ : ∃ p, p = a + k := ⟨_, rfl⟩
          have hpq : q = p + 1 := by omega
          have hqa : q - a = k + 1 := by omega
          rw [hqa] at hw
          have zq : (q : Int) - 1 = (p : Int) := by omega
          have hkX : k < X.length := by have := Hm.out; omega
          have now := way_next P S (x := y) hkX
          have nxt := way_now P S (x := y) hkX
          have hl2 : (P ++ ((X.take (k + 1) ++ y :: X.drop (k + 1)) ++ S)).length = N := by have := HN.out; simp at *; omega
          have hlA : (P ++ X.take k).length = p := by rw [List.length_append, List.length_take]; have := Ha.out; omega
          generalize X[k] = x at *
          have hpN : p < N := by omega
          have hqN : q < N := by omega
          have ap : (P ++ ((X.take (k + 1) ++ y :: X.drop (k + 1)) ++ S)).toArray[p]! = x := arr_at' now.symm hlA
          have aq : (P ++ ((X.take (k + 1) ++ y :: X.drop (k + 1)) ++ S)).toArray[q]! = y := by
            rw [← now]
            exact arr_at' (P := (P ++ X.take k) ++ [x]) (S := X.drop (k + 1) ++ S) (by simp) (by rw [List.length_append, hlA, hpq]; rfl)
          have sw := swp_is' (i := p) (j := q) now.symm hlA (by simp; omega)
          rw [← nxt] at sw
          have S3 := Lib.hid (hw.swapped Hs.out hl2 hqN hpN sw aq ap)
          have cp := hw.at_ Hs.out hl2 hpN ap
          have cq := hw.at_ Hs.out hl2 hqN aq
          have fp := hw.frz Hs.out hl2 hpN
          have fq := hw.frz Hs.out hl2 hqN
          obtain ⟨u, c2⟩ := hw.c2 Hs.out hl2 hqN hpN (encF x)
          have hpz : (0 : Int) ≤ (p : Int) ∧ (p : Int) < (N : Int) := by omega
          have hqz : (0 : Int) ≤ (q : Int) ∧ (q : Int) < (N : Int) := by omega
          have wp : IntKind.i64.wrap (p : Int) = (p : Int) := by rw [IntKind.wrap_i64]; omega
          have wq : IntKind.i64.wrap (q : Int) = (q : Int) := by rw [IntKind.wrap_i64]; omega
          have Hp := Lib.hid hp
          have Hpq := Lib.hid hpq
          have Hk := Lib.hid hk
          have Hqa := Lib.hid hqa
          clear now nxt hl2 hlA ap aq sw hw hp hpq hk hqa hkX
          unfold encF at *
          go_wp2_with fail
          go_region
          all_goals (go_wp2_with fail)
          go_roundw
          case rel => exact ⟨p, by have := Hpq.out; omega, by have := Hpq.out; omega, by go_num, by rw [show p - a = k by have := Hp.out; omega]; exact S3.out⟩
          case measure => have := Hpq.out; simp [intOf]; omega
        · have q1 : decide ((i : Int) < (q : Int)) = false := by rw [decide_eq_false_iff_not]; omega
          have hltz : ¬ (i : Int) < (q : Int) := by omega
          obtain rfl : i = q := by omega
          have Hw2 := Lib.hid hw
          clear hw
          go_wp2_with fail
          refine bodyPost_ret (results_none rfl _ _ _) rfl ?_
          refine ⟨rfl, _, ?_, Z.out, Hw2.out⟩
          have hp : (X.take (i - a) ++ y :: X.drop (i - a)).Perm (y :: (X.take (i - a) ++ X.drop (i - a))) := List.perm_middle
          rw [List.take_append_drop] at hp
          exact hp.trans (List.perm_append_comm (l₁ := [y]) (l₂ := X))
end Go.Proofs.Ytnkgcibdibgmjaa
