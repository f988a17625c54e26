/- The sort at rows of six cells: rows that are being sorted, as lists of numbers (the element's place in the row at the start). slices.swapRangeCmpFunc and slices.rotateCmpFunc at edits. The sort at rows of six cells: slices.symMergeCmpFunc: two rows that are in order become one that is. Plain Lean: a row in blocks, each of them in order. slices.insertionSortCmpFunc, slices.stableCmpFunc, slices.SortStableFunc at edits. The sort at edits, plain: the only row of places that is in order, mapped, is what the insertion one by one makes. -/
import Derived.Test.YtlcchefiicalpaaZwbj
import Derived.Test.YtlcchefiicalpaaZwe
import Derived.Shelf.SlSortCmp.KitK
import Derived.WalkKit
import Derived.Lib.Hide
import Derived.BigRegion
import Derived.Deep.DeepCutAuto
import Derived.Shelf.SlLaysF0
import Derived.Test.YtlcchefiicalpaaChecked
namespace Go.Proofs.Ytlcchefiicalpaa.Srt6
open Go.RowKit Go.Shelf Go.Lib Go.Sort
section
variable {α : Type} [Inhabited α]
theorem arr_at (P : List α) (u : α) (S : List α) : (P ++ u :: S).toArray[P.length]! = u := by simp
theorem arr_at' {L P S : List α} {u : α} {k : Nat} (h : L = P ++ u :: S) (hk : P.length = k) : L.toArray[k]! = u := by
  subst h; subst hk; exact arr_at P u S
theorem swp_list (P : List α) (u : α) (M : List α) (v : α) (S : List α) : swp (P ++ u :: (M ++ v :: S)).toArray P.length (P.length + 1 + M.length) = (P ++ v :: (M ++ u :: S)).toArray := by
  unfold swp
  have h1 : (P ++ u :: (M ++ v :: S)).toArray[P.length]! = u := arr_at _ _ _
  have h2 : (P ++ u :: (M ++ v :: S)).toArray[P.length + 1 + M.length]! = v := arr_at' (P := P ++ u :: M) (S := S) (by simp) (by simp; omega)
  rw [h1, h2, List.setIfInBounds_toArray, List.setIfInBounds_toArray]
  congr 1
  rw [List.set_append_right _ _ (Nat.le_refl _), Nat.sub_self, List.set_cons_zero, List.set_append_right _ _ (by omega), show P.length + 1 + M.length - P.length = M.length + 1 by omega, List.set_cons_succ, List.set_append_right _ _ (Nat.le_refl _), Nat.sub_self, List.set_cons_zero]
theorem swp_list' (P : List α) (u : α) (M : List α) (v : α) (S : List α) : swp (P ++ u :: (M ++ v :: S)).toArray (P.length + 1 + M.length) P.length = (P ++ v :: (M ++ u :: S)).toArray := by
  refine Eq.trans ?_ (swp_list P u M v S)
  unfold swp
  have h1 : (P ++ u :: (M ++ v :: S)).toArray[P.length]! = u := arr_at _ _ _
  have h2 : (P ++ u :: (M ++ v :: S)).toArray[P.length + 1 + M.length]! = v := arr_at' (P := P ++ u :: M) (S := S) (by simp) (by simp; omega)
  rw [h1, h2]
  exact (Array.setIfInBounds_comm _ _ (by omega))
theorem swp_is {L P M S : List α} {u v : α} {i j : Nat} (h : L = P ++ u :: (M ++ v :: S)) (hi : P.length = i) (hj : i + 1 + M.length = j) : swp L.toArray i j = (P ++ v :: (M ++ u :: S)).toArray := by
  subst h; subst hi; subst hj; exact swp_list P u M v S
theorem swp_is' {L P M S : List α} {u v : α} {i j : Nat} (h : L = P ++ u :: (M ++ v :: S)) (hi : P.length = i) (hj : i + 1 + M.length = j) : swp L.toArray j i = (P ++ v :: (M ++ u :: S)).toArray := by
  subst h; subst hi; subst hj; exact swp_list' P u M v S
omit [Inhabited α] in
theorem take_snoc' {l : List α} {i : Nat} (h : i < l.length) : l.take (i + 1) = l.take i ++ [l[i]] := by
  rw [List.take_add_one, List.getElem?_eq_getElem h]; rfl
end
/-- The row of N elements in a world of the sort's: element i's six cells are E i. -/
def Sl1 (E : Nat → List Value) (w0 : World) (blk : Nat) (L : List Nat) (W : World) : Prop := SWK E 6 w0 blk 0 L.toArray W
structure Srt (E : Nat → List Value) (w0 : World) (blk N : Nat) : Prop where
  row : ∃ d0 : Array Nat, d0.size = N ∧ RowK E 6 w0 blk 0 d0
  small : N ≤ 100000
section
variable {E : Nat → List Value} {w0 W : World} {blk N : Nat} {L : List Nat}
theorem Srt.len (s : Srt E w0 blk N) (x : Nat) : (E x).length = 6 := by obtain ⟨d0, hd, R⟩ := s.row; exact R.hk x
theorem Sl1.ld (h : Sl1 E w0 blk L W) (s : Srt E w0 blk N) (hL : L.length = N) {i : Nat} {u : Nat} (hi : i < N) (hu : L.toArray[i]! = u) : Sem.run Try.prog (loadCellsFrom ⟨blk, i * 6, none⟩ 0 6 #[]) W = .ok (E u).toArray W := by
  obtain ⟨d0, hd, R⟩ := s.row
  have := SWK.load h R (by simp; omega) Try.prog i (by simp; omega)
  rw [hu, Nat.zero_add] at this
  exact this
theorem Sl1.st (h : Sl1 E w0 blk L W) (s : Srt E w0 blk N) (hL : L.length = N) {i j : Nat} (hi : i < N) (hj : j < N) (x y : Nat) :
    Sem.run Try.prog (storeCells ⟨blk, i * 6, none⟩ (E y) 0) W.drew = .ok () (W.drew.setCells blk (i * 6) (E y)) ∧
    Sem.run Try.prog (storeCells ⟨blk, j * 6, none⟩ (E x) 0) (W.drew.setCells blk (i * 6) (E y)) = .ok () ((W.drew.setCells blk (i * 6) (E y)).setCells blk (j * 6) (E x)) := by
  obtain ⟨d0, hd, R⟩ := s.row
  have h1 := SWK.st1 h R (by simp; omega) Try.prog i (by simp; omega) y
  have h2 := SWK.st2 h R (by simp; omega) Try.prog i j (by simp; omega) (by simp; omega) y x
  rw [Nat.zero_add] at h1
  rw [Nat.zero_add, Nat.zero_add] at h2
  exact ⟨h1, h2⟩
theorem Sl1.swapped (h : Sl1 E w0 blk L W) (s : Srt E w0 blk N) (hL : L.length = N) {i j : Nat} (hi : i < N) (hj : j < N) {L' : List Nat} (hs : swp L.toArray i j = L'.toArray) {x y : Nat} (hx : L.toArray[i]! = x) (hy : L.toArray[j]! = y) :
    Sl1 E w0 blk L' ((W.drew.setCells blk (i * 6) (E y)).setCells blk (j * 6) (E x)) := by
  obtain ⟨d0, hd, R⟩ := s.row
  have := SWK.swapped h R i j (by simp; omega) (by simp; omega)
  rw [hs, hx, hy, Nat.zero_add, Nat.zero_add] at this
  exact this
theorem Sl1.drew (h : Sl1 E w0 blk L W) : Sl1 E w0 blk L W.drew := SWK.drew h
end
end Go.Proofs.Ytlcchefiicalpaa.Srt6
namespace Go.Proofs.Ytlcchefiicalpaa.Srt6
open Go.RowKit Go.Shelf Go.Lib Go.Sort
/-- What a range swapped i elements far looks like. -/
def swK (P U M V S : List Nat) (i : Nat) : List Nat := (P ++ V.take i) ++ (U.drop i ++ (M ++ (U.take i ++ (V.drop i ++ S))))
theorem swK_zero (P U M V S : List Nat) : swK P U M V S 0 = P ++ (U ++ (M ++ (V ++ S))) := by simp [swK]
theorem swK_all {P U M V S : List Nat} {n : Nat} (hu : U.length = n) (hv : V.length = n) : swK P U M V S n = P ++ (V ++ (M ++ (U ++ S))) := by
  unfold swK
  rw [List.take_of_length_le (by omega), List.drop_eq_nil_of_le (by omega), List.take_of_length_le (by omega), List.drop_eq_nil_of_le (by omega)]
  simp
theorem swK_len (P U M V S : List Nat) {i n : Nat} (hu : U.length = n) (hv : V.length = n) (hi : i ≤ n) : (swK P U M V S i).length = P.length + n + M.length + n + S.length := by
  unfold swK
  simp
  omega
theorem swK_now (P M S : List Nat) {U V : List Nat} {i n : Nat} (hu : U.length = n) (hv : V.length = n) (hi : i < n) :
    swK P U M V S i = (P ++ V.take i) ++ U[i] :: ((U.drop (i + 1) ++ (M ++ U.take i)) ++ V[i] :: (V.drop (i + 1) ++ S)) := by
  unfold swK
  rw [List.drop_eq_getElem_cons (by omega : i < U.length), List.drop_eq_getElem_cons (by omega : i < V.length)]
  simp only [List.append_assoc, List.cons_append]
theorem swK_next (P M S : List Nat) {U V : List Nat} {i n : Nat} (hu : U.length = n) (hv : V.length = n) (hi : i < n) :
    (P ++ V.take i) ++ V[i] :: ((U.drop (i + 1) ++ (M ++ U.take i)) ++ U[i] :: (V.drop (i + 1) ++ S)) = swK P U M V S (i + 1) := by
  unfold swK
  rw [take_snoc' (by omega : i < U.length), take_snoc' (by omega : i < V.length)]
  simp only [List.append_assoc, List.cons_append, List.nil_append]
set_option maxHeartbeats 4000000 in
theorem swapRange_any {E : Nat → List Value} {w0 : World} {blk N : Nat} (s : Srt E w0 blk N) (cap : Nat) (fv : Value) (P U M V S : List Nat) (a b n : Nat) (ha : P.length = a) (hb : a + n + M.length = b) (hu : U.length = n) (hv : V.length = n)
    (hN : (P ++ (U ++ (M ++ (V ++ S)))).length = N) (w : World) (h : Sl1 E w0 blk (P ++ (U ++ (M ++ (V ++ S)))) w) :
    Calls Try.prog 121 #[.slice (some ⟨blk, 0, none⟩) N cap, .int .i64 a, .int .i64 b, .int .i64 n, fv] w fun e w' => e = .returned (.tuple #[]) ∧ Sl1 E w0 blk (P ++ (V ++ (M ++ (U ++ S)))) w' := by
  have hbig := s.small
  have hbn : b + n ≤ N := by simp at hN; omega
  have Hh := Lib.hid h
  have Hs := Lib.hid s
  have Ha := Lib.hid ha
  have Hb := Lib.hid hb
  have Hu := Lib.hid hu
  have Hv := Lib.hid hv
  have HN := Lib.hid hN
  clear h s ha hb hu hv hN
  obtain ⟨k6, hk6⟩ : ∃ k : Nat, k = 6 := ⟨_, rfl⟩
  obtain ⟨t, ht⟩ : ∃ t, t = 146 := ⟨_, rfl⟩
  have aE : ∀ w, (isAgg t).run Try.prog w = .ok true w := fun w => by rw [ht]; exact Try.isAgg146 w
  have zE : ∀ w, (Go.sizeOf t).run Try.prog w = .ok k6 w := fun w => by rw [ht, hk6]; exact Try.sizeOf146 w
  have E1 : ∀ x, Op.load 146 x = Op.load t x := fun x => by rw [ht]
  have E2 : ∀ x y, Op.store 146 x y = Op.store t x y := fun x y => by rw [ht]
  have HK6 := Lib.hid hk6
  have mixed : Try.prog.follows .mixedOrders = true := by kernel_rfl
  clear hk6 ht
  go_enter Try.func121, Try.ntmps121
  simp only [E1, E2]
  clear E1 E2
  go_wp2_with fail
  go_loopw [10] (fun vi wr => ∃ i : Nat, i ≤ n ∧ vi = .int .i64 i ∧ Sl1 E w0 blk (swK P U M V S i) wr) (fun vi _ => n - (intOf vi).toNat)
  case atStart => exact ⟨0, by omega, rfl, by rw [swK_zero]; exact Hh.out⟩
  case round =>
    obtain ⟨i, hi, rfl, hw⟩ := hrel
    by_cases hlt : i < n
    · have hltz : (i : Int) < (n : Int) := by omega
      have now := swK_now P M S Hu.out Hv.out hlt
      have nxt := swK_next P M S Hu.out Hv.out hlt
      have hl : (swK P U M V S i).length = N := by rw [swK_len P U M V S Hu.out Hv.out hi]; have := HN.out; have := Hu.out; have := Hv.out; simp at *; omega
      have hlA : (P ++ V.take i).length = a + i := by rw [List.length_append, List.length_take]; have := Ha.out; have := Hv.out; omega
      have hlB : (U.drop (i + 1) ++ (M ++ U.take i)).length + (a + i) + 1 = b + i := by
        simp only [List.length_append, List.length_drop, List.length_take]; have := Hb.out; have := Hu.out; omega
      generalize U[i]'(by have := Hu.out; omega) = u at *
      generalize V[i]'(by have := Hv.out; omega) = v at *
      obtain ⟨p, hp⟩ : ∃ p : Nat, p = a + i := ⟨_, rfl⟩
      obtain ⟨q, hq⟩ : ∃ q : Nat, q = b + i := ⟨_, rfl⟩
      have zp : (a : Int) + (i : Int) = (p : Int) := by omega
      have zq : (b : Int) + (i : Int) = (q : Int) := by omega
      have hpN : p < N := by omega
      have hqN : q < N := by omega
      have ap : (swK P U M V S i).toArray[p]! = u := arr_at' now (by omega)
      have aq : (swK P U M V S i).toArray[q]! = v := by
        rw [now]
        exact arr_at' (P := (P ++ V.take i) ++ u :: (U.drop (i + 1) ++ (M ++ U.take i))) (S := V.drop (i + 1) ++ S) (by simp) (by rw [List.length_append, List.length_cons]; omega)
      have sw := swp_is (i := p) (j := q) now (by omega) (by omega)
      rw [nxt] at sw
      have S3 := Lib.hid (hw.swapped Hs.out hl hpN hqN sw ap aq)
      have lp : Sem.run Try.prog (loadCellsFrom ⟨blk, p * 6, none⟩ 0 k6 #[]) wr.drew = .ok (E u).toArray wr.drew := by rw [HK6.out]; exact hw.drew.ld Hs.out hl hpN ap
      have lq : Sem.run Try.prog (loadCellsFrom ⟨blk, q * 6, none⟩ 0 k6 #[]) wr.drew = .ok (E v).toArray wr.drew := by rw [HK6.out]; exact hw.drew.ld Hs.out hl hqN aq
      obtain ⟨s1, s2⟩ := hw.st Hs.out hl hpN hqN u v
      have hu6 : (E u).length = k6 := (Hs.out.len u).trans HK6.out.symm
      have hv6 : (E v).length = k6 := (Hs.out.len v).trans HK6.out.symm
      obtain ⟨cu, hcu⟩ : ∃ c, c = E u := ⟨_, rfl⟩
      obtain ⟨cv, hcv⟩ : ∃ c, c = E v := ⟨_, rfl⟩
      rw [← hcu] at lp s2 hu6 S3
      rw [← hcv] at lq s1 hv6 S3
      rw [← hcv] at s2
      clear hcu hcv
      have hpz : (0 : Int) ≤ (p : Int) ∧ (p : Int) < (N : Int) := by omega
      have hqz : (0 : Int) ≤ (q : Int) ∧ (q : Int) < (N : Int) := by omega
      have wp : IntKind.i64.wrap (p : Int) = (p : Int) := by rw [IntKind.wrap_i64]; omega
      have wq : IntKind.i64.wrap (q : Int) = (q : Int) := by rw [IntKind.wrap_i64]; omega
      clear now nxt hl hlA hlB hp hq ap aq sw hw
      go_wp2_with fail
      go_big_region_o
      all_goals (go_wp2_with fail)
      go_roundw
      case rel => exact ⟨i + 1, by omega, by go_num, S3.out⟩
      case measure => simp [intOf]; omega
    · have hltz : ¬ (i : Int) < (n : Int) := by omega
      obtain rfl : i = n := by omega
      rw [swK_all Hu.out Hv.out] at hw
      have Hw := Lib.hid hw
      clear hw
      go_wp2_with fail
      go_end0
      exact ⟨rfl, Hw.out⟩
set_option maxHeartbeats 4000000 in
theorem rotate_any {E : Nat → List Value} {w0 : World} {blk N : Nat} (s : Srt E w0 blk N) (cap : Nat) (fv : Value) (P X Y S : List Nat) (a m b : Nat) (ha : P.length = a) (hm : a + X.length = m) (hb : m + Y.length = b) (hx : 0 < X.length) (hy : 0 < Y.length)
    (hN : (P ++ (X ++ (Y ++ S))).length = N) (w : World) (h : Sl1 E w0 blk (P ++ (X ++ (Y ++ S))) w) :
    Calls Try.prog 120 #[.slice (some ⟨blk, 0, none⟩) N cap, .int .i64 a, .int .i64 m, .int .i64 b, fv] w fun e w' => e = .returned (.tuple #[]) ∧ Sl1 E w0 blk (P ++ (Y ++ (X ++ S))) w' := by
  have hbig := s.small
  have hbn : b ≤ N := by simp at hN; omega
  have c := Lib.hid (fun (P U M V S : List Nat) (a b n : Nat) => swapRange_any s cap fv P U M V S a b n)
  obtain ⟨i0, hi0⟩ : ∃ i, i = X.length := ⟨_, rfl⟩
  obtain ⟨j0, hj0⟩ : ∃ j, j = Y.length := ⟨_, rfl⟩
  have z1 : (m : Int) - (a : Int) = (i0 : Int) := by omega
  have z2 : (b : Int) - (m : Int) = (j0 : Int) := by omega
  have hi0m : i0 ≤ m := by omega
  have hj0b : m + j0 ≤ b := by omega
  have Hh := Lib.hid (show ∃ P' X' Y' S' : List Nat, X'.length = i0 ∧ Y'.length = j0 ∧ P'.length + i0 = m ∧ 0 < i0 ∧ 0 < j0 ∧ m + j0 ≤ b ∧ (P' ++ (X' ++ (Y' ++ S'))).length = N ∧ Sl1 E w0 blk (P' ++ (X' ++ (Y' ++ S'))) w ∧ P' ++ (Y' ++ (X' ++ S')) = P ++ (Y ++ (X ++ S)) from ⟨P, X, Y, S, hi0.symm, hj0.symm, by omega, by omega, by omega, by omega, hN, h, rfl⟩)
  generalize P ++ (Y ++ (X ++ S)) = R at *
  clear h s ha hb hN hi0 hj0 hx hy hm hj0b hi0m
  go_enter Try.func120, Try.ntmps120
  go_wp2_with fail
  go_loopw [10, 11] (fun vi vj wr => ∃ i j : Nat, vi = .int .i64 i ∧ vj = .int .i64 j ∧ ∃ P' X' Y' S' : List Nat, X'.length = i ∧ Y'.length = j ∧ P'.length + i = m ∧ 0 < i ∧ 0 < j ∧ m + j ≤ b ∧ (P' ++ (X' ++ (Y' ++ S'))).length = N ∧ Sl1 E w0 blk (P' ++ (X' ++ (Y' ++ S'))) wr ∧ P' ++ (Y' ++ (X' ++ S')) = R) (fun vi vj _ => (intOf vi).toNat + (intOf vj).toNat)
  case atStart => exact ⟨i0, j0, rfl, rfl, Hh.out⟩
  case round =>
    obtain ⟨i, j, rfl, rfl, P', X', Y', S', hX, hY, hP, hip, hjp, hjb, hl, hw, hR⟩ := hrel
    have HX := Lib.hid hX
    have HY := Lib.hid hY
    have HP := Lib.hid hP
    have HR := Lib.hid hR
    have Hl := Lib.hid hl
    have Hw := Lib.hid hw
    obtain ⟨p, hp⟩ : ∃ p, p = P'.length := ⟨_, rfl⟩
    have hpm : p + i = m := by omega
    have Hp := Lib.hid hp
    have hmi : (m : Int) - (i : Int) = (p : Int) := by omega
    clear hX hY hP hR hl hw hp Hh z1 z2
    by_cases hne : i = j
    · subst hne
      go_wp2_with (first
        | (go_at_call 121; refine (c.out P' X' [] Y' S' p m i Hp.out.symm (by simpa using hpm) HX.out HY.out (by simpa using Hl.out) _ (by simpa using Hw.out)).mono ?_; rintro e w' ⟨rfl, hw'⟩))
      go_end0
      refine ⟨rfl, ?_⟩
      rw [← HR.out]
      simpa using hw'
    · have hne' : ¬ (i : Int) = (j : Int) := by omega
      by_cases hlt : j < i
      · have q1 : decide ((j : Int) < (i : Int)) = true := by rw [decide_eq_true_eq]; omega
        have hlt' : (j : Int) < (i : Int) := by omega
        obtain ⟨X1, X2, rfl, h1⟩ : ∃ X1 X2, X' = X1 ++ X2 ∧ X1.length = j := ⟨X'.take j, X'.drop j, (List.take_append_drop _ _).symm, by rw [List.length_take]; have := HX.out; omega⟩
        have H1 := Lib.hid h1
        have H2 := Lib.hid (show X2.length = i - j by have := HX.out; simp at this; omega)
        have Hl2 := Lib.hid (show (P' ++ (X1 ++ (X2 ++ (Y' ++ S')))).length = N by have := Hl.out; simp at *; omega)
        clear h1
        go_wp2_with (first
          | (go_at_call 121; refine (c.out P' X1 X2 Y' S' p m j Hp.out.symm (by have := H2.out; omega) H1.out HY.out Hl2.out _ (by have := Hw.out; rw [List.append_assoc] at this; exact this)).mono ?_; rintro e w' ⟨rfl, hw'⟩))
        have Hw' := Lib.hid hw'
        clear hw'
        go_wp2_with fail
        go_roundw
        case rel =>
          refine ⟨i - j, j, by go_num, rfl, P' ++ Y', X2, X1, S', H2.out, H1.out, ?_, by omega, by omega, by omega, ?_, ?_, ?_⟩
          · rw [List.length_append, HY.out, ← Hp.out]; omega
          · have := Hl2.out; simp at *; omega
          · rw [List.append_assoc]; exact Hw'.out
          · rw [← HR.out]; simp
        case measure => simp [intOf]; omega
      · have q1 : decide ((j : Int) < (i : Int)) = false := by rw [decide_eq_false_iff_not]; omega
        have hlt' : ¬ (j : Int) < (i : Int) := by omega
        obtain ⟨Y1, Y2, rfl, h1⟩ : ∃ Y1 Y2, Y' = Y1 ++ Y2 ∧ Y1.length = j - i := ⟨Y'.take (j - i), Y'.drop (j - i), (List.take_append_drop _ _).symm, by rw [List.length_take]; have := HY.out; omega⟩
        have H1 := Lib.hid h1
        have H2 := Lib.hid (show Y2.length = i by have := HY.out; simp at this; omega)
        have Hl2 := Lib.hid (show (P' ++ (X' ++ (Y1 ++ (Y2 ++ S')))).length = N by have := Hl.out; simp at *; omega)
        obtain ⟨q, hq⟩ : ∃ q : Nat, q = m + j - i := ⟨_, rfl⟩
        have hq' : q + i = m + j := by omega
        have zq : (m : Int) + (j : Int) - (i : Int) = (q : Int) := by omega
        clear h1 hq
        go_wp2_with (first
          | (go_at_call 121; refine (c.out P' X' Y1 Y2 S' p q i Hp.out.symm (by have := H1.out; omega) HX.out H2.out Hl2.out _ (by have := Hw.out; rw [List.append_assoc] at this; exact this)).mono ?_; rintro e w' ⟨rfl, hw'⟩))
        have Hw' := Lib.hid hw'
        clear hw'
        go_wp2_with fail
        go_roundw
        case rel =>
          refine ⟨i, j - i, rfl, by go_num, P', Y2, Y1, X' ++ S', H2.out, H1.out, ?_, by omega, by omega, by omega, ?_, ?_, ?_⟩
          · rw [← Hp.out]; omega
          · have := Hl2.out; simp at *; omega
          · exact Hw'.out
          · rw [← HR.out]; simp
        case measure => simp [intOf]; omega
end Go.Proofs.Ytlcchefiicalpaa.Srt6
namespace Go.Proofs.Ytlcchefiicalpaa.Srt6
open Go.RowKit Go.Shelf Go.Lib Go.Sort
/-- Byte values in their order: by counts, then by themselves. -/
def Tot (c : Nat → Int) (x y : Nat) : Prop := c x < c y ∨ (c x = c y ∧ x < y)
theorem Tot.trans {c : Nat → Int} {x y z : Nat} (h1 : Tot c x y) (h2 : Tot c y z) : Tot c x z := by unfold Tot at *; omega
theorem Tot.of_not {c : Nat → Int} {x y : Nat} (hv : x < y) (h : ¬ c y < c x) : Tot c x y := by unfold Tot; omega
theorem Tot.of_lt {c : Nat → Int} {x y : Nat} (h : c x < c y) : Tot c x y := .inl h
def cmpV (c : Nat → Int) (x y : Nat) : Int := if c x < c y then -1 else if c y < c x then 1 else 0
theorem cmpV_neg (c : Nat → Int) (x y : Nat) : decide (cmpV c x y < 0) = decide (c x < c y) := by
  unfold cmpV
  split
  · rename_i h; simp [h]
  · rename_i h; split <;> simp [h]
/-- What is asked of the comparison. -/
structure Cmp (E : Nat → List Value) (c : Nat → Int) (g : Nat) (cb : Array Value) (w0 : World) (blk N : Nat) : Prop where
  enter : ∀ args w, (callFunc g args).run Try.prog w = .ok (.enter g args) w
  lays : CmpLays Try.prog g cb E 6 (cmpV c) blk 0 N w0
section
variable {E : Nat → List Value} {c : Nat → Int} {g : Nat} {cb : Array Value} {w0 W : World} {blk N : Nat} {L : List Nat}
theorem Sl1.cmp (h : Sl1 E w0 blk L W) (k : Cmp E c g cb w0 blk N) (hL : L.length = N) (x y : Nat) (n : Nat) (os : Array Obj) :
    Calls Try.prog g (#[.agg (E x).toArray, .agg (E y).toArray] ++ cb) (grow (W.drewN n) os) fun e w' => e = .returned (.int .i64 (cmpV c x y)) ∧ ∃ q os', w' = grow ((grow (W.drewN n) os).drewN q) os' :=
  SWK.cmp h k.lays (by simp; omega) x y n os
theorem Sl1.grown (h : Sl1 E w0 blk L W) (n : Nat) (os : Array Obj) : Sl1 E w0 blk L (grow (W.drewN n) os) := SWK.grown h n os
end
/-- Where a search stands between lo and hi. -/
structure Se (f : Nat → Bool) (lo hi i j : Nat) : Prop where
  l1 : lo ≤ i
  mid : i ≤ j
  l2 : j ≤ hi
  yes : i = lo ∨ f (i - 1) = true
  no : j = hi ∨ f j = false
theorem Se.start (f : Nat → Bool) {lo hi : Nat} (h : lo ≤ hi) : Se f lo hi lo hi := ⟨Nat.le_refl _, h, Nat.le_refl _, .inl rfl, .inl rfl⟩
theorem Se.up {f : Nat → Bool} {lo hi i j h : Nat} (s : Se f lo hi i j) (h1 : i ≤ h) (h2 : h < j) (hf : f h = true) : Se f lo hi (h + 1) j :=
  ⟨by have := s.l1; omega, by omega, s.l2, .inr (by simpa using hf), s.no⟩
theorem Se.down {f : Nat → Bool} {lo hi i j h : Nat} (s : Se f lo hi i j) (h1 : i ≤ h) (h2 : h < j) (hf : f h = false) : Se f lo hi i h :=
  ⟨s.l1, h1, by have := s.l2; omega, s.yes, .inr hf⟩
/-- One element set into a row that is in order. -/
theorem put_in {c : Nat → Int} {Y : List Nat} {x : Nat} (hY : Y.Pairwise (Tot c)) {f : Nat → Bool} {lo i : Nat} (s : Se f lo (lo + Y.length) i i)
    (h1 : ∀ k (hk : k < Y.length), f (lo + k) = true → Tot c Y[k] x) (h2 : ∀ k (hk : k < Y.length), f (lo + k) = false → Tot c x Y[k]) :
    (Y.take (i - lo) ++ x :: Y.drop (i - lo)).Pairwise (Tot c) := by
  have hlo := s.l1
  have hhi := s.l2
  obtain ⟨k, rfl⟩ : ∃ k, i = lo + k := ⟨i - lo, by omega⟩
  rw [show lo + k - lo = k by omega]
  have hp : ∀ u v (hu : u < Y.length) (hv : v < Y.length), u < v → Tot c Y[u] Y[v] := fun u v hu hv huv => List.pairwise_iff_getElem.1 hY u v hu hv huv
  have hA : ∀ u (hu : u < Y.length), u < k → Tot c Y[u] x := by
    intro u hu huk
    have hy := s.yes.resolve_left (by omega)
    rw [show lo + k - 1 = lo + (k - 1) by omega] at hy
    have h0 := h1 (k - 1) (by omega) hy
    rcases Nat.lt_or_ge u (k - 1) with h | h
    · exact (hp u (k - 1) hu (by omega) h).trans h0
    · obtain rfl : u = k - 1 := by omega
      exact h0
  have hB : ∀ u (hu : u < Y.length), k ≤ u → Tot c x Y[u] := by
    intro u hu huk
    have hn := s.no.resolve_left (by omega)
    have h0 := h2 k (by omega) hn
    rcases Nat.lt_or_ge k u with h | h
    · exact h0.trans (hp k u (by omega) hu h)
    · obtain rfl : k = u := by omega
      exact h0
  rw [List.pairwise_append, List.pairwise_cons]
  refine ⟨hY.sublist (List.take_sublist _ _), ⟨?_, hY.sublist (List.drop_sublist _ _)⟩, ?_⟩
  · intro y hy
    obtain ⟨u, hu, rfl⟩ := List.mem_drop_iff_getElem.1 hy
    exact hB _ _ (by omega)
  · intro y hy z hz
    obtain ⟨u, hu, rfl⟩ := List.mem_take_iff_getElem.1 hy
    rcases List.mem_cons.1 hz with rfl | hz
    · exact hA _ _ (by omega)
    · obtain ⟨v, hv, rfl⟩ := List.mem_drop_iff_getElem.1 hz
      exact hp _ _ _ _ (by omega)
theorem half_is (i j : Nat) : ∃ h : Nat, ((i : Int) + (j : Int)) / 2 = (h : Int) ∧ h = (i + j) / 2 := ⟨(i + j) / 2, by omega, rfl⟩
end Go.Proofs.Ytlcchefiicalpaa.Srt6
namespace Go.Proofs.Ytlcchefiicalpaa.Srt6
open Go.RowKit Go.Shelf Go.Lib Go.Sort
/-- x on its way through Y: k places far. -/
theorem way_now (P S : List Nat) {Y : List Nat} {x : Nat} {k : Nat} (h : k < Y.length) : P ++ ((Y.take k ++ x :: Y.drop k) ++ S) = (P ++ Y.take k) ++ x :: ([] ++ Y[k] :: (Y.drop (k + 1) ++ S)) := by
  rw [List.drop_eq_getElem_cons h]
  simp only [List.append_assoc, List.cons_append, List.nil_append]
theorem way_next (P S : List Nat) {Y : List Nat} {x : Nat} {k : Nat} (h : k < Y.length) : (P ++ Y.take k) ++ Y[k] :: ([] ++ x :: (Y.drop (k + 1) ++ S)) = P ++ ((Y.take (k + 1) ++ x :: Y.drop (k + 1)) ++ S) := by
  rw [take_snoc' h]
  simp only [List.append_assoc, List.cons_append, List.nil_append]
set_option maxRecDepth 20000 in
set_option maxHeartbeats 8000000 in
theorem symOne {E : Nat → List Value} {w0 : World} {blk N : Nat} (s : Srt E w0 blk N) {c : Nat → Int} {g : Nat} {cb : Array Value} (C : Cmp E c g cb w0 blk N) (cap : Nat) (P Y S : List Nat) (x : Nat) (a m b : Nat) (ha : P.length = a) (hm : a + 1 = m) (hb : m + Y.length = b) (hy : 0 < Y.length)
    (hY : Y.Pairwise (Tot c)) (hB : ∀ y ∈ Y, x < y) (hN : (P ++ (([x] ++ Y) ++ S)).length = N) (w : World) (h : Sl1 E w0 blk (P ++ (([x] ++ Y) ++ S)) w) :
    Calls Try.prog 118 #[.slice (some ⟨blk, 0, none⟩) N cap, .int .i64 a, .int .i64 m, .int .i64 b, .func (.func g) #[] cb] w fun e w' => e = .returned (.tuple #[]) ∧ ∃ Z : List Nat, Z.Perm ([x] ++ Y) ∧ Z.Pairwise (Tot c) ∧ Sl1 E w0 blk (P ++ (Z ++ S)) w' := by
  have hbig := s.small
  have hbn : b ≤ N := by simp at hN; omega
  obtain ⟨f, hf⟩ : ∃ f : Nat → Bool, f = fun h => decide (c (Y.getD (h - m) 0) < c x) := ⟨_, rfl⟩
  have Fin_ := Lib.hid (show ∀ i, Se f m b i i → (Y.take (i - m) ++ x :: Y.drop (i - m)).Pairwise (Tot c) from fun i si => by
    rw [← hb] at si
    refine put_in hY si (fun k hk hf1 => ?_) (fun k hk hf1 => ?_)
    · rw [hf] at hf1
      simp only [decide_eq_true_eq] at hf1
      rw [show m + k - m = k by omega, List.getD_eq_getElem?_getD, List.getElem?_eq_getElem hk] at hf1
      exact Tot.of_lt hf1
    · rw [hf] at hf1
      simp only [decide_eq_false_iff_not] at hf1
      rw [show m + k - m = k by omega, List.getD_eq_getElem?_getD, List.getElem?_eq_getElem hk] at hf1
      exact Tot.of_not (hB _ (List.getElem_mem hk)) hf1)
  have hl : (P ++ (([x] ++ Y) ++ S)).length = N := hN
  have F := Lib.hid (show ∀ h, f h = decide (c (Y.getD (h - m) 0) < c x) from fun h => by rw [hf])
  have Hw := Lib.hid h
  have Hs := Lib.hid s
  have HC := Lib.hid C
  have Ha := Lib.hid ha
  have Hb := Lib.hid hb
  have HN := Lib.hid hN
  have eg := C.enter
  have mixed : Try.prog.follows .mixedOrders = true := by kernel_rfl
  have z1 : (m : Int) - (a : Int) = 1 := by omega
  have hmb : m < b := by omega
  have ham : a < m := by omega
  have cellA := Lib.hid (show (P ++ (([x] ++ Y) ++ S)).toArray[a]! = x from arr_at' (S := Y ++ S) (by simp) ha)
  have cellY := Lib.hid (show ∀ h, m ≤ h → h < b → (P ++ (([x] ++ Y) ++ S)).toArray[h]! = Y.getD (h - m) 0 from fun h h1 h2 => by
    obtain ⟨k, rfl⟩ : ∃ k, h = m + k := ⟨h - m, by omega⟩
    rw [show m + k - m = k by omega, List.getD_eq_getElem?_getD, List.getElem?_eq_getElem (by omega)]
    refine arr_at' (P := P ++ ([x] ++ Y.take k)) (S := Y.drop (k + 1) ++ S) ?_ ?_
    · conv => lhs; rw [← List.take_append_drop k Y, List.drop_eq_getElem_cons (by omega : k < Y.length)]
      simp only [List.append_assoc, List.cons_append, Option.getD_some]
    · simp only [List.length_append, List.length_singleton, List.length_take]; omega)
  clear h s C ha hb hN hY hB hf hy
  obtain ⟨k6, hk6⟩ : ∃ k : Nat, k = 6 := ⟨_, rfl⟩
  obtain ⟨t, ht⟩ : ∃ t, t = 146 := ⟨_, rfl⟩
  have aE : ∀ w, (isAgg t).run Try.prog w = .ok true w := fun w => by rw [ht]; exact Try.isAgg146 w
  have zE : ∀ w, (Go.sizeOf t).run Try.prog w = .ok k6 w := fun w => by rw [ht, hk6]; exact Try.sizeOf146 w
  have E1 : ∀ x, Op.load 146 x = Op.load t x := fun x => by rw [ht]
  have E2 : ∀ x y, Op.store 146 x y = Op.store t x y := fun x y => by rw [ht]
  have HK6 := Lib.hid hk6
  clear hk6 ht
  go_enter Try.func118, Try.ntmps118
  simp only [E1, E2]
  clear E1 E2
  go_wp2_with fail
  go_loopw [10, 11, 12] (fun vi vj _ wr => ∃ i j : Nat, vi = .int .i64 i ∧ vj = .int .i64 j ∧ Se f m b i j ∧ Sl1 E w0 blk (P ++ (([x] ++ Y) ++ S)) wr) (fun vi vj _ _ => (intOf vj).toNat - (intOf vi).toNat)
  case atStart => exact ⟨m, b, rfl, rfl, Se.start f (by omega), Hw.out⟩
  case round =>
    obtain ⟨i, j, rfl, rfl, se, hw⟩ := hrel
    have Se_ := Lib.hid se
    have hi1 := se.l1
    have hi2 := se.mid
    have hi3 := se.l2
    clear se Hw
    by_cases hlt : i < j
    · have hltz : (i : Int) < (j : Int) := by omega
      have Hw := Lib.hid hw
      clear hw hm
      go_wp2_with fail
      obtain ⟨h, hh, hh2⟩ := half_is i j
      rw [hh]
      have hih : i ≤ h := by omega
      have hhj : h < j := by omega
      have hhN : h < N := by omega
      clear hh hh2
      have l1 : ∀ (n : Nat) (os : Array Obj), Sem.run Try.prog (loadCellsFrom ⟨blk, a * 6, none⟩ 0 k6 #[]) (grow (wr.drewN n) os) = .ok (E x).toArray (grow (wr.drewN n) os) := fun n os => by rw [HK6.out]; exact (Hw.out.grown n os).ld Hs.out hl (i := a) (by omega) cellA.out
      have l2 : ∀ (n : Nat) (os : Array Obj), Sem.run Try.prog (loadCellsFrom ⟨blk, h * 6, none⟩ 0 k6 #[]) (grow (wr.drewN n) os) = .ok (E (Y.getD (h - m) 0)).toArray (grow (wr.drewN n) os) := fun n os => by rw [HK6.out]; exact (Hw.out.grown n os).ld Hs.out hl (i := h) (by omega) (cellY.out h (by omega) (by omega))
      have hc := Hw.out.cmp HC.out hl (Y.getD (h - m) 0) x
      have hv := cmpV_neg c (Y.getD (h - m) 0) x
      rw [← F.out h] at hv
      have Up := Lib.hid (fun hf : f h = true => Se_.out.up hih hhj hf)
      have Dn := Lib.hid (fun hf : f h = false => Se_.out.down hih hhj hf)
      generalize Y.getD (h - m) 0 = y at *
      generalize cmpV c y x = r at *
      generalize f h = fh at *
      have hhz : (0 : Int) ≤ (h : Int) ∧ (h : Int) < (N : Int) := by omega
      have haz : (0 : Int) ≤ (a : Int) ∧ (a : Int) < (N : Int) := by omega
      clear cellY cellA Se_
      cases fh with
      | true =>
        go_quiet_grown (first | (go_at_fn g; refine Calls.grown_of (hc _ _)))
        have S2 := Lib.hid (Hw.out.grown nq osq)
        clear Hw l1 l2 hc
        generalize grow (wr.drewN nq) osq = w2 at S2 ⊢
        clear nq osq
        go_wp2_with fail
        go_roundw
        case rel => exact ⟨h + 1, j, by go_num, rfl, Up.out rfl, S2.out⟩
        case measure => simp [intOf]; omega
      | false =>
        go_quiet_grown (first | (go_at_fn g; refine Calls.grown_of (hc _ _)))
        have S2 := Lib.hid (Hw.out.grown nq osq)
        clear Hw l1 l2 hc
        generalize grow (wr.drewN nq) osq = w2 at S2 ⊢
        clear nq osq
        go_wp2_with fail
        go_roundw
        case rel => exact ⟨i, h, rfl, rfl, Dn.out rfl, S2.out⟩
        case measure => simp [intOf]; omega
    · have hltz : ¬ (i : Int) < (j : Int) := by omega
      obtain rfl : i = j := by omega
      have Z := Lib.hid (Fin_.out i Se_.out)
      have Hw := Lib.hid hw
      have hi4 : i - m ≤ Y.length := by have := Hb.out; omega
      clear hw F Fin_ cellA cellY hi2
      obtain ⟨i1, hi1'⟩ : ∃ i1 : Nat, i1 + 1 = i := ⟨i - 1, by omega⟩
      have zi : (i : Int) - 1 = (i1 : Int) := by omega
      have hma : m = a + 1 := hm.symm
      clear hm z1
      go_wp2_with fail
      go_loopw [13] (fun vk wr => ∃ k p : Nat, k ≤ i - m ∧ p = a + k ∧ vk = .int .i64 (p : Int) ∧ Sl1 E w0 blk (P ++ ((Y.take k ++ x :: Y.drop k) ++ S)) wr) (fun vk _ => i - (intOf vk).toNat)
      case atStart => exact ⟨0, a, by omega, rfl, rfl, by simpa using Hw.out⟩
      case round =>
        obtain ⟨k, p, hk, hp, rfl, hw⟩ := hrel
        by_cases hgo : k < i - m
        · have hltz : (p : Int) < (i1 : Int) := by omega
          obtain ⟨q, hq⟩ : ∃ q, q = p + 1 := ⟨_, rfl⟩
          have zq : (p : Int) + 1 = (q : Int) := by omega
          have hkY : k < Y.length := by omega
          have now := way_now P S (x := x) hkY
          have nxt := way_next P S (x := x) hkY
          have hl2 : (P ++ ((Y.take k ++ x :: Y.drop k) ++ S)).length = N := by have := HN.out; simp at *; omega
          have hlA : (P ++ Y.take k).length = p := by rw [List.length_append, List.length_take]; have := Ha.out; omega
          generalize Y[k] = y at *
          have hpN : p < N := by omega
          have hqN : q < N := by omega
          have ap : (P ++ ((Y.take k ++ x :: Y.drop k) ++ S)).toArray[p]! = x := arr_at' now hlA
          have aq : (P ++ ((Y.take k ++ x :: Y.drop k) ++ S)).toArray[q]! = y := by
            rw [now]
            exact arr_at' (P := (P ++ Y.take k) ++ [x]) (S := Y.drop (k + 1) ++ S) (by simp) (by rw [List.length_append, hlA, hq]; rfl)
          have sw := swp_is (i := p) (j := q) now hlA (by simp; omega)
          rw [nxt] at sw
          have S3 := Lib.hid (hw.swapped Hs.out hl2 hpN hqN sw ap aq)
          have lp : Sem.run Try.prog (loadCellsFrom ⟨blk, p * 6, none⟩ 0 k6 #[]) wr.drew = .ok (E x).toArray wr.drew := by rw [HK6.out]; exact hw.drew.ld Hs.out hl2 hpN ap
          have lq : Sem.run Try.prog (loadCellsFrom ⟨blk, q * 6, none⟩ 0 k6 #[]) wr.drew = .ok (E y).toArray wr.drew := by rw [HK6.out]; exact hw.drew.ld Hs.out hl2 hqN aq
          obtain ⟨s1, s2⟩ := hw.st Hs.out hl2 hpN hqN x y
          have hu6 : (E x).length = k6 := (Hs.out.len x).trans HK6.out.symm
          have hv6 : (E y).length = k6 := (Hs.out.len y).trans HK6.out.symm
          obtain ⟨cu, hcu⟩ : ∃ c, c = E x := ⟨_, rfl⟩
          obtain ⟨cv, hcv⟩ : ∃ c, c = E y := ⟨_, rfl⟩
          rw [← hcu] at lp s2 hu6 S3
          rw [← hcv] at lq s1 hv6 S3
          rw [← hcv] at s2
          clear hcu hcv
          have hpz : (0 : Int) ≤ (p : Int) ∧ (p : Int) < (N : Int) := by omega
          have hqz : (0 : Int) ≤ (q : Int) ∧ (q : Int) < (N : Int) := by omega
          have wp : IntKind.i64.wrap (p : Int) = (p : Int) := by rw [IntKind.wrap_i64]; omega
          have wq : IntKind.i64.wrap (q : Int) = (q : Int) := by rw [IntKind.wrap_i64]; omega
          have Hq := Lib.hid hq
          have Hp := Lib.hid hp
          have Hma := Lib.hid hma
          have Hk := Lib.hid hk
          have Hgo := Lib.hid hgo
          clear now nxt hl2 hlA ap aq sw hw hq hp hma hk hgo hkY hi4
          go_wp2_with fail
          go_big_region_o
          all_goals (go_wp2_with fail)
          go_roundw
          case rel => exact ⟨k + 1, q, by have := Hgo.out; omega, by have := Hq.out; have := Hp.out; omega, by go_num, S3.out⟩
          case measure => have := Hq.out; have := Hp.out; have := Hgo.out; have := Hma.out; simp [intOf]; omega
        · have hltz : ¬ (p : Int) < (i1 : Int) := by omega
          obtain rfl : k = i - m := by omega
          have Hw2 := Lib.hid hw
          clear hw
          go_wp2_with fail
          refine bodyPost_ret (results_none rfl _ _ _) rfl ?_
          refine ⟨rfl, _, ?_, Z.out, Hw2.out⟩
          have hp : (Y.take (i - m) ++ x :: Y.drop (i - m)).Perm (x :: (Y.take (i - m) ++ Y.drop (i - m))) := List.perm_middle
          rw [List.take_append_drop] at hp
          exact hp
end Go.Proofs.Ytlcchefiicalpaa.Srt6
namespace Go.Proofs.Ytlcchefiicalpaa.Srt6
open Go.RowKit Go.Shelf Go.Lib Go.Sort
set_option maxRecDepth 20000 in
set_option maxHeartbeats 8000000 in
theorem symLast {E : Nat → List Value} {w0 : World} {blk N : Nat} (s : Srt E w0 blk N) {c : Nat → Int} {g : Nat} {cb : Array Value} (C : Cmp E c g cb w0 blk N) (cap : Nat) (P X S : List Nat) (y : Nat) (a m b : Nat) (ha : P.length = a) (hm : a + X.length = m) (hb : m + 1 = b) (hx : 2 ≤ X.length)
    (hX : X.Pairwise (Tot c)) (hB : ∀ x ∈ X, x < y) (hN : (P ++ ((X ++ [y]) ++ S)).length = N) (w : World) (h : Sl1 E w0 blk (P ++ ((X ++ [y]) ++ S)) w) :
    Calls Try.prog 118 #[.slice (some ⟨blk, 0, none⟩) N cap, .int .i64 a, .int .i64 m, .int .i64 b, .func (.func g) #[] cb] w fun e w' => e = .returned (.tuple #[]) ∧ ∃ Z : List Nat, Z.Perm (X ++ [y]) ∧ Z.Pairwise (Tot c) ∧ Sl1 E w0 blk (P ++ (Z ++ S)) w' := by
  have hbig := s.small
  have hbn : b ≤ N := by simp at hN; omega
  obtain ⟨f, hf⟩ : ∃ f : Nat → Bool, f = fun h => !decide (c y < c (X.getD (h - a) 0)) := ⟨_, rfl⟩
  have Fin_ := Lib.hid (show ∀ i, Se f a m i i → (X.take (i - a) ++ y :: X.drop (i - a)).Pairwise (Tot c) from fun i si => by
    rw [← hm] at si
    refine put_in hX si (fun k hk hf1 => ?_) (fun k hk hf1 => ?_)
    · rw [hf] at hf1
      simp only [Bool.not_eq_true', decide_eq_false_iff_not] at hf1
      rw [show a + k - a = k by omega, List.getD_eq_getElem?_getD, List.getElem?_eq_getElem hk] at hf1
      exact Tot.of_not (hB _ (List.getElem_mem hk)) hf1
    · rw [hf] at hf1
      simp only [Bool.not_eq_false', decide_eq_true_eq] at hf1
      rw [show a + k - a = k by omega, List.getD_eq_getElem?_getD, List.getElem?_eq_getElem hk] at hf1
      exact Tot.of_lt hf1)
  have hl : (P ++ ((X ++ [y]) ++ S)).length = N := hN
  have F := Lib.hid (show ∀ h, f h = !decide (c y < c (X.getD (h - a) 0)) from fun h => by rw [hf])
  have Hw := Lib.hid h
  have Hs := Lib.hid s
  have HC := Lib.hid C
  have Ha := Lib.hid ha
  have Hm := Lib.hid hm
  have HN := Lib.hid hN
  have eg := C.enter
  have mixed : Try.prog.follows .mixedOrders = true := by kernel_rfl
  obtain ⟨d, hd⟩ : ∃ d, d = X.length := ⟨_, rfl⟩
  have z1 : (m : Int) - (a : Int) = (d : Int) := by omega
  have z1b : ((d : Int) == 1) = false := by simp; omega
  have z2 : (b : Int) - (m : Int) = 1 := by omega
  have hmb : m < b := by omega
  have ham : a < m := by omega
  have cellM := Lib.hid (show (P ++ ((X ++ [y]) ++ S)).toArray[m]! = y from arr_at' (P := P ++ X) (S := S) (by simp) (by simp; omega))
  have cellX := Lib.hid (show ∀ h, a ≤ h → h < m → (P ++ ((X ++ [y]) ++ S)).toArray[h]! = X.getD (h - a) 0 from fun h h1 h2 => by
    obtain ⟨k, rfl⟩ : ∃ k, h = a + k := ⟨h - a, by omega⟩
    rw [show a + k - a = k by omega, List.getD_eq_getElem?_getD, List.getElem?_eq_getElem (by omega)]
    refine arr_at' (P := P ++ X.take k) (S := X.drop (k + 1) ++ ([y] ++ S)) ?_ ?_
    · conv => lhs; rw [← List.take_append_drop k X, List.drop_eq_getElem_cons (by omega : k < X.length)]
      simp only [List.append_assoc, List.cons_append, Option.getD_some]
    · simp only [List.length_append, List.length_take]; omega)
  clear h s C ha hb hN hX hB hf hx hd
  obtain ⟨k6, hk6⟩ : ∃ k : Nat, k = 6 := ⟨_, rfl⟩
  obtain ⟨t, ht⟩ : ∃ t, t = 146 := ⟨_, rfl⟩
  have aE : ∀ w, (isAgg t).run Try.prog w = .ok true w := fun w => by rw [ht]; exact Try.isAgg146 w
  have zE : ∀ w, (Go.sizeOf t).run Try.prog w = .ok k6 w := fun w => by rw [ht, hk6]; exact Try.sizeOf146 w
  have E1 : ∀ x, Op.load 146 x = Op.load t x := fun x => by rw [ht]
  have E2 : ∀ x y, Op.store 146 x y = Op.store t x y := fun x y => by rw [ht]
  have HK6 := Lib.hid hk6
  clear hk6 ht
  go_enter Try.func118, Try.ntmps118
  simp only [E1, E2]
  clear E1 E2
  go_wp2_with fail
  go_loopw [14, 15, 16] (fun vi vj _ wr => ∃ i j : Nat, vi = .int .i64 i ∧ vj = .int .i64 j ∧ Se f a m i j ∧ Sl1 E w0 blk (P ++ ((X ++ [y]) ++ S)) wr) (fun vi vj _ _ => (intOf vj).toNat - (intOf vi).toNat)
  case atStart => exact ⟨a, m, rfl, rfl, Se.start f (by omega), Hw.out⟩
  case round =>
    obtain ⟨i, j, rfl, rfl, se, hw⟩ := hrel
    have Se_ := Lib.hid se
    have hi1 := se.l1
    have hi2 := se.mid
    have hi3 := se.l2
    clear se Hw
    by_cases hlt : i < j
    · have hltz : (i : Int) < (j : Int) := by omega
      have Hw := Lib.hid hw
      clear hw hm
      go_wp2_with fail
      obtain ⟨h, hh, hh2⟩ := half_is i j
      rw [hh]
      have hih : i ≤ h := by omega
      have hhj : h < j := by omega
      have hhN : h < N := by omega
      clear hh hh2
      have l1 : ∀ (n : Nat) (os : Array Obj), Sem.run Try.prog (loadCellsFrom ⟨blk, m * 6, none⟩ 0 k6 #[]) (grow (wr.drewN n) os) = .ok (E y).toArray (grow (wr.drewN n) os) := fun n os => by rw [HK6.out]; exact (Hw.out.grown n os).ld Hs.out hl (i := m) (by omega) cellM.out
      have l2 : ∀ (n : Nat) (os : Array Obj), Sem.run Try.prog (loadCellsFrom ⟨blk, h * 6, none⟩ 0 k6 #[]) (grow (wr.drewN n) os) = .ok (E (X.getD (h - a) 0)).toArray (grow (wr.drewN n) os) := fun n os => by rw [HK6.out]; exact (Hw.out.grown n os).ld Hs.out hl (i := h) (by omega) (cellX.out h (by omega) (by omega))
      have hc := Hw.out.cmp HC.out hl y (X.getD (h - a) 0)
      have hv := cmpV_neg c y (X.getD (h - a) 0)
      have hf := F.out h
      rw [← hv] at hf
      have Up := Lib.hid (fun hf : f h = true => Se_.out.up hih hhj hf)
      have Dn := Lib.hid (fun hf : f h = false => Se_.out.down hih hhj hf)
      clear hv
      generalize X.getD (h - a) 0 = x at *
      generalize cmpV c y x = r at *
      obtain ⟨q, hq⟩ : ∃ q, q = decide (r < 0) := ⟨_, rfl⟩
      rw [← hq] at hf
      have hq' : decide (r < 0) = q := hq.symm
      clear hq
      have hhz : (0 : Int) ≤ (h : Int) ∧ (h : Int) < (N : Int) := by omega
      have hmz : (0 : Int) ≤ (m : Int) ∧ (m : Int) < (N : Int) := by omega
      clear cellX cellM Se_
      cases q with
      | false =>
        have Hf := Lib.hid hf
        clear hf
        go_quiet_grown (first | (go_at_fn g; refine Calls.grown_of (hc _ _)))
        have S2 := Lib.hid (Hw.out.grown nq osq)
        clear Hw l1 l2 hc
        generalize grow (wr.drewN nq) osq = w2 at S2 ⊢
        clear nq osq
        go_wp2_with fail
        go_roundw
        case rel => exact ⟨h + 1, j, by go_num, rfl, Up.out (by simpa using Hf.out), S2.out⟩
        case measure => simp [intOf]; omega
      | true =>
        have Hf := Lib.hid hf
        clear hf
        go_quiet_grown (first | (go_at_fn g; refine Calls.grown_of (hc _ _)))
        have S2 := Lib.hid (Hw.out.grown nq osq)
        clear Hw l1 l2 hc
        generalize grow (wr.drewN nq) osq = w2 at S2 ⊢
        clear nq osq
        go_wp2_with fail
        go_roundw
        case rel => exact ⟨i, h, rfl, rfl, Dn.out (by simpa using Hf.out), S2.out⟩
        case measure => simp [intOf]; omega
    · have hltz : ¬ (i : Int) < (j : Int) := by omega
      obtain rfl : i = j := by omega
      have Z := Lib.hid (Fin_.out i Se_.out)
      have Hw := Lib.hid hw
      clear hw F Fin_ cellM cellX hi2 hm z1 z2
      go_wp2_with fail
      go_loopw [17] (fun vk wr => ∃ q : Nat, i ≤ q ∧ q ≤ m ∧ vk = .int .i64 (q : Int) ∧ Sl1 E w0 blk (P ++ ((X.take (q - a) ++ y :: X.drop (q - a)) ++ S)) wr) (fun vk _ => (intOf vk).toNat - i)
      case atStart => exact ⟨m, by omega, by omega, rfl, by have := Hm.out; rw [List.take_of_length_le (by omega), List.drop_eq_nil_of_le (by omega)]; simpa using Hw.out⟩
      case round =>
        obtain ⟨q, hiq, hqm, rfl, hw⟩ := hrel
        by_cases hgo : i < q
        · have q1 : decide ((i : Int) < (q : Int)) = true := by rw [decide_eq_true_eq]; omega
          have hltz : (i : Int) < (q : Int) := by omega
          obtain ⟨k, hk⟩ : ∃ k, k = q - a - 1 := ⟨_, rfl⟩
          obtain ⟨p, hp⟩ : ∃ p, p = a + k := ⟨_, rfl⟩
          have hpq : q = p + 1 := by omega
          have hqa : q - a = k + 1 := by omega
          rw [hqa] at hw
          have zq : (q : Int) - 1 = (p : Int) := by omega
          have hkX : k < X.length := by have := Hm.out; omega
          have now := way_next P S (x := y) hkX
          have nxt := way_now P S (x := y) hkX
          have hl2 : (P ++ ((X.take (k + 1) ++ y :: X.drop (k + 1)) ++ S)).length = N := by have := HN.out; simp at *; omega
          have hlA : (P ++ X.take k).length = p := by rw [List.length_append, List.length_take]; have := Ha.out; omega
          generalize X[k] = x at *
          have hpN : p < N := by omega
          have hqN : q < N := by omega
          have ap : (P ++ ((X.take (k + 1) ++ y :: X.drop (k + 1)) ++ S)).toArray[p]! = x := arr_at' now.symm hlA
          have aq : (P ++ ((X.take (k + 1) ++ y :: X.drop (k + 1)) ++ S)).toArray[q]! = y := by
            rw [← now]
            exact arr_at' (P := (P ++ X.take k) ++ [x]) (S := X.drop (k + 1) ++ S) (by simp) (by rw [List.length_append, hlA, hpq]; rfl)
          have sw := swp_is' (i := p) (j := q) now.symm hlA (by simp; omega)
          rw [← nxt] at sw
          have S3 := Lib.hid (hw.swapped Hs.out hl2 hqN hpN sw aq ap)
          have lp : Sem.run Try.prog (loadCellsFrom ⟨blk, p * 6, none⟩ 0 k6 #[]) wr.drew = .ok (E x).toArray wr.drew := by rw [HK6.out]; exact hw.drew.ld Hs.out hl2 hpN ap
          have lq : Sem.run Try.prog (loadCellsFrom ⟨blk, q * 6, none⟩ 0 k6 #[]) wr.drew = .ok (E y).toArray wr.drew := by rw [HK6.out]; exact hw.drew.ld Hs.out hl2 hqN aq
          obtain ⟨s1, s2⟩ := hw.st Hs.out hl2 hqN hpN y x
          have hu6 : (E y).length = k6 := (Hs.out.len y).trans HK6.out.symm
          have hv6 : (E x).length = k6 := (Hs.out.len x).trans HK6.out.symm
          obtain ⟨cu, hcu⟩ : ∃ c, c = E y := ⟨_, rfl⟩
          obtain ⟨cv, hcv⟩ : ∃ c, c = E x := ⟨_, rfl⟩
          rw [← hcu] at lq s2 hu6 S3
          rw [← hcv] at lp s1 hv6 S3
          rw [← hcv] at s2
          clear hcu hcv
          have hpz : (0 : Int) ≤ (p : Int) ∧ (p : Int) < (N : Int) := by omega
          have hqz : (0 : Int) ≤ (q : Int) ∧ (q : Int) < (N : Int) := by omega
          have wp : IntKind.i64.wrap (p : Int) = (p : Int) := by rw [IntKind.wrap_i64]; omega
          have wq : IntKind.i64.wrap (q : Int) = (q : Int) := by rw [IntKind.wrap_i64]; omega
          have Hp := Lib.hid hp
          have Hpq := Lib.hid hpq
          have Hk := Lib.hid hk
          have Hqa := Lib.hid hqa
          clear now nxt hl2 hlA ap aq sw hw hp hpq hk hqa hkX
          go_wp2_with fail
          go_big_region_o
          all_goals (go_wp2_with fail)
          go_roundw
          case rel => exact ⟨p, by have := Hpq.out; omega, by have := Hpq.out; omega, by go_num, by rw [show p - a = k by have := Hp.out; omega]; exact S3.out⟩
          case measure => have := Hpq.out; simp [intOf]; omega
        · have q1 : decide ((i : Int) < (q : Int)) = false := by rw [decide_eq_false_iff_not]; omega
          have hltz : ¬ (i : Int) < (q : Int) := by omega
          obtain rfl : i = q := by omega
          have Hw2 := Lib.hid hw
          clear hw
          go_wp2_with fail
          refine bodyPost_ret (results_none rfl _ _ _) rfl ?_
          refine ⟨rfl, _, ?_, Z.out, Hw2.out⟩
          have hp : (X.take (i - a) ++ y :: X.drop (i - a)).Perm (y :: (X.take (i - a) ++ X.drop (i - a))) := List.perm_middle
          rw [List.take_append_drop] at hp
          exact hp.trans (List.perm_append_comm (l₁ := [y]) (l₂ := X))
end Go.Proofs.Ytlcchefiicalpaa.Srt6
namespace Go.Proofs.Ytlcchefiicalpaa.Srt6
open Go.RowKit Go.Shelf Go.Lib Go.Sort
theorem pw_at {c : Nat → Int} {l : List Nat} (h : l.Pairwise (Tot c)) {i j : Nat} (hi : i < l.length) (hj : j < l.length) (hij : i ≤ j) {z : Nat} (hz : Tot c l[j] z) : Tot c l[i] z := by
  rcases Nat.lt_or_ge i j with h1 | h1
  · exact (List.pairwise_iff_getElem.1 h i j hi hj h1).trans hz
  · obtain rfl : i = j := by omega
    exact hz
theorem pw_to {c : Nat → Int} {l : List Nat} (h : l.Pairwise (Tot c)) {i j : Nat} (hi : i < l.length) (hj : j < l.length) (hij : i ≤ j) {z : Nat} (hz : Tot c z l[i]) : Tot c z l[j] := by
  rcases Nat.lt_or_ge i j with h1 | h1
  · exact hz.trans (List.pairwise_iff_getElem.1 h i j hi hj h1)
  · obtain rfl : i = j := by omega
    exact hz
/-- Where the two rows are cut, what is before comes before what is behind. -/
theorem split_ok {c : Nat → Int} {X Y : List Nat} (hX : X.Pairwise (Tot c)) (hY : Y.Pairwise (Tot c)) (hB : ∀ x ∈ X, ∀ y ∈ Y, x < y) {a m b mid lo hi st en : Nat} (hm : a + X.length = m) (hb : m + Y.length = b)
    (hmid : mid = (a + b) / 2) (hlo : lo = if mid < m then mid + m - b else a) (hhi : hi = if mid < m then mid else m) (hen : en + st = mid + m) (se : Se (fun h => !decide (c (Y.getD (mid + m - 1 - h - m) 0) < c (X.getD (h - a) 0))) lo hi st st) :
    ∀ u ∈ X.take (st - a) ++ Y.take (en - m), ∀ v ∈ X.drop (st - a) ++ Y.drop (en - m), Tot c u v := by
  have h1 := se.l1
  have h2 := se.l2
  intro u hu v hv
  have hst : a ≤ st ∧ st ≤ m ∧ st ≤ mid ∧ m ≤ en ∧ en ≤ b := by split at hlo <;> split at hhi <;> omega
  rcases List.mem_append.1 hu with hu | hu <;> rcases List.mem_append.1 hv with hv | hv
  · obtain ⟨i, hi, rfl⟩ := List.mem_take_iff_getElem.1 hu
    obtain ⟨j, hj, rfl⟩ := List.mem_drop_iff_getElem.1 hv
    exact List.pairwise_iff_getElem.1 hX _ _ _ _ (by omega)
  · obtain ⟨i, hi', rfl⟩ := List.mem_take_iff_getElem.1 hu
    obtain ⟨j, hj, rfl⟩ := List.mem_drop_iff_getElem.1 hv
    have hy := se.yes.resolve_left (by split at hlo <;> omega)
    rw [show mid + m - 1 - (st - 1) - m = en - m by omega, show st - 1 - a = st - a - 1 by omega] at hy
    simp only [Bool.not_eq_true', decide_eq_false_iff_not, List.getD_eq_getElem?_getD] at hy
    rw [List.getElem?_eq_getElem (by omega), List.getElem?_eq_getElem (by omega)] at hy
    simp only [Option.getD_some] at hy
    have h0 := Tot.of_not (hB _ (List.getElem_mem (by omega)) _ (List.getElem_mem (by omega))) hy
    exact pw_at hX (by omega) (by omega) (by omega) (pw_to hY (by omega) (by omega) (by omega) h0)
  · obtain ⟨i, hi', rfl⟩ := List.mem_take_iff_getElem.1 hu
    obtain ⟨j, hj, rfl⟩ := List.mem_drop_iff_getElem.1 hv
    have hn := se.no.resolve_left (by split at hhi <;> omega)
    rw [show mid + m - 1 - st - m = en - m - 1 by omega] at hn
    simp only [Bool.not_eq_false', decide_eq_true_eq, List.getD_eq_getElem?_getD] at hn
    rw [List.getElem?_eq_getElem (by omega), List.getElem?_eq_getElem (by omega)] at hn
    simp only [Option.getD_some] at hn
    have h0 := Tot.of_lt hn
    exact pw_at hY (by omega) (by omega) (by omega) (pw_to hX (by omega) (by omega) (by omega) h0)
  · obtain ⟨i, hi, rfl⟩ := List.mem_take_iff_getElem.1 hu
    obtain ⟨j, hj, rfl⟩ := List.mem_drop_iff_getElem.1 hv
    exact List.pairwise_iff_getElem.1 hY _ _ _ _ (by omega)
/-- What the merge of two rows is held to, up to k elements. -/
def SymC (E : Nat → List Value) (c : Nat → Int) (g : Nat) (cb : Array Value) (w0 : World) (blk N cap k : Nat) : Prop :=
  ∀ (P X Y S : List Nat) (a m b : Nat), P.length = a → a + X.length = m → m + Y.length = b → 0 < X.length → 0 < Y.length → X.length + Y.length ≤ k → X.Pairwise (Tot c) → Y.Pairwise (Tot c) → (∀ x ∈ X, ∀ y ∈ Y, x < y) →
    (P ++ ((X ++ Y) ++ S)).length = N → ∀ w, Sl1 E w0 blk (P ++ ((X ++ Y) ++ S)) w →
    Calls Try.prog 118 #[.slice (some ⟨blk, 0, none⟩) N cap, .int .i64 a, .int .i64 m, .int .i64 b, .func (.func g) #[] cb] w fun e w' => e = .returned (.tuple #[]) ∧ ∃ Z : List Nat, Z.Perm (X ++ Y) ∧ Z.Pairwise (Tot c) ∧ Sl1 E w0 blk (P ++ (Z ++ S)) w'
set_option maxRecDepth 20000 in
set_option maxHeartbeats 8000000 in
theorem symTwo {E : Nat → List Value} {w0 : World} {blk N : Nat} (s : Srt E w0 blk N) {c : Nat → Int} {g : Nat} {cb : Array Value} (C : Cmp E c g cb w0 blk N) (cap : Nat) (k : Nat) (ih : SymC E c g cb w0 blk N cap k) (P X Y S : List Nat) (a m b : Nat) (ha : P.length = a) (hm : a + X.length = m) (hb : m + Y.length = b) (hx : 2 ≤ X.length) (hy : 2 ≤ Y.length) (hk : X.length + Y.length ≤ k + 1)
    (hX : X.Pairwise (Tot c)) (hY : Y.Pairwise (Tot c)) (hB : ∀ x ∈ X, ∀ y ∈ Y, x < y) (hN : (P ++ ((X ++ Y) ++ S)).length = N) (w : World) (h : Sl1 E w0 blk (P ++ ((X ++ Y) ++ S)) w) :
    Calls Try.prog 118 #[.slice (some ⟨blk, 0, none⟩) N cap, .int .i64 a, .int .i64 m, .int .i64 b, .func (.func g) #[] cb] w fun e w' => e = .returned (.tuple #[]) ∧ ∃ Z : List Nat, Z.Perm (X ++ Y) ∧ Z.Pairwise (Tot c) ∧ Sl1 E w0 blk (P ++ (Z ++ S)) w' := by
  have hbig := s.small
  have hbn : b ≤ N := by simp at hN; omega
  have Hs := Lib.hid s
  have HC := Lib.hid C
  have Ha := Lib.hid ha
  have Hm := Lib.hid hm
  have Hb := Lib.hid hb
  have HN := Lib.hid hN
  have Hk := Lib.hid hk
  have HX := Lib.hid hX
  have HY := Lib.hid hY
  have HB := Lib.hid hB
  have Ih := Lib.hid ih
  have Hw := Lib.hid h
  have eg := C.enter
  have mixed : Try.prog.follows .mixedOrders = true := by kernel_rfl
  obtain ⟨d1, hd1⟩ : ∃ d, d = X.length := ⟨_, rfl⟩
  obtain ⟨d2, hd2⟩ : ∃ d, d = Y.length := ⟨_, rfl⟩
  have z1 : (m : Int) - (a : Int) = (d1 : Int) := by omega
  have z1b : ((d1 : Int) == 1) = false := by simp; omega
  have z2 : (b : Int) - (m : Int) = (d2 : Int) := by omega
  have z2b : ((d2 : Int) == 1) = false := by simp; omega
  have Hab := Lib.hid (show a + 2 ≤ m ∧ m + 2 ≤ b from by omega)
  have cellX := Lib.hid (show ∀ h, a ≤ h → h < m → (P ++ ((X ++ Y) ++ S)).toArray[h]! = X.getD (h - a) 0 from fun h h1 h2 => by
    obtain ⟨k, rfl⟩ : ∃ k, h = a + k := ⟨h - a, by omega⟩
    rw [show a + k - a = k by omega, List.getD_eq_getElem?_getD, List.getElem?_eq_getElem (by omega)]
    refine arr_at' (P := P ++ X.take k) (S := X.drop (k + 1) ++ (Y ++ S)) ?_ ?_
    · conv => lhs; rw [← List.take_append_drop k X, List.drop_eq_getElem_cons (by omega : k < X.length)]
      simp only [List.append_assoc, List.cons_append, Option.getD_some]
    · simp only [List.length_append, List.length_take]; omega)
  have cellY := Lib.hid (show ∀ h, m ≤ h → h < b → (P ++ ((X ++ Y) ++ S)).toArray[h]! = Y.getD (h - m) 0 from fun h h1 h2 => by
    obtain ⟨k, rfl⟩ : ∃ k, h = m + k := ⟨h - m, by omega⟩
    rw [show m + k - m = k by omega, List.getD_eq_getElem?_getD, List.getElem?_eq_getElem (by omega)]
    refine arr_at' (P := P ++ (X ++ Y.take k)) (S := Y.drop (k + 1) ++ S) ?_ ?_
    · conv => lhs; rw [← List.take_append_drop k Y, List.drop_eq_getElem_cons (by omega : k < Y.length)]
      simp only [List.append_assoc, List.cons_append, Option.getD_some]
    · simp only [List.length_append, List.length_take]; omega)
  clear h s C ha hb hN hX hY hB hx hy hk ih hd1 hd2 hm
  obtain ⟨k6, hk6⟩ : ∃ k : Nat, k = 6 := ⟨_, rfl⟩
  obtain ⟨t, ht⟩ : ∃ t, t = 146 := ⟨_, rfl⟩
  have aE : ∀ w, (isAgg t).run Try.prog w = .ok true w := fun w => by rw [ht]; exact Try.isAgg146 w
  have zE : ∀ w, (Go.sizeOf t).run Try.prog w = .ok k6 w := fun w => by rw [ht, hk6]; exact Try.sizeOf146 w
  have E1 : ∀ x, Op.load 146 x = Op.load t x := fun x => by rw [ht]
  have E2 : ∀ x y, Op.store 146 x y = Op.store t x y := fun x y => by rw [ht]
  have HK6 := Lib.hid hk6
  clear hk6 ht
  go_enter Try.func118, Try.ntmps118
  simp only [E1, E2]
  clear E1 E2
  go_upto_region 25 with fail
  obtain ⟨mid, hmz, hmid⟩ := half_is a b
  rw [hmz]
  have Hmid := Lib.hid hmid
  have hmb : mid ≤ b := by have := Hab.out; omega
  clear hmz hmid
  obtain ⟨n, hn⟩ : ∃ n : Nat, n = mid + m := ⟨_, rfl⟩
  have zn : (mid : Int) + (m : Int) = (n : Int) := by omega
  have Hn := Lib.hid hn
  clear hn
  go_upto_if 140 with fail
  go_cut [20, 21] from 143 to 146 (fun s r wx => ∃ lo hi : Nat, s = .int .i64 lo ∧ r = .int .i64 hi ∧ lo = (if mid < m then mid + m - b else a) ∧ hi = (if mid < m then mid else m) ∧ wx = w)
  case first =>
    by_cases hgt : mid < m
    · have q1 : decide ((mid : Int) < (m : Int)) = true := by rw [decide_eq_true_eq]; omega
      obtain ⟨lo, hlo⟩ : ∃ lo : Nat, lo = mid + m - b := ⟨_, rfl⟩
      have zlo : (n : Int) - (b : Int) = (lo : Int) := by have := Hn.out; have := Hmid.out; have := Hab.out; omega
      have Hlo := Lib.hid hlo
      clear hlo
      go_wp2_with fail
      go_meet
      exact ⟨lo, mid, rfl, rfl, by rw [if_pos hgt]; exact Hlo.out, by rw [if_pos hgt], rfl⟩
    · have q1 : decide ((mid : Int) < (m : Int)) = false := by rw [decide_eq_false_iff_not]; omega
      go_wp2_with fail
      go_meet
      exact ⟨a, m, rfl, rfl, by rw [if_neg hgt], by rw [if_neg hgt], rfl⟩
  case rest =>
    obtain ⟨lo, hi, rfl, rfl, hlo, hhi, rfl⟩ := hcut
    have Hlo := Lib.hid hlo
    have Hhi := Lib.hid hhi
    have Hnum := Lib.hid (show lo ≤ hi ∧ a ≤ lo ∧ hi ≤ m ∧ hi ≤ mid ∧ (∀ h, lo ≤ h → h < hi → a ≤ h ∧ h < m ∧ m ≤ n - 1 - h ∧ n - 1 - h < b) ∧ (∀ h, lo ≤ h → h ≤ hi → m ≤ n - h ∧ n - h ≤ b) from by
      have := Hab.out; have := Hmid.out; have := Hn.out
      split at hlo <;> split at hhi <;> (refine ⟨by omega, by omega, by omega, by omega, fun h h1 h2 => by omega, fun h h1 h2 => by omega⟩))
    have hloh : lo ≤ hi := Hnum.out.1
    have hhim : hi ≤ m := Hnum.out.2.2.1
    obtain ⟨p, hp⟩ : ∃ p, p + 1 = n := ⟨n - 1, by have := Hn.out; have := Hab.out; omega⟩
    have zp : (n : Int) - 1 = (p : Int) := by omega
    have Hp := Lib.hid hp
    have hpB : p < 200000 := by have := Hn.out; have := Hab.out; omega
    clear hlo hhi hp
    go_wp2_with fail
    clear zp zn
    go_loopw [20, 21, 23] (fun vi vj _ wr => ∃ i j : Nat, vi = .int .i64 i ∧ vj = .int .i64 j ∧ Se (fun h => !decide (c (Y.getD (mid + m - 1 - h - m) 0) < c (X.getD (h - a) 0))) lo hi i j ∧ Sl1 E w0 blk (P ++ ((X ++ Y) ++ S)) wr) (fun vi vj _ _ => (intOf vj).toNat - (intOf vi).toNat)
    case atStart => exact ⟨lo, hi, rfl, rfl, Se.start _ hloh, Hw.out⟩
    case round =>
      obtain ⟨i, j, rfl, rfl, se, hw⟩ := hrel
      have Se_ := Lib.hid se
      have hi1 := se.l1
      have hi2 := se.mid
      have hi3 := se.l2
      clear se Hw
      by_cases hlt : i < j
      · have hltz : (i : Int) < (j : Int) := by omega
        have Hw := Lib.hid hw
        clear hw
        go_wp2_with fail
        obtain ⟨h, hh, hh2⟩ := half_is i j
        rw [hh]
        have hih : i ≤ h := by omega
        have hhj : h < j := by omega
        obtain ⟨n1, n2, n3, n4⟩ := Hnum.out.2.2.2.2.1 h (by omega) (by omega)
        clear hh hh2
        have hl := HN.out
        obtain ⟨q, hq⟩ : ∃ q, q = n - 1 - h := ⟨_, rfl⟩
        rw [← hq] at n3 n4
        have zq : (p : Int) - (h : Int) = (q : Int) := by have := Hp.out; omega
        have l1 : ∀ (n : Nat) (os : Array Obj), Sem.run Try.prog (loadCellsFrom ⟨blk, h * 6, none⟩ 0 k6 #[]) (grow (wr.drewN n) os) = .ok (E (X.getD (h - a) 0)).toArray (grow (wr.drewN n) os) := fun n os => by rw [HK6.out]; exact (Hw.out.grown n os).ld Hs.out hl (i := h) (by omega) (cellX.out h n1 n2)
        have l2 : ∀ (n : Nat) (os : Array Obj), Sem.run Try.prog (loadCellsFrom ⟨blk, q * 6, none⟩ 0 k6 #[]) (grow (wr.drewN n) os) = .ok (E (Y.getD (q - m) 0)).toArray (grow (wr.drewN n) os) := fun n os => by rw [HK6.out]; exact (Hw.out.grown n os).ld Hs.out hl (i := q) (by omega) (cellY.out q n3 n4)
        have hc := Hw.out.cmp HC.out hl (Y.getD (q - m) 0) (X.getD (h - a) 0)
        have hv := cmpV_neg c (Y.getD (q - m) 0) (X.getD (h - a) 0)
        have Up := Lib.hid (fun hf : decide (c (Y.getD (q - m) 0) < c (X.getD (h - a) 0)) = false => Se_.out.up hih hhj (show (!decide (c (Y.getD (mid + m - 1 - h - m) 0) < c (X.getD (h - a) 0))) = true by rw [show mid + m - 1 - h = q by rw [hq, Hn.out], hf]; rfl))
        have Dn := Lib.hid (fun hf : decide (c (Y.getD (q - m) 0) < c (X.getD (h - a) 0)) = true => Se_.out.down hih hhj (show (!decide (c (Y.getD (mid + m - 1 - h - m) 0) < c (X.getD (h - a) 0))) = false by rw [show mid + m - 1 - h = q by rw [hq, Hn.out], hf]; rfl))
        rw [← hv] at Up Dn
        clear hv
        generalize X.getD (h - a) 0 = x at *
        generalize Y.getD (q - m) 0 = y at *
        generalize cmpV c y x = r at *
        have hhz : (0 : Int) ≤ (h : Int) ∧ (h : Int) < (N : Int) := by omega
        have hqz : (0 : Int) ≤ (q : Int) ∧ (q : Int) < (N : Int) := by omega
        have wq : IntKind.i64.wrap (q : Int) = (q : Int) := by rw [IntKind.wrap_i64]; omega
        clear cellX cellY Se_ hq hl n1 n2 n3 n4 Hnum
        by_cases hf : r < 0
        · have hfd : decide (r < 0) = true := decide_eq_true hf
          clear hf
          go_quiet_grown (first | (go_at_fn g; refine Calls.grown_of (hc _ _)))
          have S2 := Lib.hid (Hw.out.grown nq osq)
          clear Hw l1 l2 hc
          generalize grow (wr.drewN nq) osq = w2 at S2 ⊢
          clear nq osq
          go_wp2_with fail
          go_roundw
          case rel => exact ⟨i, h, rfl, rfl, Dn.out hfd, S2.out⟩
          case measure => simp [intOf]; omega
        · have hfd : decide (r < 0) = false := decide_eq_false hf
          clear hf
          go_quiet_grown (first | (go_at_fn g; refine Calls.grown_of (hc _ _)))
          have S2 := Lib.hid (Hw.out.grown nq osq)
          clear Hw l1 l2 hc
          generalize grow (wr.drewN nq) osq = w2 at S2 ⊢
          clear nq osq
          go_wp2_with fail
          go_roundw
          case rel => exact ⟨h + 1, j, by go_num, rfl, Up.out hfd, S2.out⟩
          case measure => simp [intOf]; omega
      · have hltz : ¬ (i : Int) < (j : Int) := by omega
        obtain rfl : i = j := by omega
        obtain ⟨en, hen⟩ : ∃ en : Nat, en = n - i := ⟨_, rfl⟩
        have n1 := Hnum.out.2.2.2.2.2 i (by omega) (by omega)
        rw [← hen] at n1
        have zen : (n : Int) - (i : Int) = (en : Int) := by have := Hn.out; omega
        have hai : a ≤ i := by have := Hnum.out.2.1; omega
        have him : i ≤ m := by omega
        have himid : i ≤ mid := by have := Hnum.out.2.2.2.1; omega
        have Sp := Lib.hid (split_ok HX.out HY.out HB.out Hm.out Hb.out Hmid.out Hlo.out Hhi.out (st := i) (en := en) (by have := Hn.out; omega) Se_.out)
        have hsum : en + i = mid + m := by have := Hn.out; omega
        have Hw := Lib.hid hw
        obtain ⟨X1, hX1⟩ : ∃ l, l = X.take (i - a) := ⟨_, rfl⟩
        obtain ⟨X2, hX2⟩ : ∃ l, l = X.drop (i - a) := ⟨_, rfl⟩
        obtain ⟨Y1, hY1⟩ : ∃ l, l = Y.take (en - m) := ⟨_, rfl⟩
        obtain ⟨Y2, hY2⟩ : ∃ l, l = Y.drop (en - m) := ⟨_, rfl⟩
        have eX : X1 ++ X2 = X := by rw [hX1, hX2]; exact List.take_append_drop _ _
        have eY : Y1 ++ Y2 = Y := by rw [hY1, hY2]; exact List.take_append_drop _ _
        have x1 : X1.length = i - a := by rw [hX1, List.length_take]; have := Hm.out; omega
        have x2 : X2.length = m - i := by rw [hX2, List.length_drop]; have := Hm.out; omega
        have y1 : Y1.length = en - m := by rw [hY1, List.length_take]; have := Hb.out; omega
        have y2 : Y2.length = b - en := by rw [hY2, List.length_drop]; have := Hb.out; omega
        rw [← hX1, ← hX2, ← hY1, ← hY2] at Sp
        clear hX1 hX2 hY1 hY2 hw Hlo Hhi cellX cellY Hnum Se_
        have hN2 : (P ++ (X1 ++ (X2 ++ (Y1 ++ (Y2 ++ S))))).length = N := by have := HN.out; rw [← eX, ← eY] at this; simpa using this
        have Hw1 := Lib.hid (show Sl1 E w0 blk (P ++ (X1 ++ (X2 ++ (Y1 ++ (Y2 ++ S))))) wr by have := Hw.out; rw [← eX, ← eY] at this; simpa using this)
        have Kr := Lib.hid (fun (h1 : i < m) (h2 : m < en) => rotate_any Hs.out cap (.func (.func g) #[] cb) (P ++ X1) X2 Y1 (Y2 ++ S) i m en (by rw [List.length_append, Ha.out]; omega) (by omega) (by omega) (by omega) (by omega) (by simpa using hN2) wr (by simpa using Hw1.out))
        have pX1 : X1.Pairwise (Tot c) := by have := HX.out; rw [← eX] at this; exact (List.pairwise_append.1 this).1
        have pX2 : X2.Pairwise (Tot c) := by have := HX.out; rw [← eX] at this; exact (List.pairwise_append.1 this).2.1
        have pY1 : Y1.Pairwise (Tot c) := by have := HY.out; rw [← eY] at this; exact (List.pairwise_append.1 this).1
        have pY2 : Y2.Pairwise (Tot c) := by have := HY.out; rw [← eY] at this; exact (List.pairwise_append.1 this).2.1
        have bb : ∀ x ∈ X1 ++ X2, ∀ y ∈ Y1 ++ Y2, x < y := by rw [eX, eY]; exact HB.out
        have hPm : (P ++ X1 ++ Y1).length = mid := by rw [List.length_append, List.length_append, Ha.out]; omega
        have K1 := Lib.hid (fun (h1 : a < i) (h2 : i < mid) => Ih.out P X1 Y1 (X2 ++ (Y2 ++ S)) a i mid Ha.out (by omega) (by omega) (by omega) (by omega) (by have := Hk.out; have := Hb.out; have := Hm.out; have := Hab.out; have := Hmid.out; omega) pX1 pY1 (fun x hx y hy => bb x (List.mem_append_left _ hx) y (List.mem_append_left _ hy)) (by have := hN2; simp at *; omega))
        have K2 := Lib.hid (fun (h1 : mid < en) (h2 : en < b) (Z : List Nat) (hZ : Z.Perm (X1 ++ Y1)) => Ih.out (P ++ Z) X2 Y2 S mid en b (by rw [List.length_append, hZ.length_eq, ← hPm]; simp) (by omega) (by omega) (by omega) (by omega) (by have := Hk.out; have := Hb.out; have := Hm.out; have := Hab.out; have := Hmid.out; omega) pX2 pY2 (fun x hx y hy => bb x (List.mem_append_right _ hx) y (List.mem_append_right _ hy)) (by have := hN2; have := hZ.length_eq; simp at *; omega))
        have hd1' : mid < en ∨ X2 = [] := by
          rcases Nat.lt_or_ge mid en with h | h
          · exact .inl h
          · exact .inr (List.eq_nil_of_length_eq_zero (by omega))
        have Nil1 := Lib.hid (show ¬ (a < i ∧ i < mid) → X1 = [] ∨ Y1 = [] from fun h => by
          by_cases h1 : a < i
          · exact .inr (List.eq_nil_of_length_eq_zero (by omega))
          · exact .inl (List.eq_nil_of_length_eq_zero (by omega)))
        have Nil2 := Lib.hid (show ¬ (mid < en ∧ en < b) → X2 = [] ∨ Y2 = [] from fun h => by
          by_cases h1 : mid < en
          · exact .inr (List.eq_nil_of_length_eq_zero (by omega))
          · exact .inl (List.eq_nil_of_length_eq_zero (by omega)))
        have NilR := Lib.hid (show ¬ (i < m ∧ m < en) → X2 ++ Y1 = Y1 ++ X2 from fun h => by
          by_cases h1 : i < m
          · rw [List.eq_nil_of_length_eq_zero (show Y1.length = 0 by omega)]; simp
          · rw [List.eq_nil_of_length_eq_zero (show X2.length = 0 by omega)]; simp)
        have EP := Lib.hid (show (X1 ++ Y1 ++ (X2 ++ Y2)).Perm (X ++ Y) from by
          rw [← eX, ← eY]
          have : (Y1 ++ X2).Perm (X2 ++ Y1) := List.perm_append_comm
          simpa using (this.append_right Y2).append_left X1)
        have hb512 : en ≤ 200000 := by omega
        have hsX := Lib.hid (show (X1.Pairwise (Tot c) ∧ X2.Pairwise (Tot c)) ∧ Y1.Pairwise (Tot c) ∧ Y2.Pairwise (Tot c) from ⟨⟨pX1, pX2⟩, pY1, pY2⟩)
        clear eX eY x1 x2 y1 y2 hN2 Hw pX1 pX2 pY1 pY2 bb hPm hd1' hlt hi2 Hn hsum hen
        obtain ⟨B, hB'⟩ : ∃ B : Bool, B = decide (i < m ∧ m < en) := ⟨_, rfl⟩
        go_upto_region 39 with fail
        go_cut [185] from 178 to 185 (fun v wx => v = .bool B ∧ wx = wr)
        case first =>
          by_cases h1 : i < m
          · have q1 : decide (((i : Nat) : Int) < ((m : Nat) : Int)) = true := by rw [decide_eq_true_eq]; omega
            by_cases h2 : m < en
            · have q2 : decide (((m : Nat) : Int) < ((en : Nat) : Int)) = true := by rw [decide_eq_true_eq]; omega
              have hd : B = true := by rw [hB', decide_eq_true_eq]; exact ⟨h1, h2⟩
              have Hd := Lib.hid hd
              clear hd hB'
              go_wp2_with fail
              go_meet
              exact ⟨by rw [Hd.out], rfl⟩
            · have q2 : decide (((m : Nat) : Int) < ((en : Nat) : Int)) = false := by rw [decide_eq_false_iff_not]; omega
              have hd : B = false := by rw [hB', decide_eq_false_iff_not]; exact fun h => h2 h.2
              have Hd := Lib.hid hd
              clear hd hB'
              go_wp2_with fail
              go_meet
              exact ⟨by rw [Hd.out], rfl⟩
          · have q1 : decide (((i : Nat) : Int) < ((m : Nat) : Int)) = false := by rw [decide_eq_false_iff_not]; omega
            have hd : B = false := by rw [hB', decide_eq_false_iff_not]; exact fun h => h1 h.1
            have Hd := Lib.hid hd
            clear hd hB'
            go_wp2_with fail
            go_meet
            exact ⟨by rw [Hd.out], rfl⟩
        case rest =>
        obtain ⟨rfl, rfl⟩ := hcut
        have HBd := Lib.hid hB'
        clear hB'
        go_upto_if 185 with fail
        go_cut [] from 186 to 191 (fun wx => Sl1 E w0 blk (P ++ (X1 ++ (Y1 ++ (X2 ++ (Y2 ++ S))))) wx)
        case first =>
          cases B with
          | true =>
            have hc := of_decide_eq_true HBd.out.symm
            go_wp2_with (first
              | (go_at_call 120; refine (Kr.out hc.1 hc.2).mono ?_; rintro e w' ⟨rfl, hw'⟩))
            go_meet
            simpa using hw'
          | false =>
            have hc := of_decide_eq_false HBd.out.symm
            have hq := Hw1.out
            rw [← List.append_assoc X2, NilR.out hc, List.append_assoc Y1] at hq
            have Hq := Lib.hid hq
            clear hq
            go_wp2_with fail
            go_meet
            exact Hq.out
        case rest =>
        have Hw2 := Lib.hid hcut
        clear HBd hcut Kr Hw1 NilR
        obtain ⟨B, hB'⟩ : ∃ B : Bool, B = decide (a < i ∧ i < mid) := ⟨_, rfl⟩
        go_upto_region 41 with fail
        go_cut [199] from 192 to 199 (fun v wx => v = .bool B ∧ wx = wc)
        case first =>
          by_cases h1 : a < i
          · have q1 : decide (((a : Nat) : Int) < ((i : Nat) : Int)) = true := by rw [decide_eq_true_eq]; omega
            by_cases h2 : i < mid
            · have q2 : decide (((i : Nat) : Int) < ((mid : Nat) : Int)) = true := by rw [decide_eq_true_eq]; omega
              have hd : B = true := by rw [hB', decide_eq_true_eq]; exact ⟨h1, h2⟩
              have Hd := Lib.hid hd
              clear hd hB'
              go_wp2_with fail
              go_meet
              exact ⟨by rw [Hd.out], rfl⟩
            · have q2 : decide (((i : Nat) : Int) < ((mid : Nat) : Int)) = false := by rw [decide_eq_false_iff_not]; omega
              have hd : B = false := by rw [hB', decide_eq_false_iff_not]; exact fun h => h2 h.2
              have Hd := Lib.hid hd
              clear hd hB'
              go_wp2_with fail
              go_meet
              exact ⟨by rw [Hd.out], rfl⟩
          · have q1 : decide (((a : Nat) : Int) < ((i : Nat) : Int)) = false := by rw [decide_eq_false_iff_not]; omega
            have hd : B = false := by rw [hB', decide_eq_false_iff_not]; exact fun h => h1 h.1
            have Hd := Lib.hid hd
            clear hd hB'
            go_wp2_with fail
            go_meet
            exact ⟨by rw [Hd.out], rfl⟩
        case rest =>
        obtain ⟨rfl, rfl⟩ := hcut
        have HBd := Lib.hid hB'
        clear hB'
        go_upto_if 199 with fail
        go_cut [] from 200 to 205 (fun wx => ∃ Z1 : List Nat, Z1.Perm (X1 ++ Y1) ∧ Z1.Pairwise (Tot c) ∧ Sl1 E w0 blk (P ++ (Z1 ++ (X2 ++ (Y2 ++ S)))) wx)
        case first =>
          cases B with
          | true =>
            have hc := of_decide_eq_true HBd.out.symm
            go_wp2_with (first
              | (go_at_call 118; refine (K1.out hc.1 hc.2 _ (by simpa using Hw2.out)).mono ?_; rintro e w' ⟨rfl, hw'⟩))
            go_meet
            exact hw'
          | false =>
            have hc := of_decide_eq_false HBd.out.symm
            have hq := Hw2.out
            have Hq := Lib.hid (show ∃ Z1 : List Nat, Z1.Perm (X1 ++ Y1) ∧ Z1.Pairwise (Tot c) ∧ Sl1 E w0 blk (P ++ (Z1 ++ (X2 ++ (Y2 ++ S)))) _ from ⟨X1 ++ Y1, List.Perm.refl _, by
              rcases Nil1.out hc with h | h
              · rw [h]; exact hsX.out.2.1
              · rw [h, List.append_nil]; exact hsX.out.1.1, by simpa using hq⟩)
            clear hq
            go_wp2_with fail
            go_meet
            exact Hq.out
        case rest =>
        obtain ⟨Z1, hz1, hz2, hz3⟩ := hcut
        have Hz := Lib.hid (⟨hz1, hz2⟩ : Z1.Perm (X1 ++ Y1) ∧ Z1.Pairwise (Tot c))
        have Hw3 := Lib.hid hz3
        clear HBd hz1 hz2 hz3 K1 Hw2 Nil1
        have End := Lib.hid (show ∀ (w' : World) (Z2 : List Nat), Z2.Perm (X2 ++ Y2) → Z2.Pairwise (Tot c) → Sl1 E w0 blk (P ++ (Z1 ++ (Z2 ++ S))) w' → Ending.returned (.tuple #[]) = Ending.returned (.tuple #[]) ∧ ∃ Z : List Nat, Z.Perm (X ++ Y) ∧ Z.Pairwise (Tot c) ∧ Sl1 E w0 blk (P ++ (Z ++ S)) w' from fun w' Z2 hz1 hz2 hz3 =>
          ⟨rfl, Z1 ++ Z2, (Hz.out.1.append hz1).trans EP.out, by
            rw [List.pairwise_append]
            exact ⟨Hz.out.2, hz2, fun u hu v hv => Sp.out u (Hz.out.1.mem_iff.1 hu) v (hz1.mem_iff.1 hv)⟩, by simpa using hz3⟩)
        obtain ⟨B, hB'⟩ : ∃ B : Bool, B = decide (mid < en ∧ en < b) := ⟨_, rfl⟩
        go_upto_region 43 with fail
        go_cut [213] from 206 to 213 (fun v wx => v = .bool B ∧ wx = wc)
        case first =>
          by_cases h1 : mid < en
          · have q1 : decide (((mid : Nat) : Int) < ((en : Nat) : Int)) = true := by rw [decide_eq_true_eq]; omega
            by_cases h2 : en < b
            · have q2 : decide (((en : Nat) : Int) < ((b : Nat) : Int)) = true := by rw [decide_eq_true_eq]; omega
              have hd : B = true := by rw [hB', decide_eq_true_eq]; exact ⟨h1, h2⟩
              have Hd := Lib.hid hd
              clear hd hB'
              go_wp2_with fail
              go_meet
              exact ⟨by rw [Hd.out], rfl⟩
            · have q2 : decide (((en : Nat) : Int) < ((b : Nat) : Int)) = false := by rw [decide_eq_false_iff_not]; omega
              have hd : B = false := by rw [hB', decide_eq_false_iff_not]; exact fun h => h2 h.2
              have Hd := Lib.hid hd
              clear hd hB'
              go_wp2_with fail
              go_meet
              exact ⟨by rw [Hd.out], rfl⟩
          · have q1 : decide (((mid : Nat) : Int) < ((en : Nat) : Int)) = false := by rw [decide_eq_false_iff_not]; omega
            have hd : B = false := by rw [hB', decide_eq_false_iff_not]; exact fun h => h1 h.1
            have Hd := Lib.hid hd
            clear hd hB'
            go_wp2_with fail
            go_meet
            exact ⟨by rw [Hd.out], rfl⟩
        case rest =>
        obtain ⟨rfl, rfl⟩ := hcut
        have HBd := Lib.hid hB'
        clear hB'
        cases B with
        | true =>
          have hc := of_decide_eq_true HBd.out.symm
          go_wp2_with (first
            | (go_at_call 118; refine (K2.out hc.1 hc.2 Z1 Hz.out.1 _ (by simpa using Hw3.out)).mono ?_; rintro e w' ⟨rfl, Z2, hz1, hz2, hz3⟩))
          go_end0
          exact ⟨rfl, (End.out _ Z2 hz1 hz2 (by simpa using hz3)).2⟩
        | false =>
          have hc := of_decide_eq_false HBd.out.symm
          have hq := Lib.hid (End.out _ (X2 ++ Y2) (List.Perm.refl _) (by
              rcases Nil2.out hc with h | h
              · rw [h]; exact hsX.out.2.2
              · rw [h, List.append_nil]; exact hsX.out.1.2) (by simpa using Hw3.out))
          go_wp2_with fail
          go_end0
          exact ⟨rfl, hq.out.2⟩
end Go.Proofs.Ytlcchefiicalpaa.Srt6
namespace Go.Proofs.Ytlcchefiicalpaa.Srt6
open Go.RowKit Go.Shelf Go.Lib Go.Sort
section
variable {α : Type}
/-- Block q of width m. -/
def seg (m q : Nat) (l : List α) : List α := (l.drop (q * m)).take m
theorem seg_two (m k : Nat) (l : List α) : seg (2 * m) k l = seg m (2 * k) l ++ seg m (2 * k + 1) l := by
  unfold seg
  rw [show 2 * m = m + m by omega, List.take_add, List.drop_drop, show k * (m + m) = 2 * k * m by rw [← Nat.two_mul, Nat.mul_comm 2 k, Nat.mul_assoc], show 2 * k * m + m = (2 * k + 1) * m by rw [Nat.add_mul, Nat.one_mul]]
theorem seg_before {m q : Nat} {P : List α} (R R' : List α) (h : (q + 1) * m ≤ P.length) : seg m q (P ++ R) = seg m q (P ++ R') := by
  rw [Nat.add_mul, Nat.one_mul] at h
  unfold seg
  rw [List.drop_append_of_le_length (by omega), List.drop_append_of_le_length (by omega), List.take_append_of_le_length (by rw [List.length_drop]; omega), List.take_append_of_le_length (by rw [List.length_drop]; omega)]
theorem seg_behind {m q : Nat} {P P' : List α} (S : List α) (h : P.length ≤ q * m) (hp : P.length = P'.length) : seg m q (P ++ S) = seg m q (P' ++ S) := by
  unfold seg
  rw [List.drop_append, List.drop_append, List.drop_eq_nil_of_le h, hp, show List.drop (q * m) P' = [] from List.drop_eq_nil_of_le (by omega)]
theorem seg_here {m q : Nat} {P Z : List α} (S : List α) (h : P.length = q * m) (hz : Z.length = m ∨ (Z.length ≤ m ∧ S = [])) : seg m q (P ++ (Z ++ S)) = Z := by
  unfold seg
  rw [← h, List.drop_left]
  rcases hz with hz | ⟨hz, rfl⟩
  · rw [← hz, List.take_left]
  · rw [List.append_nil, List.take_of_length_le hz]
theorem seg_none {m q : Nat} {l : List α} (h : l.length ≤ q * m) : seg m q l = [] := by
  unfold seg; rw [List.drop_eq_nil_of_le h, List.take_nil]
theorem seg_len (m q : Nat) (l : List α) : (seg m q l).length = min m (l.length - q * m) := by unfold seg; rw [List.length_take, List.length_drop]
end
/-- Block q is in order, of those that stood there. -/
def InOrder (c : Nat → Int) (X D : List Nat) (m q : Nat) : Prop := (seg m q D).Perm (seg m q X) ∧ (seg m q D).Pairwise (Tot c)
section
variable {c : Nat → Int} {X D : List Nat}
/-- What merging two blocks is told. -/
theorem two_blocks (hX : X.Pairwise (fun x y => x < y)) {m k : Nat} (h1 : InOrder c X D m (2 * k)) (h2 : InOrder c X D m (2 * k + 1)) : ∀ x ∈ seg m (2 * k) D, ∀ y ∈ seg m (2 * k + 1) D, x < y := by
  intro x hx y hy
  have hs : (seg m (2 * k) X ++ seg m (2 * k + 1) X).Pairwise (fun x y : Nat => x < y) := by
    rw [← seg_two]; exact hX.sublist ((List.take_sublist _ _).trans (List.drop_sublist _ _))
  exact (List.pairwise_append.1 hs).2.2 x (h1.1.mem_iff.1 hx) y (h2.1.mem_iff.1 hy)
/-- Blocks of twice the width up to k, of the width from 2 * k on. -/
structure Mix (c : Nat → Int) (X : List Nat) (m k : Nat) (D : List Nat) : Prop where
  len : D.length = X.length
  done : ∀ q, q < k → InOrder c X D (2 * m) q
  todo : ∀ q, 2 * k ≤ q → InOrder c X D m q
theorem Mix.parts {m k : Nat} (D : List Nat) (h : 2 * k * m ≤ D.length) : ∃ P S : List Nat, D = P ++ ((seg m (2 * k) D ++ seg m (2 * k + 1) D) ++ S) ∧ P.length = 2 * k * m ∧ S.length = D.length - 2 * k * m - 2 * m := by
  refine ⟨D.take (2 * k * m), D.drop (2 * k * m + 2 * m), ?_, by rw [List.length_take]; omega, by rw [List.length_drop]; omega⟩
  rw [← seg_two]
  have e : k * (2 * m) = 2 * k * m := by rw [Nat.mul_comm 2 k, Nat.mul_assoc]
  unfold seg
  rw [e, ← List.drop_drop, List.take_append_drop, List.take_append_drop]
theorem Mix.next {m k : Nat} (h : Mix c X m k D) {P Z S : List Nat} (hD : D = P ++ ((seg m (2 * k) D ++ seg m (2 * k + 1) D) ++ S)) (hP : P.length = 2 * k * m) (hZ : Z.Perm (seg m (2 * k) D ++ seg m (2 * k + 1) D)) (hp : Z.Pairwise (Tot c)) (hz : Z.length = 2 * m ∨ Z.length ≤ 2 * m ∧ S = []) : Mix c X m (k + 1) (P ++ (Z ++ S)) := by
  have e : k * (2 * m) = 2 * k * m := by rw [Nat.mul_comm 2 k, Nat.mul_assoc]
  have hlen : (P ++ (Z ++ S)).length = X.length := by
    rw [← h.len]; conv => rhs; rw [hD]
    simp only [List.length_append, hZ.length_eq]
  refine ⟨hlen, fun q hq => ?_, fun q hq => ?_⟩
  · rcases Nat.lt_or_ge q k with hk | hk
    · have e1 : seg (2 * m) q (P ++ (Z ++ S)) = seg (2 * m) q D := by
        conv => rhs; rw [hD]
        exact seg_before _ _ (by rw [hP, ← e]; exact Nat.mul_le_mul_right _ hk)
      unfold InOrder
      rw [e1]; exact h.done q hk
    · obtain rfl : q = k := by omega
      have e1 : seg (2 * m) q (P ++ (Z ++ S)) = Z := seg_here S (by rw [hP, e]) hz
      unfold InOrder
      rw [e1, seg_two]
      exact ⟨hZ.trans ((h.todo (2 * q) (Nat.le_refl _)).1.append (h.todo (2 * q + 1) (by omega)).1), hp⟩
  · rcases hz with hz | ⟨hz, rfl⟩
    · have e1 : seg m q (P ++ (Z ++ S)) = seg m q D := by
        conv => rhs; rw [hD]
        rw [← List.append_assoc, ← List.append_assoc]
        refine seg_behind S ?_ (by simp only [List.length_append, hZ.length_eq])
        rw [List.length_append, hP, hz, show 2 * k * m + 2 * m = 2 * (k + 1) * m by rw [Nat.mul_add, Nat.add_mul]]
        exact Nat.mul_le_mul_right _ hq
      unfold InOrder
      rw [e1]; exact h.todo q (by omega)
    · have h2 : (P ++ (Z ++ ([] : List Nat))).length ≤ q * m := by
        simp only [List.length_append, List.length_nil, hP]
        have : 2 * (k + 1) * m ≤ q * m := Nat.mul_le_mul_right _ hq
        rw [Nat.mul_add, Nat.add_mul] at this
        omega
      unfold InOrder
      rw [seg_none h2, seg_none (by rw [← hlen]; exact h2)]
      exact ⟨List.Perm.refl _, List.Pairwise.nil⟩
/-- All blocks merged. -/
theorem Mix.all {m k : Nat} (h : Mix c X m k D) (hk : X.length ≤ k * (2 * m)) : Mix c X (2 * m) 0 D :=
  ⟨h.len, fun q hq => absurd hq (Nat.not_lt_zero _), fun q _ => by
    rcases Nat.lt_or_ge q k with h1 | h1
    · exact h.done q h1
    · have h2 : X.length ≤ q * (2 * m) := Nat.le_trans hk (Nat.mul_le_mul_right _ h1)
      unfold InOrder
      rw [seg_none (by rw [h.len]; exact h2), seg_none h2]
      exact ⟨List.Perm.refl _, List.Pairwise.nil⟩⟩
theorem Mix.end_ {m : Nat} (h : Mix c X m 0 D) (hm : X.length ≤ m) : D.Perm X ∧ D.Pairwise (Tot c) := by
  have := h.todo 0 (Nat.le_refl _)
  unfold InOrder seg at this
  rw [Nat.zero_mul, List.drop_zero, List.drop_zero, List.take_of_length_le (by rw [h.len]; exact hm), List.take_of_length_le hm] at this
  exact this
/-- The first blocks: those up to k are in order, the others as they were. -/
structure Fst20 (c : Nat → Int) (X : List Nat) (k : Nat) (D : List Nat) : Prop where
  len : D.length = X.length
  done : ∀ q, q < k → InOrder c X D 20 q
  rest : D.drop (k * 20) = X.drop (k * 20)
theorem Fst20.parts {k : Nat} (h : Fst20 c X k D) : D = D.take (k * 20) ++ (seg 20 k X ++ D.drop (k * 20 + 20)) := by
  unfold seg
  rw [← h.rest, ← List.drop_drop, List.take_append_drop, List.take_append_drop]
theorem Fst20.next {k : Nat} (h : Fst20 c X k D) (hk : k * 20 ≤ D.length) {Z : List Nat} (hZ : Z.Perm (seg 20 k X)) (hp : Z.Pairwise (Tot c)) : Fst20 c X (k + 1) (D.take (k * 20) ++ (Z ++ D.drop (k * 20 + 20))) := by
  have hl : (D.take (k * 20)).length = k * 20 := by rw [List.length_take]; omega
  have hlen := h.len
  have hs := seg_len 20 k X
  have hzl := hZ.length_eq
  refine ⟨?_, fun q hq => ?_, ?_⟩
  · simp only [List.length_append, List.length_drop, hl]; omega
  · rcases Nat.lt_or_ge q k with h1 | h1
    · have e1 : seg 20 q (D.take (k * 20) ++ (Z ++ D.drop (k * 20 + 20))) = seg 20 q D := by
        conv => rhs; rw [h.parts]
        exact seg_before _ _ (by rw [hl]; exact Nat.mul_le_mul_right _ h1)
      unfold InOrder
      rw [e1]; exact h.done q h1
    · obtain rfl : q = k := by omega
      have e1 : seg 20 q (D.take (q * 20) ++ (Z ++ D.drop (q * 20 + 20))) = Z := seg_here _ hl (by
        rcases Nat.lt_or_ge (q * 20 + 20) X.length with h2 | h2
        · exact .inl (by omega)
        · exact .inr ⟨by omega, List.drop_eq_nil_of_le (by omega)⟩)
      unfold InOrder
      rw [e1]; exact ⟨hZ, hp⟩
  · rw [show (k + 1) * 20 = k * 20 + 20 by omega]
    have hr := h.rest
    rcases Nat.lt_or_ge (k * 20 + 20) X.length with h2 | h2
    · rw [← List.append_assoc, List.drop_left' (by rw [List.length_append, hl]; omega), ← List.drop_drop, hr, List.drop_drop]
    · rw [List.drop_eq_nil_of_le (by simp only [List.length_append, List.length_drop, hl]; omega), List.drop_eq_nil_of_le h2]
theorem Fst20.all {k : Nat} (h : Fst20 c X k D) (hk : X.length ≤ k * 20) : Mix c X 20 0 D :=
  ⟨h.len, fun q hq => absurd hq (Nat.not_lt_zero _), fun q _ => by
    rcases Nat.lt_or_ge q k with h1 | h1
    · exact h.done q h1
    · have h2 : X.length ≤ q * 20 := Nat.le_trans hk (Nat.mul_le_mul_right _ h1)
      unfold InOrder
      rw [seg_none (by rw [h.len]; exact h2), seg_none h2]
      exact ⟨List.Perm.refl _, List.Pairwise.nil⟩⟩
theorem first20 (c : Nat → Int) (X : List Nat) : Fst20 c X 0 X := ⟨rfl, fun _ hq => absurd hq (Nat.not_lt_zero _), rfl⟩
end
end Go.Proofs.Ytlcchefiicalpaa.Srt6
namespace Go.Proofs.Ytlcchefiicalpaa.Srt6
open Go.RowKit Go.Shelf Go.Lib Go.Sort
/-- The library's insertion sort, as this program has it. -/
def insLay_ren : Go.Shelf.Ren := ⟨fun | 20 => 117 | n => n, fun | 0 => 0 | 3 => 3 | 4 => 4 | 22 => 143 | 24 => 146 | 25 => 185 | n => n, fun | n => n⟩
theorem insLay : SlLaysF0.n20 Try.prog insLay_ren := {
  mixed := by kernel_rfl
  f20 := ⟨Try.f117.name, by decide, Try.func117.trans (congrArg some (by kernel_rfl))⟩
  t0 := Try.underlying0
  a0 := Try.isAgg0
  z0 := Try.sizeOf0
  v0 := Try.zeroValue0
  t3 := Try.underlying3
  a3 := Try.isAgg3
  z3 := Try.sizeOf3
  v3 := Try.zeroValue3
  t4 := Try.underlying4
  a4 := Try.isAgg4
  z4 := Try.sizeOf4
  v4 := Try.zeroValue4
  t22 := Try.underlying143
  a22 := Try.isAgg143
  z22 := Try.sizeOf143
  v22 := Try.zeroValue143
  t25 := Try.underlying185
  a25 := Try.isAgg185
  z25 := Try.sizeOf185
  v25 := Try.zeroValue185 }
instance (c : Nat → Int) (x y : Nat) : Decidable (Tot c x y) := by unfold Tot; exact inferInstance
/-- The order, as a test. -/
def totB (c : Nat → Int) (x y : Nat) : Bool := decide (Tot c x y)
theorem totB_iff {c : Nat → Int} {x y : Nat} : totB c x y = true ↔ Tot c x y := by unfold totB; exact decide_eq_true_iff
theorem totB_not {c : Nat → Int} {x y : Nat} : totB c x y = false ↔ ¬ Tot c x y := by unfold totB; exact decide_eq_false_iff_not
theorem totB_swo (c : Nat → Int) : SWO (totB c) where
  irrefl x := totB_not.2 (by unfold Tot; omega)
  trans x y z h1 h2 := totB_iff.2 ((totB_iff.1 h1).trans (totB_iff.1 h2))
  ntrans x y z h1 h2 := totB_not.2 (by have := totB_not.1 h1; have := totB_not.1 h2; unfold Tot at *; omega)
theorem tot_lt (c : Nat → Int) {x y : Nat} (h : y < x) : ltOf (cmpV c) x y = totB c x y := by
  unfold ltOf
  rw [cmpV_neg, Bool.eq_iff_iff, decide_eq_true_iff, totB_iff]
  unfold Tot; omega
theorem ins_same (c : Nat → Int) (a : Nat) : ∀ (j : Nat) (d : Array Nat), j < d.size → (∀ k, a ≤ k → k < j → (d[k]!) < (d[j]!)) → insInner (ltOf (cmpV c)) a j d = insInner (totB c) a j d
  | 0, _, _, _ => rfl
  | j + 1, d, hj, h => by
    unfold insInner
    by_cases ha : j + 1 > a
    · rw [tot_lt c (h j (by omega) (by omega))]
      split
      · refine ins_same c a j _ (by rw [size_swp]; omega) fun k hk hkj => ?_
        rw [swp_other _ _ _ _ (by omega) (by omega), swp_right _ _ _ (by omega)]
        exact h k hk (by omega)
      · rfl
    · rw [decide_eq_false ha]; rfl
theorem insInner_perm (lt : Nat → Nat → Bool) (a i : Nat) : ∀ (j : Nat) (d : Array Nat), j ≤ i → i < d.size → PermIn a (i + 1) d (insInner lt a j d)
  | 0, d, _, _ => permIn_refl d a (i + 1)
  | j + 1, d, hj, hi => by
    unfold insInner
    split
    · rename_i hc
      have ha : j + 1 > a := by simp at hc; omega
      exact permIn_trans _ _ _ a (i + 1) (swp_permIn d a (i + 1) (j + 1) j (by omega) (by omega) (by omega) (by omega) (by omega)) (insInner_perm lt a i j _ (by omega) (by rw [size_swp]; exact hi))
    · exact permIn_refl d a (i + 1)
theorem outer_same (c : Nat → Int) (a b : Nat) : ∀ (n i : Nat) (d : Array Nat), b - i = n → a < i → b ≤ d.size → (∀ p q, a ≤ p → p < q → i ≤ q → q < b → (d[p]!) < (d[q]!)) → insOuter (ltOf (cmpV c)) a b i d = insOuter (totB c) a b i d
  | 0, i, d, hn, _, _, _ => by
    conv => lhs; rw [insOuter, if_neg (by omega)]
    conv => rhs; rw [insOuter, if_neg (by omega)]
  | n + 1, i, d, hn, ha, hb, h => by
    have hlt : i < b := by omega
    conv => lhs; rw [insOuter, if_pos hlt]
    conv => rhs; rw [insOuter, if_pos hlt]
    rw [ins_same c a i d (by omega) (fun k hk hki => h k i hk hki (Nat.le_refl _) hlt)]
    have hp := insInner_perm (totB c) a i i d (Nat.le_refl _) (by omega)
    refine outer_same c a b n (i + 1) _ (by omega) (by omega) (by rw [hp.1]; exact hb) fun p q hap hpq hiq hqb => ?_
    rw [hp.2.1 q (.inr (by omega))]
    rcases Nat.lt_or_ge p (i + 1) with h1 | h1
    · exact permIn_all d _ a (i + 1) (fun x => x < (d[q]!)) (by omega) hp (fun k hk hki => h k q hk (by omega) (by omega) hqb) p hap h1
    · rw [hp.2.1 p (.inr h1)]; exact h p q hap hpq (by omega) hqb
theorem arr_of (L : List Nat) {i : Nat} (h : i < L.length) : L.toArray[i]! = L[i] := by simp [h]
theorem row_parts {P X S : List Nat} {d : Array Nat} (hp : PermIn P.length (P.length + X.length) (P ++ (X ++ S)).toArray d) : ∃ Z : List Nat, Z.Perm X ∧ d = (P ++ (Z ++ S)).toArray := by
  obtain ⟨h1, h2, h3⟩ := hp
  have hsz : d.size = P.length + X.length + S.length := by rw [h1]; simp; omega
  have hx : ((P ++ (X ++ S)).toArray.extract P.length (P.length + X.length)).toList = X := by simp
  rw [hx] at h3
  refine ⟨(d.extract P.length (P.length + X.length)).toList, h3, ?_⟩
  have hl' := h3.length_eq
  have hl : (d.extract P.length (P.length + X.length)).size = X.length := hl'
  apply Array.ext
  · simp only [List.size_toArray, List.length_append, hl']; omega
  · intro i hi hi'
    have e0 : d[i] = d[i]! := by rw [getElem!_pos d i hi]
    rw [e0, List.getElem_toArray]
    rcases Nat.lt_or_ge i P.length with h | h
    · rw [List.getElem_append_left h, h2 i (.inl h), arr_of _ (by simp; omega), List.getElem_append_left h]
    · rw [List.getElem_append_right h]
      rcases Nat.lt_or_ge (i - P.length) X.length with h4 | h4
      · rw [List.getElem_append_left (by rw [hl']; exact h4), Array.getElem_toList, Array.getElem_extract, ← e0]
        simp only [show P.length + (i - P.length) = i by omega]
      · rw [List.getElem_append_right (by rw [hl']; exact h4), h2 i (.inr (by omega)), arr_of _ (by simp; omega), List.getElem_append_right h, List.getElem_append_right h4]
        simp only [hl']
/-- The row as an array. -/
def Sl1' (E : Nat → List Value) (w0 : World) (blk : Nat) (d : Array Nat) (W : World) : Prop := SWK E 6 w0 blk 0 d W
theorem insertion_any {E : Nat → List Value} {w0 : World} {blk N : Nat} (s : Srt E w0 blk N) {c : Nat → Int} {g : Nat} {cb : Array Value} (C : Cmp E c g cb w0 blk N) (cap : Nat) (P X S : List Nat) (a b : Nat) (ha : P.length = a) (hb : a + X.length = b)
    (hX : X.Pairwise (fun x y => x < y)) (hN : (P ++ (X ++ S)).length = N) (w : World) (h : Sl1 E w0 blk (P ++ (X ++ S)) w) :
    Calls Try.prog 117 #[.slice (some ⟨blk, 0, none⟩) N cap, .int .i64 a, .int .i64 b, .func (.func g) #[] cb] w fun e w' => e = .returned (.tuple #[]) ∧ ∃ Z : List Nat, Z.Perm X ∧ Z.Pairwise (Tot c) ∧ Sl1 E w0 blk (P ++ (Z ++ S)) w' := by
  obtain ⟨d0, hd, R⟩ := s.row
  subst ha; subst hb
  have hsz : (P ++ (X ++ S)).toArray.size = N := by rw [List.size_toArray]; exact hN
  have hbN : P.length + X.length ≤ (P ++ (X ++ S)).toArray.size := by rw [hsz]; simp only [List.length_append] at hN; omega
  have hlay : CmpLays Try.prog g cb E 6 (cmpV c) blk 0 (P ++ (X ++ S)).toArray.size w := fun m os dk hdk x y => by
    obtain ⟨n', os', e'⟩ := SWK.on h R.hblk m dk os hdk
    rw [e']
    exact C.lays n' os' dk (by rw [hdk, hsz]) x y
  have hc := AnyQ.insertionSortCmpFunc insLay 6 (fun w => Try.isAgg146 w) (fun w => Try.sizeOf146 w) E R.hk R.h1 (cmpV c) g cb blk 0 cap P.length (P.length + X.length) (P ++ (X ++ S)).toArray w C.enter hlay (SWK.holds h R.hblk R.hH (by rw [hd, hsz])) (SWK.lt h R.hblk) (by omega) hbN (by rw [hsz]; have := s.small; omega)
  rw [hsz] at hc
  change Calls Try.prog 117 _ _ _ at hc
  refine hc.mono ?_
  rintro e w' ⟨rfl, n1, os1, hw1⟩
  have hin : ∀ p q, P.length ≤ p → p < q → q < P.length + X.length → ((P ++ (X ++ S)).toArray[p]!) < ((P ++ (X ++ S)).toArray[q]!) := by
    intro p q h1 h2 h3
    rw [arr_of _ (by simp; omega), arr_of _ (by simp; omega), List.getElem_append_right h1, List.getElem_append_left (by omega), List.getElem_append_right (by omega), List.getElem_append_left (by omega)]
    exact List.pairwise_iff_getElem.1 hX _ _ _ _ (by omega)
  have hse : insertionSort (ltOf (cmpV c)) (P ++ (X ++ S)).toArray P.length (P.length + X.length) = insertionSort (totB c) (P ++ (X ++ S)).toArray P.length (P.length + X.length) := by
    unfold insertionSort
    exact outer_same c _ _ _ _ _ rfl (by omega) hbN fun p q h1 h2 _ h4 => hin p q h1 h2 h4
  have hsz2 := (insertionSort_holds (lt := totB c) (totB_swo c) (P ++ (X ++ S)).toArray P.length (P.length + X.length) (by omega) hbN).1.1
  rw [hse] at hw1
  have hw : Sl1' E w0 blk (insertionSort (totB c) (P ++ (X ++ S)).toArray P.length (P.length + X.length)) w' := by
    rw [hw1]; exact SWK.on h R.hblk n1 _ os1 hsz2
  clear hw1 hsz2
  have hh := insertionSort_holds (lt := totB c) (totB_swo c) (P ++ (X ++ S)).toArray P.length (P.length + X.length) (by omega) hbN
  generalize insertionSort (totB c) (P ++ (X ++ S)).toArray P.length (P.length + X.length) = d at *
  obtain ⟨Z, hZ, rfl⟩ := row_parts hh.1
  refine ⟨rfl, Z, hZ, ?_, hw⟩
  have hnd : Z.Nodup := hZ.nodup_iff.2 (hX.imp (fun h e => by rw [e] at h; exact Nat.lt_irrefl _ h))
  rw [List.pairwise_iff_getElem]
  intro i j hi hj hij
  have h1 := hh.2 (P.length + i) (P.length + j) (by omega) (by omega) (by have := hZ.length_eq; omega)
  rw [arr_of _ (by simp; omega), arr_of _ (by simp; omega), List.getElem_append_right (by omega), List.getElem_append_left (by omega), List.getElem_append_right (by omega), List.getElem_append_left (by omega)] at h1
  simp only [Nat.add_sub_cancel_left] at h1
  rw [totB_not] at h1
  have h2 : Z[i] ≠ Z[j] := fun e => by
    have := List.pairwise_iff_getElem.1 hnd i j hi hj hij
    omega
  unfold Tot at *
  omega
end Go.Proofs.Ytlcchefiicalpaa.Srt6
namespace Go.Proofs.Ytlcchefiicalpaa.Srt6
open Go.RowKit Go.Shelf Go.Lib Go.Sort
theorem sym_all {E : Nat → List Value} {w0 : World} {blk N : Nat} (s : Srt E w0 blk N) {c : Nat → Int} {g : Nat} {cb : Array Value} (C : Cmp E c g cb w0 blk N) (cap : Nat) : ∀ k, SymC E c g cb w0 blk N cap k
  | 0 => fun _ X _ _ _ _ _ _ _ _ h1 _ h3 _ _ _ _ _ _ => by omega
  | k + 1 => fun P X Y S a m b ha hm hb h1 h2 h3 hX hY hB hN w hw => by
    by_cases hx : X.length = 1
    · obtain ⟨x, rfl⟩ := List.length_eq_one_iff.1 hx
      exact symOne s C cap P Y S x a m b ha hm hb h2 hY (fun y hy => hB x (List.mem_singleton.2 rfl) y hy) hN w hw
    · by_cases hy : Y.length = 1
      · obtain ⟨y, rfl⟩ := List.length_eq_one_iff.1 hy
        exact symLast s C cap P X S y a m b ha hm hb (by omega) hX (fun x hx => hB x hx y (List.mem_singleton.2 rfl)) hN w hw
      · exact symTwo s C cap k (sym_all s C cap k) P X Y S a m b ha hm hb (by omega) (by omega) h3 hX hY hB hN w hw
section
variable {E : Nat → List Value} {w0 : World} {blk N : Nat} {c : Nat → Int} {g : Nat} {cb : Array Value} {X D : List Nat}
/-- The k-th of the first blocks, sorted. -/
theorem ins_block (s : Srt E w0 blk N) (C : Cmp E c g cb w0 blk N) (cap : Nat) (hX : X.Pairwise (fun x y => x < y)) (hN : X.length = N) {k a b : Nat} (F : Fst20 c X k D) (ha : a = k * 20) (hb : b = min (a + 20) N) (haN : a ≤ N) (w : World) (h : Sl1 E w0 blk D w) :
    Calls Try.prog 117 #[.slice (some ⟨blk, 0, none⟩) N cap, .int .i64 a, .int .i64 b, .func (.func g) #[] cb] w fun e w' => e = .returned (.tuple #[]) ∧ ∃ D', Fst20 c X (k + 1) D' ∧ Sl1 E w0 blk D' w' := by
  have hlen := F.len
  have hs := seg_len 20 k X
  have hp := F.parts
  have hp2 : (D.take (k * 20)).length = a := by rw [List.length_take]; omega
  refine (insertion_any s C cap (D.take (k * 20)) (seg 20 k X) (D.drop (k * 20 + 20)) a b hp2 (by omega) (hX.sublist ((List.take_sublist _ _).trans (List.drop_sublist _ _))) (by rw [← hp, hlen, hN]) w (by rw [← hp]; exact h)).mono ?_
  rintro e w' ⟨rfl, Z, hZ, hZp, hw⟩
  exact ⟨rfl, _, F.next (by omega) hZ hZp, hw⟩
/-- Two blocks merged. -/
theorem sym_block (s : Srt E w0 blk N) (C : Cmp E c g cb w0 blk N) (cap : Nat) (hX : X.Pairwise (fun x y => x < y)) (hN : X.length = N) {m k a e b : Nat} (F : Mix c X m k D) (hm : 0 < m) (ha : a = 2 * k * m) (he : e = a + m) (hb : b = min (a + 2 * m) N) (heN : e < N) (w : World) (h : Sl1 E w0 blk D w) :
    Calls Try.prog 118 #[.slice (some ⟨blk, 0, none⟩) N cap, .int .i64 a, .int .i64 e, .int .i64 b, .func (.func g) #[] cb] w fun e w' => e = .returned (.tuple #[]) ∧ ∃ D', Mix c X m (k + 1) D' ∧ Sl1 E w0 blk D' w' := by
  have hlen := F.len
  obtain ⟨P, S, hD, hP, hS⟩ := Mix.parts (m := m) (k := k) D (by omega)
  have l1 := seg_len m (2 * k) D
  have l2 := seg_len m (2 * k + 1) D
  rw [Nat.add_mul, Nat.one_mul] at l2
  rw [← ha] at l1 l2 hP hS
  have hsum : (P ++ ((seg m (2 * k) D ++ seg m (2 * k + 1) D) ++ S)).length = N := by rw [← hD, hlen, hN]
  refine (sym_all s C cap _ P (seg m (2 * k) D) (seg m (2 * k + 1) D) S a e b hP (by omega) (by omega) (by omega) (by omega) (Nat.le_refl _) (F.todo _ (Nat.le_refl _)).2 (F.todo _ (by omega)).2 (two_blocks hX (F.todo _ (Nat.le_refl _)) (F.todo _ (by omega))) hsum w (by rw [← hD]; exact h)).mono ?_
  rintro e w' ⟨rfl, Z, hZ, hZp, hw⟩
  have hZl := hZ.length_eq
  rw [List.length_append] at hZl
  exact ⟨rfl, _, F.next hD (by rw [hP, ha]) hZ hZp (by
    rcases Nat.lt_or_ge N (a + 2 * m) with h1 | h1
    · exact .inr ⟨by omega, List.eq_nil_of_length_eq_zero (by omega)⟩
    · exact .inl (by omega)), hw⟩
/-- A last block that has no other beside it. -/
theorem Mix.last (hN : X.length = N) {m k a : Nat} (F : Mix c X m k D) (ha : a = 2 * k * m) (haN : a ≤ N) (h : N ≤ a + m) : Mix c X m (k + 1) D := by
  have hlen := F.len
  obtain ⟨P, S, hD, hP, hS⟩ := Mix.parts (m := m) (k := k) D (by omega)
  have l1 := seg_len m (2 * k) D
  have l2 := seg_len m (2 * k + 1) D
  rw [Nat.add_mul, Nat.one_mul] at l2
  rw [← ha] at l1 l2
  have hn : seg m (2 * k + 1) D = [] := List.eq_nil_of_length_eq_zero (by omega)
  have := F.next hD hP (List.Perm.refl _) (by rw [hn, List.append_nil]; exact (F.todo _ (Nat.le_refl _)).2) (.inr ⟨by rw [List.length_append]; omega, List.eq_nil_of_length_eq_zero (by omega)⟩)
  rw [← hD] at this
  exact this
end
set_option maxRecDepth 8000 in
set_option maxHeartbeats 8000000 in
theorem stable_any {E : Nat → List Value} {w0 : World} {blk N : Nat} (s : Srt E w0 blk N) {c : Nat → Int} {g : Nat} {cb : Array Value} (C : Cmp E c g cb w0 blk N) (cap : Nat) (X : List Nat) (hX : X.Pairwise (fun x y => x < y)) (hN : X.length = N) (w : World) (h : Sl1 E w0 blk X w) :
    Calls Try.prog 114 #[.slice (some ⟨blk, 0, none⟩) N cap, .int .i64 N, .func (.func g) #[] cb] w fun e w' => e = .returned (.tuple #[]) ∧ ∃ Z : List Nat, Z.Perm X ∧ Z.Pairwise (Tot c) ∧ Sl1 E w0 blk Z w' := by
  have hsm := s.small
  have I := Lib.hid (fun (D : List Nat) (k a b : Nat) (F : Fst20 c X k D) => ins_block (a := a) (b := b) s C cap hX hN F)
  have M := Lib.hid (fun (D : List Nat) (m k a e b : Nat) (F : Mix c X m k D) => sym_block (a := a) (e := e) (b := b) s C cap hX hN F)
  have ML := Lib.hid (fun (D : List Nat) (m k a : Nat) (F : Mix c X m k D) => Mix.last (N := N) (a := a) hN F)
  have Hw := Lib.hid h
  have HN := Lib.hid hN
  clear h s C hX hN
  go_enter Try.func114, Try.ntmps114
  go_wp2_with fail
  go_loopw [7, 8] (fun va vb wr => ∃ (k a : Nat) (D : List Nat), a = k * 20 ∧ va = .int .i64 a ∧ vb = .int .i64 ((a + 20 : Nat) : Int) ∧ a ≤ N ∧ Fst20 c X k D ∧ Sl1 E w0 blk D wr) (fun va _ _ => N + 1 - (intOf va).toNat)
  case atStart => exact ⟨0, 0, X, rfl, rfl, rfl, by omega, first20 c X, Hw.out⟩
  case round =>
    obtain ⟨k, a, D, ha, rfl, rfl, haN, hF, hw⟩ := hrel
    have Ha := Lib.hid ha
    have HF := Lib.hid hF
    have Hw2 := Lib.hid hw
    obtain ⟨b, hb⟩ : ∃ b, b = a + 20 := ⟨_, rfl⟩
    rw [← hb]
    have Hb := Lib.hid hb
    clear ha hF hw Hw
    by_cases hgo : b ≤ N
    · have q1 : decide ((b : Int) ≤ (N : Int)) = true := by rw [decide_eq_true_eq]; omega
      have q1' : decide (b ≤ N) = true := by rw [decide_eq_true_eq]; omega
      clear hb
      go_wp2_with (first | (go_at_call 117; refine (I.out D k a b HF.out Ha.out (by have := Hb.out; omega) haN _ Hw2.out).mono ?_; rintro e w' ⟨rfl, D', hF', hw'⟩))
      have HF' := Lib.hid hF'
      have Hw' := Lib.hid hw'
      clear hF' hw'
      go_wp2_with fail
      go_roundw
      case rel => exact ⟨k + 1, b, D', by have := Ha.out; have := Hb.out; omega, rfl, by go_num, hgo, HF'.out, Hw'.out⟩
      case measure => have := Hb.out; simp [intOf]; omega
    · have q1 : decide ((b : Int) ≤ (N : Int)) = false := by rw [decide_eq_false_iff_not]; omega
      have q1' : decide (b ≤ N) = false := by rw [decide_eq_false_iff_not]; omega
      clear hb
      go_wp2_with (first | (go_at_call 117; refine (I.out D k a N HF.out Ha.out (by have := Hb.out; omega) haN _ Hw2.out).mono ?_; rintro e w' ⟨rfl, D', hF', hw'⟩))
      have Mx := Lib.hid (hF'.all (by rw [HN.out]; have := Ha.out; have := Hb.out; omega))
      have Hw' := Lib.hid hw'
      clear hF' hw' q1 q1'
      go_wp2_with fail
      go_loopw [6, 7, 8, 9] (fun vm _ _ _ wr => ∃ (m : Nat) (D : List Nat), 20 ≤ m ∧ m ≤ 400000 ∧ vm = .int .i64 m ∧ Mix c X m 0 D ∧ Sl1 E w0 blk D wr) (fun vm _ _ _ _ => 400000 - (intOf vm).toNat)
      case atStart => exact ⟨20, D', by omega, by omega, rfl, Mx.out, Hw'.out⟩
      case round =>
        obtain ⟨m, D2, hm1, hm2, rfl, hM, hw⟩ := hrel
        have HM := Lib.hid hM
        have Hwm := Lib.hid hw
        clear hM hw Hw' Mx
        by_cases hlt : m < N
        · have hltz : (m : Int) < (N : Int) := by omega
          have p1 : decide ((m : Int) < (N : Int)) = true := by rw [decide_eq_true_eq]; omega
          obtain ⟨m2, hm22⟩ : ∃ m2, m2 = 2 * m := ⟨_, rfl⟩
          have z2 : (2 : Int) * (m : Int) = (m2 : Int) := by omega
          have z2' : (m : Int) * 2 = (m2 : Int) := by omega
          have Hm2 := Lib.hid hm22
          have hm2b : m2 ≤ 200000 := by omega
          have hm2c : 40 ≤ m2 := by omega
          clear hm22
          go_wp2_with fail
          go_loopw [7, 8] (fun va vb wr => ∃ (k a : Nat) (D : List Nat), a = 2 * k * m ∧ va = .int .i64 a ∧ vb = .int .i64 ((a + m2 : Nat) : Int) ∧ a ≤ N ∧ Mix c X m k D ∧ Sl1 E w0 blk D wr) (fun va _ _ => N + 1 - (intOf va).toNat)
          case atStart => exact ⟨0, 0, D2, by simp, rfl, by go_num, by omega, HM.out, Hwm.out⟩
          case round =>
            obtain ⟨k3, a3, D3, ha3, rfl, rfl, ha3N, hM3, hw3⟩ := hrel
            have Ha3 := Lib.hid ha3
            have HM3 := Lib.hid hM3
            have Hw3 := Lib.hid hw3
            obtain ⟨b3, hb3⟩ : ∃ b, b = a3 + m2 := ⟨_, rfl⟩
            rw [← hb3]
            have Hb3 := Lib.hid hb3
            obtain ⟨e3, he3⟩ : ∃ e, e = a3 + m := ⟨_, rfl⟩
            have ze : (a3 : Int) + (m : Int) = (e3 : Int) := by omega
            have He3 := Lib.hid he3
            have he3b : e3 ≤ 300000 := by omega
            have Nx := Lib.hid (show a3 + 2 * m = 2 * (k3 + 1) * m by rw [ha3, Nat.mul_add, Nat.add_mul])
            clear ha3 hM3 hw3 HM Hwm he3
            by_cases hgo3 : b3 ≤ N
            · have q1 : decide ((b3 : Int) ≤ (N : Int)) = true := by rw [decide_eq_true_eq]; omega
              have q1' : decide (b3 ≤ N) = true := by rw [decide_eq_true_eq]; omega
              clear hb3
              go_wp2_with (first | (go_at_call 118; refine (M.out D3 m k3 a3 e3 b3 HM3.out (by omega) Ha3.out He3.out (by have := Hb3.out; have := Hm2.out; omega) (by have := He3.out; have := Hb3.out; have := Hm2.out; omega) _ Hw3.out).mono ?_; rintro e w' ⟨rfl, D', hF', hw'⟩))
              have HF' := Lib.hid hF'
              have Hw' := Lib.hid hw'
              clear hF' hw'
              go_wp2_with fail
              go_roundw
              case rel => exact ⟨k3 + 1, b3, D', by rw [← Nx.out, Hb3.out, Hm2.out], rfl, by go_num, hgo3, HF'.out, Hw'.out⟩
              case measure => have := Hb3.out; simp [intOf]; omega
            · have q1 : decide ((b3 : Int) ≤ (N : Int)) = false := by rw [decide_eq_false_iff_not]; omega
              have q1' : decide (b3 ≤ N) = false := by rw [decide_eq_false_iff_not]; omega
              have hend : X.length ≤ (k3 + 1) * (2 * m) := by
                have h1 : 2 * (k3 + 1) * m = (k3 + 1) * (2 * m) := by rw [Nat.mul_comm 2 (k3 + 1), Nat.mul_assoc]
                rw [HN.out, ← h1, ← Nx.out, ← Hm2.out]; omega
              have Hend := Lib.hid hend
              clear hb3 hend
              by_cases hlast : e3 < N
              · have r1 : decide ((e3 : Int) < (N : Int)) = true := by rw [decide_eq_true_eq]; omega
                have r1z : (e3 : Int) < (N : Int) := by omega
                go_wp2_with (first | (go_at_call 118; refine (M.out D3 m k3 a3 e3 N HM3.out (by omega) Ha3.out He3.out (by have := Hb3.out; have := Hm2.out; omega) hlast _ Hw3.out).mono ?_; rintro e w' ⟨rfl, D', hF', hw'⟩))
                have HF' := Lib.hid (hF'.all Hend.out)
                have Hw' := Lib.hid hw'
                clear hF' hw'
                go_wp2_with fail
                go_roundw
                case rel => exact ⟨m2, D', by omega, by omega, by go_num, by rw [Hm2.out]; exact HF'.out, Hw'.out⟩
                case measure => have := Hm2.out; simp [intOf]; omega
              · have r1 : decide ((e3 : Int) < (N : Int)) = false := by rw [decide_eq_false_iff_not]; omega
                have r1z : ¬ (e3 : Int) < (N : Int) := by omega
                have HF' := Lib.hid ((ML.out D3 m k3 a3 HM3.out Ha3.out ha3N (by have := He3.out; omega)).all Hend.out)
                go_wp2_with fail
                go_roundw
                case rel => exact ⟨m2, D3, by omega, by omega, by go_num, by rw [Hm2.out]; exact HF'.out, Hw3.out⟩
                case measure => have := Hm2.out; simp [intOf]; omega
        · have hltz : ¬ (m : Int) < (N : Int) := by omega
          have EP := Lib.hid (HM.out.end_ (by rw [HN.out]; omega))
          go_wp2_with fail
          go_end0
          exact ⟨rfl, D2, EP.out.1, EP.out.2, Hwm.out⟩
set_option maxHeartbeats 1000000 in
theorem sort_any {E : Nat → List Value} {w0 : World} {blk N : Nat} (s : Srt E w0 blk N) {c : Nat → Int} {g : Nat} {cb : Array Value} (C : Cmp E c g cb w0 blk N) (cap : Nat) (X : List Nat) (hX : X.Pairwise (fun x y => x < y)) (hN : X.length = N) (w : World) (h : Sl1 E w0 blk X w) :
    Calls Try.prog 100 #[.slice (some ⟨blk, 0, none⟩) N cap, .func (.func g) #[] cb] w fun e w' => e = .returned (.tuple #[]) ∧ ∃ Z : List Nat, Z.Perm X ∧ Z.Pairwise (Tot c) ∧ Sl1 E w0 blk Z w' := by
  have K := Lib.hid (stable_any s C cap X hX hN w h)
  clear s C hX hN h
  go_enter Try.func100, Try.ntmps100
  go_wp2_with (first | (go_at_call 114; refine K.out.mono ?_; rintro e w' ⟨rfl, hw'⟩))
  go_end0
  exact ⟨rfl, hw'⟩
end Go.Proofs.Ytlcchefiicalpaa.Srt6
namespace Go.Proofs.Ytlcchefiicalpaa.Srt6
theorem tot_asym {c : Nat → Int} {x y : Nat} (h : Tot c x y) (h2 : Tot c y x) : False := by unfold Tot at *; omega
theorem sorted_eq {c : Nat → Int} : ∀ {X Y : List Nat}, X.Perm Y → X.Pairwise (Tot c) → Y.Pairwise (Tot c) → X = Y
  | [], Y, h, _, _ => (List.Perm.nil_eq h)
  | x :: X, [], h, _, _ => by have := h.length_eq; simp at this
  | x :: X, y :: Y, h, hx, hy => by
    have e : x = y := by
      rcases List.mem_cons.1 (h.mem_iff.1 (List.mem_cons_self ..)) with e | h1
      · exact e
      · rcases List.mem_cons.1 (h.mem_iff.2 (List.mem_cons_self ..)) with e | h2
        · exact e.symm
        · exact (tot_asym ((List.pairwise_cons.1 hx).1 _ h2) ((List.pairwise_cons.1 hy).1 _ h1)).elim
    subst e
    rw [sorted_eq (List.Perm.cons_inv h) (List.pairwise_cons.1 hx).2 (List.pairwise_cons.1 hy).2]
def insI (c : Nat → Int) (i : Nat) : List Nat → List Nat
  | [] => [i]
  | j :: L => if c i < c j then i :: j :: L else j :: insI c i L
theorem insI_perm (c : Nat → Int) (i : Nat) : ∀ L, (insI c i L).Perm (i :: L)
  | [] => List.Perm.refl _
  | j :: L => by
    unfold insI
    split
    · exact List.Perm.refl _
    · exact ((insI_perm c i L).cons j).trans (List.Perm.swap i j L)
theorem insI_up {c : Nat → Int} {i : Nat} : ∀ {L : List Nat}, L.Pairwise (Tot c) → (∀ j ∈ L, j < i) → (insI c i L).Pairwise (Tot c)
  | [], _, _ => List.pairwise_singleton _ _
  | j :: L, h, hj => by
    obtain ⟨h1, h2⟩ := List.pairwise_cons.1 h
    have hji := hj j (List.mem_cons_self ..)
    unfold insI
    split
    · rename_i hlt
      refine List.pairwise_cons.2 ⟨fun y hy => ?_, h⟩
      rcases List.mem_cons.1 hy with rfl | hy
      · exact .inl hlt
      · exact Tot.trans (.inl hlt) (h1 y hy)
    · rename_i hlt
      refine List.pairwise_cons.2 ⟨fun y hy => ?_, insI_up h2 fun k hk => hj k (List.mem_cons_of_mem _ hk)⟩
      rcases List.mem_cons.1 ((insI_perm c i L).mem_iff.1 hy) with rfl | hy
      · exact Tot.of_not hji hlt
      · exact h1 y hy
/-- An edit by its place, and its key. -/
def ex (l : List Tr.Ed) (i : Nat) : Tr.Ed := l.getD i Tr.edz
def kx (l : List Tr.Ed) (i : Nat) : Int := (ex l i).x.k
theorem insI_map (l : List Tr.Ed) (i : Nat) : ∀ L, (insI (kx l) i L).map (ex l) = Tr.insE (ex l i) (L.map (ex l))
  | [] => rfl
  | j :: L => by
    rw [insI, List.map_cons, Tr.insE]
    show (if kx l i < kx l j then _ else _ : List Nat).map _ = if kx l i < kx l j then _ else _
    split
    · rfl
    · rw [List.map_cons, insI_map l i L]
def srt (c : Nat → Int) (n : Nat) : List Nat := (List.range n).foldl (fun s i => insI c i s) []
theorem srt_succ (c : Nat → Int) (n : Nat) : srt c (n + 1) = insI c n (srt c n) := by
  unfold srt; rw [List.range_succ, List.foldl_append]; rfl
theorem srt_perm (c : Nat → Int) : ∀ n, (srt c n).Perm (List.range n)
  | 0 => List.Perm.refl _
  | n + 1 => by
    rw [srt_succ, List.range_succ]
    exact (insI_perm c n _).trans (((srt_perm c n).cons n).trans (List.perm_append_comm (l₁ := [n]) (l₂ := List.range n)))
theorem srt_up (c : Nat → Int) : ∀ n, (srt c n).Pairwise (Tot c)
  | 0 => List.Pairwise.nil
  | n + 1 => by
    rw [srt_succ]
    exact insI_up (srt_up c n) fun j hj => List.mem_range.1 ((srt_perm c n).mem_iff.1 hj)
theorem srt_map (l : List Tr.Ed) : ∀ n, n ≤ l.length → (srt (kx l) n).map (ex l) = Tr.sortE (l.take n)
  | 0, _ => by rw [List.take_zero]; rfl
  | n + 1, h => by
    have ih := srt_map l n (by omega)
    have e : ex l n = l[n] := by unfold ex; rw [List.getD_eq_getElem?_getD, List.getElem?_eq_getElem (by omega)]; rfl
    rw [srt_succ, insI_map, ih, List.take_add_one, List.getElem?_eq_getElem (by omega), e]
    unfold Tr.sortE
    rw [List.foldl_append]; rfl
/-- What a stable sort leaves. -/
theorem sorted_is {l : List Tr.Ed} {Z : List Nat} (h : Z.Perm (List.range l.length)) (hp : Z.Pairwise (Tot (kx l))) : Z.map (ex l) = Tr.sortE l := by
  rw [sorted_eq (h.trans (srt_perm (kx l) l.length).symm) hp (srt_up _ _), srt_map l _ (Nat.le_refl _), List.take_length]
/-- The last ones of each key, step by step. -/
theorem last_next {O S : List Tr.Ed} {i : Nat} {x y : Tr.Ed} (h : O ++ Tr.lastOnes (S.drop i) = Tr.lastOnes S) (hx : S[i]? = some x) (hy : S[i + 1]? = some y) :
    (if y.x.k = x.x.k then O else O ++ [x]) ++ Tr.lastOnes (S.drop (i + 1)) = Tr.lastOnes S := by
  obtain ⟨h1, h1'⟩ := List.getElem?_eq_some_iff.1 hx
  obtain ⟨h2, h2'⟩ := List.getElem?_eq_some_iff.1 hy
  rw [← h, List.drop_eq_getElem_cons h1, List.drop_eq_getElem_cons h2, h1', h2']
  conv => rhs; rw [Tr.lastOnes]
  split
  · rfl
  · rw [List.append_assoc]; rfl
theorem last_end {O S : List Tr.Ed} {i : Nat} {x : Tr.Ed} (h : O ++ Tr.lastOnes (S.drop i) = Tr.lastOnes S) (hx : S[i]? = some x) (hl : i + 1 = S.length) : (O ++ [x]) ++ Tr.lastOnes (S.drop (i + 1)) = Tr.lastOnes S := by
  obtain ⟨h1, h1'⟩ := List.getElem?_eq_some_iff.1 hx
  rw [← h, List.drop_eq_getElem_cons h1, h1', List.drop_eq_nil_of_le (show S.length ≤ i + 1 by omega)]
  simp [Tr.lastOnes]
end Go.Proofs.Ytlcchefiicalpaa.Srt6
