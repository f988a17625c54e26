/- slices.symMergeCmpFunc: two rows that are in order become one that is. Plain Lean: a row in blocks, each of them in order. slices.insertionSortCmpFunc: what is in the order of the byte values comes into the order of the counts. slices.stableCmpFunc, slices.SortStableFunc. -/
import Derived.Test.YtnkgcibdibgmjaaDsy
import Derived.Deep.DeepCutAuto
import Derived.Ground.SlsfProg
namespace Go.Proofs.Ytnkgcibdibgmjaa
open Go.RowKit Go.Shelf Go.Lib Go.Sort

theorem pw_at {c : Fin 256 → Int} {l : List (Fin 256)} (h : l.Pairwise (Tot c)) {i j : Nat} (hi : i < l.length) (hj : j < l.length) (hij : i ≤ j) {z : Fin 256} (hz : Tot c l[j] z) : Tot c l[i] z := by
  rcases Nat.lt_or_ge i j with h1 | h1
  · exact (List.pairwise_iff_getElem.1 h i j hi hj h1).trans hz
  · obtain rfl : i = j := by omega
    exact hz
theorem pw_to {c : Fin 256 → Int} {l : List (Fin 256)} (h : l.Pairwise (Tot c)) {i j : Nat} (hi : i < l.length) (hj : j < l.length) (hij : i ≤ j) {z : Fin 256} (hz : Tot c z l[i]) : Tot c z l[j] := by
  rcases Nat.lt_or_ge i j with h1 | h1
  · exact hz.trans (List.pairwise_iff_getElem.1 h i j hi hj h1)
  · obtain rfl : i = j := by omega
    exact hz

/-- Where the two rows are cut, what is before comes before what is behind. -/
theorem split_ok {c : Fin 256 → Int} {X Y : List (Fin 256)} (hX : X.Pairwise (Tot c)) (hY : Y.Pairwise (Tot c)) (hB : ∀ x ∈ X, ∀ y ∈ Y, x.val < y.val) {a m b mid lo hi st en : Nat} (hm : a + X.length = m) (hb : m + Y.length = b)
    (hmid : mid = (a + b) / 2) (hlo : lo = if mid < m then mid + m - b else a) (hhi : hi = if mid < m then mid else m) (hen : en + st = mid + m) (se : Se (fun h => !decide (c (Y.getD (mid + m - 1 - h - m) 0) < c (X.getD (h - a) 0))) lo hi st st) :
    ∀ u ∈ X.take (st - a) ++ Y.take (en - m), ∀ v ∈ X.drop (st - a) ++ Y.drop (en - m), Tot c u v := by
  have h1 := se.l1
  have h2 := se.l2
  intro u hu v hv
  have hst : a ≤ st ∧ st ≤ m ∧ st ≤ mid ∧ m ≤ en ∧ en ≤ b := by split at hlo <;> split at hhi <;> omega
  rcases List.mem_append.1 hu with hu | hu <;> rcases List.mem_append.1 hv with hv | hv
  · obtain ⟨i, hi, rfl⟩ := List.mem_take_iff_getElem.1 hu
    obtain ⟨j, hj, rfl⟩ := List.mem_drop_iff_getElem.1 hv
    exact List.pairwise_iff_getElem.1 hX _ _ _ _ (by omega)
  · obtain ⟨i, hi', rfl⟩ := List.mem_take_iff_getElem.1 hu
    obtain ⟨j, hj, rfl⟩ := List.mem_drop_iff_getElem.1 hv
    have hy := se.yes.resolve_left (by split at hlo <;> omega)
    rw [show mid + m - 1 - (st - 1) - m = en - m by omega, show st - 1 - a = st - a - 1 by omega] at hy
    simp only [Bool.not_eq_true', decide_eq_false_iff_not, List.getD_eq_getElem?_getD] at hy
    rw [List.getElem?_eq_getElem (by omega), List.getElem?_eq_getElem (by omega)] at hy
    simp only [Option.getD_some] at hy
    have h0 := Tot.of_not (hB _ (List.getElem_mem (by omega)) _ (List.getElem_mem (by omega))) hy
    exact pw_at hX (by omega) (by omega) (by omega) (pw_to hY (by omega) (by omega) (by omega) h0)
  · obtain ⟨i, hi', rfl⟩ := List.mem_take_iff_getElem.1 hu
    obtain ⟨j, hj, rfl⟩ := List.mem_drop_iff_getElem.1 hv
    have hn := se.no.resolve_left (by split at hhi <;> omega)
    rw [show mid + m - 1 - st - m = en - m - 1 by omega] at hn
    simp only [Bool.not_eq_false', decide_eq_true_eq, List.getD_eq_getElem?_getD] at hn
    rw [List.getElem?_eq_getElem (by omega), List.getElem?_eq_getElem (by omega)] at hn
    simp only [Option.getD_some] at hn
    have h0 := Tot.of_lt hn
    exact pw_at hY (by omega) (by omega) (by omega) (pw_to hX (by omega) (by omega) (by omega) h0)
  · obtain ⟨i, hi, rfl⟩ := List.mem_take_iff_getElem.1 hu
    obtain ⟨j, hj, rfl⟩ := List.mem_drop_iff_getElem.1 hv
    exact List.pairwise_iff_getElem.1 hY _ _ _ _ (by omega)

/-- What the merge of two rows is held to, up to k elements. -/
def SymC (c : Fin 256 → Int) (g : Nat) (cb : Array Value) (w0 : World) (blk N cap k : Nat) : Prop :=
  ∀ (P X Y S : List (Fin 256)) (a m b : Nat), P.length = a → a + X.length = m → m + Y.length = b → 0 < X.length → 0 < Y.length → X.length + Y.length ≤ k → X.Pairwise (Tot c) → Y.Pairwise (Tot c) → (∀ x ∈ X, ∀ y ∈ Y, x.val < y.val) →
    (P ++ ((X ++ Y) ++ S)).length = N → ∀ w, Sl1 w0 blk (P ++ ((X ++ Y) ++ S)) w →
    Calls Try.prog 73 #[.slice (some ⟨blk, 0, none⟩) N cap, .int .i64 a, .int .i64 m, .int .i64 b, .func (.func g) #[] cb] w fun e w' => e = .returned (.tuple #[]) ∧ ∃ Z : List (Fin 256), Z.Perm (X ++ Y) ∧ Z.Pairwise (Tot c) ∧ Sl1 w0 blk (P ++ (Z ++ S)) w'

set_option maxRecDepth 20000 in
set_option maxHeartbeats 8000000 in
theorem symTwo {w0 : World} {blk N : Nat} (s : Srt w0 blk N) {c : Fin 256 → Int} {g : Nat} {cb : Array Value} (C : Cmp c g cb w0 blk N) (cap : Nat) (k : Nat) (ih : SymC c g cb w0 blk N cap k) (P X Y S : List (Fin 256)) (a m b : Nat) (ha : P.length = a) (hm : a + X.length = m) (hb : m + Y.length = b) (hx : 2 ≤ X.length) (hy : 2 ≤ Y.length) (hk : X.length + Y.length ≤ k + 1)
    (hX : X.Pairwise (Tot c)) (hY : Y.Pairwise (Tot c)) (hB : ∀ x ∈ X, ∀ y ∈ Y, x.val < y.val) (hN : (P ++ ((X ++ Y) ++ S)).length = N) (w : World) (h : Sl1 w0 blk (P ++ ((X ++ Y) ++ S)) w) :
    Calls Try.prog 73 #[.slice (some ⟨blk, 0, none⟩) N cap, .int .i64 a, .int .i64 m, .int .i64 b, .func (.func g) #[] cb] w fun e w' => e = .returned (.tuple #[]) ∧ ∃ Z : List (Fin 256), Z.Perm (X ++ Y) ∧ Z.Pairwise (Tot c) ∧ Sl1 w0 blk (P ++ (Z ++ S)) w' := by
  have hbig := s.small
  have hbn : b ≤ N := by simp at hN; omega
  have Hs := Lib.hid s
  have HC := Lib.hid C
  have Ha := Lib.hid ha
  have Hm := Lib.hid hm
  have Hb := Lib.hid hb
  have HN := Lib.hid hN
  have Hk := Lib.hid hk
  have HX := Lib.hid hX
  have HY := Lib.hid hY
  have HB := Lib.hid hB
  have Ih := Lib.hid ih
  have Hw := Lib.hid h
  have eg := C.enter
  have mixed : Try.prog.follows .mixedOrders = true := by kernel_rfl
  obtain ⟨d1, hd1⟩ : ∃ d, d = X.length := ⟨_, rfl⟩
  obtain ⟨d2, hd2⟩ : ∃ d, d = Y.length := ⟨_, rfl⟩
  have z1 : (m : Int) - (a : Int) = (d1 : Int) := by omega
  have z1b : ((d1 : Int) == 1) = false := by simp; omega
  have z2 : (b : Int) - (m : Int) = (d2 : Int) := by omega
  have z2b : ((d2 : Int) == 1) = false := by simp; omega
  have Hab := Lib.hid (show a + 2 ≤ m ∧ m + 2 ≤ b from by omega)
  have cellX := Lib.hid (show ∀ h, a ≤ h → h < m → (P ++ ((X ++ Y) ++ S)).toArray[h]! = X.getD (h - a) 0 from fun h h1 h2 => by
    obtain ⟨k, rfl⟩ : ∃ k, h = a + k := ⟨h - a, by omega⟩
    rw [show a + k - a = k by omega, List.getD_eq_getElem?_getD, List.getElem?_eq_getElem (by omega)]
    refine arr_at' (P := P ++ X.take k) (S := X.drop (k + 1) ++ (Y ++ S)) ?_ ?_
    · conv => lhs; rw [← List.take_append_drop k X, List.drop_eq_getElem_cons (by omega : k < X.length)]
      simp only [List.append_assoc, List.cons_append, Option.getD_some]
    · simp only [List.length_append, List.length_take]; omega)
  have cellY := Lib.hid (show ∀ h, m ≤ h → h < b → (P ++ ((X ++ Y) ++ S)).toArray[h]! = Y.getD (h - m) 0 from fun h h1 h2 => by
    obtain ⟨k, rfl⟩ : ∃ k, h = m + k := ⟨h - m, by omega⟩
    rw [show m + k - m = k by omega, List.getD_eq_getElem?_getD, List.getElem?_eq_getElem (by omega)]
    refine arr_at' (P := P ++ (X ++ Y.take k)) (S := Y.drop (k + 1) ++ S) ?_ ?_
    · conv => lhs; rw [← List.take_append_drop k Y, List.drop_eq_getElem_cons (by omega : k < Y.length)]
      simp only [List.append_assoc, List.cons_append, Option.getD_some]
    · simp only [List.length_append, List.length_take]; omega)
  clear h s C ha hb hN hX hY hB hx hy hk ih hd1 hd2 hm
  go_enter Try.func73, Try.ntmps73
  go_upto_region 25 with fail
  obtain ⟨mid, hmz, hmid⟩ := half_is a b
  rw [hmz]
  have Hmid := Lib.hid hmid
  have hmb : mid ≤ b := by have := Hab.out; omega
  clear hmz hmid
  obtain ⟨n, hn⟩ : ∃ n : Nat, n = mid + m := ⟨_, rfl⟩
  have zn : (mid : Int) + (m : Int) = (n : Int) := by omega
  have Hn := Lib.hid hn
  clear hn
  go_upto_if 140 with fail
  go_cut [20, 21] from 143 to 146 (fun s r wx => ∃ lo hi : Nat, s = .int .i64 lo ∧ r = .int .i64 hi ∧ lo = (if mid < m then mid + m - b else a) ∧ hi = (if mid < m then mid else m) ∧ wx = w)
  case first =>
    by_cases hgt : mid < m
    · have q1 : decide ((mid : Int) < (m : Int)) = true := by rw [decide_eq_true_eq]; omega
      obtain ⟨lo, hlo⟩ : ∃ lo : Nat, lo = mid + m - b := ⟨_, rfl⟩
      have zlo : (n : Int) - (b : Int) = (lo : Int) := by have := Hn.out; have := Hmid.out; have := Hab.out; omega
      have Hlo := Lib.hid hlo
      clear hlo
      go_wp2_with fail
      go_meet
      exact ⟨lo, mid, rfl, rfl, by rw [if_pos hgt]; exact Hlo.out, by rw [if_pos hgt], rfl⟩
    · have q1 : decide ((mid : Int) < (m : Int)) = false := by rw [decide_eq_false_iff_not]; omega
      go_wp2_with fail
      go_meet
      exact ⟨a, m, rfl, rfl, by rw [if_neg hgt], by rw [if_neg hgt], rfl⟩
  case rest =>
    obtain ⟨lo, hi, rfl, rfl, hlo, hhi, rfl⟩ := hcut
    have Hlo := Lib.hid hlo
    have Hhi := Lib.hid hhi
    have Hnum := Lib.hid (show lo ≤ hi ∧ a ≤ lo ∧ hi ≤ m ∧ hi ≤ mid ∧ (∀ h, lo ≤ h → h < hi → a ≤ h ∧ h < m ∧ m ≤ n - 1 - h ∧ n - 1 - h < b) ∧ (∀ h, lo ≤ h → h ≤ hi → m ≤ n - h ∧ n - h ≤ b) from by
      have := Hab.out; have := Hmid.out; have := Hn.out
      split at hlo <;> split at hhi <;> (refine ⟨by omega, by omega, by omega, by omega, fun h h1 h2 => by omega, fun h h1 h2 => by omega⟩))
    have hloh : lo ≤ hi := Hnum.out.1
    have hhim : hi ≤ m := Hnum.out.2.2.1
    obtain ⟨p, hp⟩ : ∃ p, p + 1 = n := ⟨n - 1, by have := Hn.out; have := Hab.out; omega⟩
    have zp : (n : Int) - 1 = (p : Int) := by omega
    have Hp := Lib.hid hp
    have hpB : p < 512 := by have := Hn.out; have := Hab.out; omega
    clear hlo hhi hp
    go_wp2_with fail
    clear zp zn
    go_loopw [20, 21, 23] (fun vi vj _ wr => ∃ i j : Nat, vi = .int .i64 i ∧ vj = .int .i64 j ∧ Se (fun h => !decide (c (Y.getD (mid + m - 1 - h - m) 0) < c (X.getD (h - a) 0))) lo hi i j ∧ Sl1 w0 blk (P ++ ((X ++ Y) ++ S)) wr) (fun vi vj _ _ => (intOf vj).toNat - (intOf vi).toNat)
    case atStart => exact ⟨lo, hi, rfl, rfl, Se.start _ hloh, Hw.out⟩
    case round =>
      obtain ⟨i, j, rfl, rfl, se, hw⟩ := hrel
      have Se_ := Lib.hid se
      have hi1 := se.l1
      have hi2 := se.mid
      have hi3 := se.l2
      clear se Hw
      by_cases hlt : i < j
      · have hltz : (i : Int) < (j : Int) := by omega
        have Hw := Lib.hid hw
        clear hw
        go_wp2_with fail
        obtain ⟨h, hh, hh2⟩ := half_is i j
        rw [hh]
        have hih : i ≤ h := by omega
        have hhj : h < j := by omega
        obtain ⟨n1, n2, n3, n4⟩ := Hnum.out.2.2.2.2.1 h (by omega) (by omega)
        clear hh hh2
        have hl := HN.out
        obtain ⟨q, hq⟩ : ∃ q, q = n - 1 - h := ⟨_, rfl⟩
        rw [← hq] at n3 n4
        have zq : (p : Int) - (h : Int) = (q : Int) := by have := Hp.out; omega
        have l1 := fun n os => (Hw.out.grown n os).at_ Hs.out hl (i := h) (by omega) (cellX.out h n1 n2)
        have l2 := fun n os => (Hw.out.grown n os).at_ Hs.out hl (i := q) (by omega) (cellY.out q n3 n4)
        have hc := Hw.out.cmp HC.out hl (Y.getD (q - m) 0) (X.getD (h - a) 0)
        have hv := cmpV_neg c (Y.getD (q - m) 0) (X.getD (h - a) 0)
        have Up := Lib.hid (fun hf : decide (c (Y.getD (q - m) 0) < c (X.getD (h - a) 0)) = false => Se_.out.up hih hhj (show (!decide (c (Y.getD (mid + m - 1 - h - m) 0) < c (X.getD (h - a) 0))) = true by rw [show mid + m - 1 - h = q by rw [hq, Hn.out], hf]; rfl))
        have Dn := Lib.hid (fun hf : decide (c (Y.getD (q - m) 0) < c (X.getD (h - a) 0)) = true => Se_.out.down hih hhj (show (!decide (c (Y.getD (mid + m - 1 - h - m) 0) < c (X.getD (h - a) 0))) = false by rw [show mid + m - 1 - h = q by rw [hq, Hn.out], hf]; rfl))
        rw [← hv] at Up Dn
        clear hv
        generalize X.getD (h - a) 0 = x at *
        generalize Y.getD (q - m) 0 = y at *
        generalize cmpV c y x = r at *
        have hhz : (0 : Int) ≤ (h : Int) ∧ (h : Int) < (N : Int) := by omega
        have hqz : (0 : Int) ≤ (q : Int) ∧ (q : Int) < (N : Int) := by omega
        have wq : IntKind.i64.wrap (q : Int) = (q : Int) := by rw [IntKind.wrap_i64]; omega
        clear cellX cellY Se_ hq hl n1 n2 n3 n4 Hnum
        by_cases hf : r < 0
        · have hfd : decide (r < 0) = true := decide_eq_true hf
          clear hf
          go_quiet_grown (first | (go_at_fn g; refine Calls.grown_of (hc _ _)))
          have S2 := Lib.hid (Hw.out.grown nq osq)
          clear Hw l1 l2 hc
          generalize grow (wr.drewN nq) osq = w2 at S2 ⊢
          clear nq osq
          go_wp2_with fail
          go_roundw
          case rel => exact ⟨i, h, rfl, rfl, Dn.out hfd, S2.out⟩
          case measure => simp [intOf]; omega
        · have hfd : decide (r < 0) = false := decide_eq_false hf
          clear hf
          go_quiet_grown (first | (go_at_fn g; refine Calls.grown_of (hc _ _)))
          have S2 := Lib.hid (Hw.out.grown nq osq)
          clear Hw l1 l2 hc
          generalize grow (wr.drewN nq) osq = w2 at S2 ⊢
          clear nq osq
          go_wp2_with fail
          go_roundw
          case rel => exact ⟨h + 1, j, by go_num, rfl, Up.out hfd, S2.out⟩
          case measure => simp [intOf]; omega
      · have hltz : ¬ (i : Int) < (j : Int) := by omega
        obtain rfl : i = j := by omega
        obtain ⟨en, hen⟩ : ∃ en : Nat, en = n - i := ⟨_, rfl⟩
        have n1 := Hnum.out.2.2.2.2.2 i (by omega) (by omega)
        rw [← hen] at n1
        have zen : (n : Int) - (i : Int) = (en : Int) := by have := Hn.out; omega
        have hai : a ≤ i := by have := Hnum.out.2.1; omega
        have him : i ≤ m := by omega
        have himid : i ≤ mid := by have := Hnum.out.2.2.2.1; omega
        have Sp := Lib.hid (split_ok HX.out HY.out HB.out Hm.out Hb.out Hmid.out Hlo.out Hhi.out (st := i) (en := en) (by have := Hn.out; omega) Se_.out)
        have hsum : en + i = mid + m := by have := Hn.out; omega
        have Hw := Lib.hid hw
        obtain ⟨X1, hX1⟩ : ∃ l, l = X.take (i - a) := ⟨_, rfl⟩
        obtain ⟨X2, hX2⟩ : ∃ l, l = X.drop (i - a) := ⟨_, rfl⟩
        obtain ⟨Y1, hY1⟩ : ∃ l, l = Y.take (en - m) := ⟨_, rfl⟩
        obtain ⟨Y2, hY2⟩ : ∃ l, l = Y.drop (en - m) := ⟨_, rfl⟩
        have eX : X1 ++ X2 = X := by rw [hX1, hX2]; exact List.take_append_drop _ _
        have eY : Y1 ++ Y2 = Y := by rw [hY1, hY2]; exact List.take_append_drop _ _
        have x1 : X1.length = i - a := by rw [hX1, List.length_take]; have := Hm.out; omega
        have x2 : X2.length = m - i := by rw [hX2, List.length_drop]; have := Hm.out; omega
        have y1 : Y1.length = en - m := by rw [hY1, List.length_take]; have := Hb.out; omega
        have y2 : Y2.length = b - en := by rw [hY2, List.length_drop]; have := Hb.out; omega
        rw [← hX1, ← hX2, ← hY1, ← hY2] at Sp
        clear hX1 hX2 hY1 hY2 hw Hlo Hhi cellX cellY Hnum Se_
        have hN2 : (P ++ (X1 ++ (X2 ++ (Y1 ++ (Y2 ++ S))))).length = N := by have := HN.out; rw [← eX, ← eY] at this; simpa using this
        have Hw1 := Lib.hid (show Sl1 w0 blk (P ++ (X1 ++ (X2 ++ (Y1 ++ (Y2 ++ S))))) wr by have := Hw.out; rw [← eX, ← eY] at this; simpa using this)
        have Kr := Lib.hid (fun (h1 : i < m) (h2 : m < en) => rotate_any Hs.out cap (.func (.func g) #[] cb) (P ++ X1) X2 Y1 (Y2 ++ S) i m en (by rw [List.length_append, Ha.out]; omega) (by omega) (by omega) (by omega) (by omega) (by simpa using hN2) wr (by simpa using Hw1.out))
        have pX1 : X1.Pairwise (Tot c) := by have := HX.out; rw [← eX] at this; exact (List.pairwise_append.1 this).1
        have pX2 : X2.Pairwise (Tot c) := by have := HX.out; rw [← eX] at this; exact (List.pairwise_append.1 this).2.1
        have pY1 : Y1.Pairwise (Tot c) := by have := HY.out; rw [← eY] at this; exact (List.pairwise_append.1 this).1
        have pY2 : Y2.Pairwise (Tot c) := by have := HY.out; rw [← eY] at this; exact (List.pairwise_append.1 this).2.1
        have bb : ∀ x ∈ X1 ++ X2, ∀ y ∈ Y1 ++ Y2, x.val < y.val := by rw [eX, eY]; exact HB.out
        have hPm : (P ++ X1 ++ Y1).length = mid := by rw [List.length_append, List.length_append, Ha.out]; omega
        have K1 := Lib.hid (fun (h1 : a < i) (h2 : i < mid) => Ih.out P X1 Y1 (X2 ++ (Y2 ++ S)) a i mid Ha.out (by omega) (by omega) (by omega) (by omega) (by have := Hk.out; have := Hb.out; have := Hm.out; have := Hab.out; have := Hmid.out; omega) pX1 pY1 (fun x hx y hy => bb x (List.mem_append_left _ hx) y (List.mem_append_left _ hy)) (by have := hN2; simp at *; omega))
        have K2 := Lib.hid (fun (h1 : mid < en) (h2 : en < b) (Z : List (Fin 256)) (hZ : Z.Perm (X1 ++ Y1)) => Ih.out (P ++ Z) X2 Y2 S mid en b (by rw [List.length_append, hZ.length_eq, ← hPm]; simp) (by omega) (by omega) (by omega) (by omega) (by have := Hk.out; have := Hb.out; have := Hm.out; have := Hab.out; have := Hmid.out; omega) pX2 pY2 (fun x hx y hy => bb x (List.mem_append_right _ hx) y (List.mem_append_right _ hy)) (by have := hN2; have := hZ.length_eq; simp at *; omega))
        have hd1' : mid < en ∨ X2 = [] := by
          rcases Nat.lt_or_ge mid en with h | h
          · exact .inl h
          · exact .inr (List.eq_nil_of_length_eq_zero (by omega))
        have Nil1 := Lib.hid (show ¬ (a < i ∧ i < mid) → X1 = [] ∨ Y1 = [] from fun h => by
          by_cases h1 : a < i
          · exact .inr (List.eq_nil_of_length_eq_zero (by omega))
          · exact .inl (List.eq_nil_of_length_eq_zero (by omega)))
        have Nil2 := Lib.hid (show ¬ (mid < en ∧ en < b) → X2 = [] ∨ Y2 = [] from fun h => by
          by_cases h1 : mid < en
          · exact .inr (List.eq_nil_of_length_eq_zero (by omega))
          · exact .inl (List.eq_nil_of_length_eq_zero (by omega)))
        have NilR := Lib.hid (show ¬ (i < m ∧ m < en) → X2 ++ Y1 = Y1 ++ X2 from fun h => by
          by_cases h1 : i < m
          · rw [List.eq_nil_of_length_eq_zero (show Y1.length = 0 by omega)]; simp
          · rw [List.eq_nil_of_length_eq_zero (show X2.length = 0 by omega)]; simp)
        have E := Lib.hid (show (X1 ++ Y1 ++ (X2 ++ Y2)).Perm (X ++ Y) from by
          rw [← eX, ← eY]
          have : (Y1 ++ X2).Perm (X2 ++ Y1) := List.perm_append_comm
          simpa using (this.append_right Y2).append_left X1)
        have hb512 : en ≤ 512 := by omega
        have hsX := Lib.hid (show (X1.Pairwise (Tot c) ∧ X2.Pairwise (Tot c)) ∧ Y1.Pairwise (Tot c) ∧ Y2.Pairwise (Tot c) from ⟨⟨pX1, pX2⟩, pY1, pY2⟩)
        clear eX eY x1 x2 y1 y2 hN2 Hw pX1 pX2 pY1 pY2 bb hPm hd1' hlt hi2 Hn hsum hen
        obtain ⟨B, hB'⟩ : ∃ B : Bool, B = decide (i < m ∧ m < en) := ⟨_, rfl⟩
        go_upto_region 39 with fail
        go_cut [185] from 178 to 185 (fun v wx => v = .bool B ∧ wx = wr)
        case first =>
          by_cases h1 : i < m
          · have q1 : decide (((i : Nat) : Int) < ((m : Nat) : Int)) = true := by rw [decide_eq_true_eq]; omega
            by_cases h2 : m < en
            · have q2 : decide (((m : Nat) : Int) < ((en : Nat) : Int)) = true := by rw [decide_eq_true_eq]; omega
              have hd : B = true := by rw [hB', decide_eq_true_eq]; exact ⟨h1, h2⟩
              have Hd := Lib.hid hd
              clear hd hB'
              go_wp2_with fail
              go_meet
              exact ⟨by rw [Hd.out], rfl⟩
            · have q2 : decide (((m : Nat) : Int) < ((en : Nat) : Int)) = false := by rw [decide_eq_false_iff_not]; omega
              have hd : B = false := by rw [hB', decide_eq_false_iff_not]; exact fun h => h2 h.2
              have Hd := Lib.hid hd
              clear hd hB'
              go_wp2_with fail
              go_meet
              exact ⟨by rw [Hd.out], rfl⟩
          · have q1 : decide (((i : Nat) : Int) < ((m : Nat) : Int)) = false := by rw [decide_eq_false_iff_not]; omega
            have hd : B = false := by rw [hB', decide_eq_false_iff_not]; exact fun h => h1 h.1
            have Hd := Lib.hid hd
            clear hd hB'
            go_wp2_with fail
            go_meet
            exact ⟨by rw [Hd.out], rfl⟩
        case rest =>
        obtain ⟨rfl, rfl⟩ := hcut
        have HBd := Lib.hid hB'
        clear hB'
        go_upto_if 185 with fail
        go_cut [] from 186 to 191 (fun wx => Sl1 w0 blk (P ++ (X1 ++ (Y1 ++ (X2 ++ (Y2 ++ S))))) wx)
        case first =>
          cases B with
          | true =>
            have hc := of_decide_eq_true HBd.out.symm
            go_wp2_with (first
              | (go_at_call 76; refine (Kr.out hc.1 hc.2).mono ?_; rintro e w' ⟨rfl, hw'⟩))
            go_meet
            simpa using hw'
          | false =>
            have hc := of_decide_eq_false HBd.out.symm
            have hq := Hw1.out
            rw [← List.append_assoc X2, NilR.out hc, List.append_assoc Y1] at hq
            have Hq := Lib.hid hq
            clear hq
            go_wp2_with fail
            go_meet
            exact Hq.out
        case rest =>
        have Hw2 := Lib.hid hcut
        clear HBd hcut Kr Hw1 NilR
        obtain ⟨B, hB'⟩ : ∃ B : Bool, B = decide (a < i ∧ i < mid) := ⟨_, rfl⟩
        go_upto_region 41 with fail
        go_cut [199] from 192 to 199 (fun v wx => v = .bool B ∧ wx = wc)
        case first =>
          by_cases h1 : a < i
          · have q1 : decide (((a : Nat) : Int) < ((i : Nat) : Int)) = true := by rw [decide_eq_true_eq]; omega
            by_cases h2 : i < mid
            · have q2 : decide (((i : Nat) : Int) < ((mid : Nat) : Int)) = true := by rw [decide_eq_true_eq]; omega
              have hd : B = true := by rw [hB', decide_eq_true_eq]; exact ⟨h1, h2⟩
              have Hd := Lib.hid hd
              clear hd hB'
              go_wp2_with fail
              go_meet
              exact ⟨by rw [Hd.out], rfl⟩
            · have q2 : decide (((i : Nat) : Int) < ((mid : Nat) : Int)) = false := by rw [decide_eq_false_iff_not]; omega
              have hd : B = false := by rw [hB', decide_eq_false_iff_not]; exact fun h => h2 h.2
              have Hd := Lib.hid hd
              clear hd hB'
              go_wp2_with fail
              go_meet
              exact ⟨by rw [Hd.out], rfl⟩
          · have q1 : decide (((a : Nat) : Int) < ((i : Nat) : Int)) = false := by rw [decide_eq_false_iff_not]; omega
            have hd : B = false := by rw [hB', decide_eq_false_iff_not]; exact fun h => h1 h.1
            have Hd := Lib.hid hd
            clear hd hB'
            go_wp2_with fail
            go_meet
            exact ⟨by rw [Hd.out], rfl⟩
        case rest =>
        obtain ⟨rfl, rfl⟩ := hcut
        have HBd := Lib.hid hB'
        clear hB'
        go_upto_if 199 with fail
        go_cut [] from 200 to 205 (fun wx => ∃ Z1 : List (Fin 256), Z1.Perm (X1 ++ Y1) ∧ Z1.Pairwise (Tot c) ∧ Sl1 w0 blk (P ++ (Z1 ++ (X2 ++ (Y2 ++ S)))) wx)
        case first =>
          cases B with
          | true =>
            have hc := of_decide_eq_true HBd.out.symm
            go_wp2_with (first
              | (go_at_call 73; refine (K1.out hc.1 hc.2 _ (by simpa using Hw2.out)).mono ?_; rintro e w' ⟨rfl, hw'⟩))
            go_meet
            exact hw'
          | false =>
            have hc := of_decide_eq_false HBd.out.symm
            have hq := Hw2.out
            have Hq := Lib.hid (show ∃ Z1 : List (Fin 256), Z1.Perm (X1 ++ Y1) ∧ Z1.Pairwise (Tot c) ∧ Sl1 w0 blk (P ++ (Z1 ++ (X2 ++ (Y2 ++ S)))) _ from ⟨X1 ++ Y1, List.Perm.refl _, by
              rcases Nil1.out hc with h | h
              · rw [h]; exact hsX.out.2.1
              · rw [h, List.append_nil]; exact hsX.out.1.1, by simpa using hq⟩)
            clear hq
            go_wp2_with fail
            go_meet
            exact Hq.out
        case rest =>
        obtain ⟨Z1, hz1, hz2, hz3⟩ := hcut
        have Hz := Lib.hid (⟨hz1, hz2⟩ : Z1.Perm (X1 ++ Y1) ∧ Z1.Pairwise (Tot c))
        have Hw3 := Lib.hid hz3
        clear HBd hz1 hz2 hz3 K1 Hw2 Nil1
        have End := Lib.hid (show ∀ (w' : World) (Z2 : List (Fin 256)), Z2.Perm (X2 ++ Y2) → Z2.Pairwise (Tot c) → Sl1 w0 blk (P ++ (Z1 ++ (Z2 ++ S))) w' → Ending.returned (.tuple #[]) = Ending.returned (.tuple #[]) ∧ ∃ Z : List (Fin 256), Z.Perm (X ++ Y) ∧ Z.Pairwise (Tot c) ∧ Sl1 w0 blk (P ++ (Z ++ S)) w' from fun w' Z2 hz1 hz2 hz3 =>
          ⟨rfl, Z1 ++ Z2, (Hz.out.1.append hz1).trans E.out, by
            rw [List.pairwise_append]
            exact ⟨Hz.out.2, hz2, fun u hu v hv => Sp.out u (Hz.out.1.mem_iff.1 hu) v (hz1.mem_iff.1 hv)⟩, by simpa using hz3⟩)
        obtain ⟨B, hB'⟩ : ∃ B : Bool, B = decide (mid < en ∧ en < b) := ⟨_, rfl⟩
        go_upto_region 43 with fail
        go_cut [213] from 206 to 213 (fun v wx => v = .bool B ∧ wx = wc)
        case first =>
          by_cases h1 : mid < en
          · have q1 : decide (((mid : Nat) : Int) < ((en : Nat) : Int)) = true := by rw [decide_eq_true_eq]; omega
            by_cases h2 : en < b
            · have q2 : decide (((en : Nat) : Int) < ((b : Nat) : Int)) = true := by rw [decide_eq_true_eq]; omega
              have hd : B = true := by rw [hB', decide_eq_true_eq]; exact ⟨h1, h2⟩
              have Hd := Lib.hid hd
              clear hd hB'
              go_wp2_with fail
              go_meet
              exact ⟨by rw [Hd.out], rfl⟩
            · have q2 : decide (((en : Nat) : Int) < ((b : Nat) : Int)) = false := by rw [decide_eq_false_iff_not]; omega
              have hd : B = false := by rw [hB', decide_eq_false_iff_not]; exact fun h => h2 h.2
              have Hd := Lib.hid hd
              clear hd hB'
              go_wp2_with fail
              go_meet
              exact ⟨by rw [Hd.out], rfl⟩
          · have q1 : decide (((mid : Nat) : Int) < ((en : Nat) : Int)) = false := by rw [decide_eq_false_iff_not]; omega
            have hd : B = false := by rw [hB', decide_eq_false_iff_not]; exact fun h => h1 h.1
            have Hd := Lib.hid hd
            clear hd hB'
            go_wp2_with fail
            go_meet
            exact ⟨by rw [Hd.out], rfl⟩
        case rest =>
        obtain ⟨rfl, rfl⟩ := hcut
        have HBd := Lib.hid hB'
        clear hB'
        cases B with
        | true =>
          have hc := of_decide_eq_true HBd.out.symm
          go_wp2_with (first
            | (go_at_call 73; refine (K2.out hc.1 hc.2 Z1 Hz.out.1 _ (by simpa using Hw3.out)).mono ?_; rintro e w' ⟨rfl, Z2, hz1, hz2, hz3⟩))
          go_end0
          exact ⟨rfl, (End.out _ Z2 hz1 hz2 (by simpa using hz3)).2⟩
        | false =>
          have hc := of_decide_eq_false HBd.out.symm
          have hq := Lib.hid (End.out _ (X2 ++ Y2) (List.Perm.refl _) (by
              rcases Nil2.out hc with h | h
              · rw [h]; exact hsX.out.2.2
              · rw [h, List.append_nil]; exact hsX.out.1.2) (by simpa using Hw3.out))
          go_wp2_with fail
          go_end0
          exact ⟨rfl, hq.out.2⟩
end Go.Proofs.Ytnkgcibdibgmjaa

namespace Go.Proofs.Ytnkgcibdibgmjaa
open Go.RowKit Go.Shelf Go.Lib Go.Sort

section
variable {α : Type}
/-- Block q of width m. -/
def seg (m q : Nat) (l : List α) : List α := (l.drop (q * m)).take m
theorem seg_two (m k : Nat) (l : List α) : seg (2 * m) k l = seg m (2 * k) l ++ seg m (2 * k + 1) l := by
  unfold seg
  rw [show 2 * m = m + m by omega, List.take_add, List.drop_drop, show k * (m + m) = 2 * k * m by rw [← Nat.two_mul, Nat.mul_comm 2 k, Nat.mul_assoc], show 2 * k * m + m = (2 * k + 1) * m by rw [Nat.add_mul, Nat.one_mul]]
theorem seg_before {m q : Nat} {P : List α} (R R' : List α) (h : (q + 1) * m ≤ P.length) : seg m q (P ++ R) = seg m q (P ++ R') := by
  rw [Nat.add_mul, Nat.one_mul] at h
  unfold seg
  rw [List.drop_append_of_le_length (by omega), List.drop_append_of_le_length (by omega), List.take_append_of_le_length (by rw [List.length_drop]; omega), List.take_append_of_le_length (by rw [List.length_drop]; omega)]
theorem seg_behind {m q : Nat} {P P' : List α} (S : List α) (h : P.length ≤ q * m) (hp : P.length = P'.length) : seg m q (P ++ S) = seg m q (P' ++ S) := by
  unfold seg
  rw [List.drop_append, List.drop_append, List.drop_eq_nil_of_le h, hp, show List.drop (q * m) P' = [] from List.drop_eq_nil_of_le (by omega)]
theorem seg_here {m q : Nat} {P Z : List α} (S : List α) (h : P.length = q * m) (hz : Z.length = m ∨ (Z.length ≤ m ∧ S = [])) : seg m q (P ++ (Z ++ S)) = Z := by
  unfold seg
  rw [← h, List.drop_left]
  rcases hz with hz | ⟨hz, rfl⟩
  · rw [← hz, List.take_left]
  · rw [List.append_nil, List.take_of_length_le hz]
theorem seg_none {m q : Nat} {l : List α} (h : l.length ≤ q * m) : seg m q l = [] := by
  unfold seg; rw [List.drop_eq_nil_of_le h, List.take_nil]
theorem seg_len (m q : Nat) (l : List α) : (seg m q l).length = min m (l.length - q * m) := by unfold seg; rw [List.length_take, List.length_drop]
end

/-- Block q is in order, of those that stood there. -/
def InOrder (c : Fin 256 → Int) (X D : List (Fin 256)) (m q : Nat) : Prop := (seg m q D).Perm (seg m q X) ∧ (seg m q D).Pairwise (Tot c)
section
variable {c : Fin 256 → Int} {X D : List (Fin 256)}
/-- What merging two blocks is told. -/
theorem two_blocks (hX : X.Pairwise (fun x y => x.val < y.val)) {m k : Nat} (h1 : InOrder c X D m (2 * k)) (h2 : InOrder c X D m (2 * k + 1)) : ∀ x ∈ seg m (2 * k) D, ∀ y ∈ seg m (2 * k + 1) D, x.val < y.val := by
  intro x hx y hy
  have hs : (seg m (2 * k) X ++ seg m (2 * k + 1) X).Pairwise (fun x y : Fin 256 => x.val < y.val) := by
    rw [← seg_two]; exact hX.sublist ((List.take_sublist _ _).trans (List.drop_sublist _ _))
  exact (List.pairwise_append.1 hs).2.2 x (h1.1.mem_iff.1 hx) y (h2.1.mem_iff.1 hy)
/-- Blocks of twice the width up to k, of the width from 2 * k on. -/
structure Mix (c : Fin 256 → Int) (X : List (Fin 256)) (m k : Nat) (D : List (Fin 256)) : Prop where
  len : D.length = X.length
  done : ∀ q, q < k → InOrder c X D (2 * m) q
  todo : ∀ q, 2 * k ≤ q → InOrder c X D m q
theorem Mix.parts {m k : Nat} (D : List (Fin 256)) (h : 2 * k * m ≤ D.length) : ∃ P S : List (Fin 256), D = P ++ ((seg m (2 * k) D ++ seg m (2 * k + 1) D) ++ S) ∧ P.length = 2 * k * m ∧ S.length = D.length - 2 * k * m - 2 * m := by
  refine ⟨D.take (2 * k * m), D.drop (2 * k * m + 2 * m), ?_, by rw [List.length_take]; omega, by rw [List.length_drop]; omega⟩
  rw [← seg_two]
  have e : k * (2 * m) = 2 * k * m := by rw [Nat.mul_comm 2 k, Nat.mul_assoc]
  unfold seg
  rw [e, ← List.drop_drop, List.take_append_drop, List.take_append_drop]
theorem Mix.next {m k : Nat} (h : Mix c X m k D) {P Z S : List (Fin 256)} (hD : D = P ++ ((seg m (2 * k) D ++ seg m (2 * k + 1) D) ++ S)) (hP : P.length = 2 * k * m) (hZ : Z.Perm (seg m (2 * k) D ++ seg m (2 * k + 1) D)) (hp : Z.Pairwise (Tot c)) (hz : Z.length = 2 * m ∨ Z.length ≤ 2 * m ∧ S = []) : Mix c X m (k + 1) (P ++ (Z ++ S)) := by
  have e : k * (2 * m) = 2 * k * m := by rw [Nat.mul_comm 2 k, Nat.mul_assoc]
  have hlen : (P ++ (Z ++ S)).length = X.length := by
    rw [← h.len]; conv => rhs; rw [hD]
    simp only [List.length_append, hZ.length_eq]
  refine ⟨hlen, fun q hq => ?_, fun q hq => ?_⟩
  · rcases Nat.lt_or_ge q k with hk | hk
    · have e1 : seg (2 * m) q (P ++ (Z ++ S)) = seg (2 * m) q D := by
        conv => rhs; rw [hD]
        exact seg_before _ _ (by rw [hP, ← e]; exact Nat.mul_le_mul_right _ hk)
      unfold InOrder
      rw [e1]; exact h.done q hk
    · obtain rfl : q = k := by omega
      have e1 : seg (2 * m) q (P ++ (Z ++ S)) = Z := seg_here S (by rw [hP, e]) hz
      unfold InOrder
      rw [e1, seg_two]
      exact ⟨hZ.trans ((h.todo (2 * q) (Nat.le_refl _)).1.append (h.todo (2 * q + 1) (by omega)).1), hp⟩
  · rcases hz with hz | ⟨hz, rfl⟩
    · have e1 : seg m q (P ++ (Z ++ S)) = seg m q D := by
        conv => rhs; rw [hD]
        rw [← List.append_assoc, ← List.append_assoc]
        refine seg_behind S ?_ (by simp only [List.length_append, hZ.length_eq])
        rw [List.length_append, hP, hz, show 2 * k * m + 2 * m = 2 * (k + 1) * m by rw [Nat.mul_add, Nat.add_mul]]
        exact Nat.mul_le_mul_right _ hq
      unfold InOrder
      rw [e1]; exact h.todo q (by omega)
    · have h2 : (P ++ (Z ++ ([] : List (Fin 256)))).length ≤ q * m := by
        simp only [List.length_append, List.length_nil, hP]
        have : 2 * (k + 1) * m ≤ q * m := Nat.mul_le_mul_right _ hq
        rw [Nat.mul_add, Nat.add_mul] at this
        omega
      unfold InOrder
      rw [seg_none h2, seg_none (by rw [← hlen]; exact h2)]
      exact ⟨List.Perm.refl _, List.Pairwise.nil⟩
/-- All blocks merged. -/
theorem Mix.all {m k : Nat} (h : Mix c X m k D) (hk : X.length ≤ k * (2 * m)) : Mix c X (2 * m) 0 D :=
  ⟨h.len, fun q hq => absurd hq (Nat.not_lt_zero _), fun q _ => by
    rcases Nat.lt_or_ge q k with h1 | h1
    · exact h.done q h1
    · have h2 : X.length ≤ q * (2 * m) := Nat.le_trans hk (Nat.mul_le_mul_right _ h1)
      unfold InOrder
      rw [seg_none (by rw [h.len]; exact h2), seg_none h2]
      exact ⟨List.Perm.refl _, List.Pairwise.nil⟩⟩
theorem Mix.end_ {m : Nat} (h : Mix c X m 0 D) (hm : X.length ≤ m) : D.Perm X ∧ D.Pairwise (Tot c) := by
  have := h.todo 0 (Nat.le_refl _)
  unfold InOrder seg at this
  rw [Nat.zero_mul, List.drop_zero, List.drop_zero, List.take_of_length_le (by rw [h.len]; exact hm), List.take_of_length_le hm] at this
  exact this
/-- The first blocks: those up to k are in order, the others as they were. -/
structure Fst20 (c : Fin 256 → Int) (X : List (Fin 256)) (k : Nat) (D : List (Fin 256)) : Prop where
  len : D.length = X.length
  done : ∀ q, q < k → InOrder c X D 20 q
  rest : D.drop (k * 20) = X.drop (k * 20)
theorem Fst20.parts {k : Nat} (h : Fst20 c X k D) : D = D.take (k * 20) ++ (seg 20 k X ++ D.drop (k * 20 + 20)) := by
  unfold seg
  rw [← h.rest, ← List.drop_drop, List.take_append_drop, List.take_append_drop]
theorem Fst20.next {k : Nat} (h : Fst20 c X k D) (hk : k * 20 ≤ D.length) {Z : List (Fin 256)} (hZ : Z.Perm (seg 20 k X)) (hp : Z.Pairwise (Tot c)) : Fst20 c X (k + 1) (D.take (k * 20) ++ (Z ++ D.drop (k * 20 + 20))) := by
  have hl : (D.take (k * 20)).length = k * 20 := by rw [List.length_take]; omega
  have hlen := h.len
  have hs := seg_len 20 k X
  have hzl := hZ.length_eq
  refine ⟨?_, fun q hq => ?_, ?_⟩
  · simp only [List.length_append, List.length_drop, hl]; omega
  · rcases Nat.lt_or_ge q k with h1 | h1
    · have e1 : seg 20 q (D.take (k * 20) ++ (Z ++ D.drop (k * 20 + 20))) = seg 20 q D := by
        conv => rhs; rw [h.parts]
        exact seg_before _ _ (by rw [hl]; exact Nat.mul_le_mul_right _ h1)
      unfold InOrder
      rw [e1]; exact h.done q h1
    · obtain rfl : q = k := by omega
      have e1 : seg 20 q (D.take (q * 20) ++ (Z ++ D.drop (q * 20 + 20))) = Z := seg_here _ hl (by
        rcases Nat.lt_or_ge (q * 20 + 20) X.length with h2 | h2
        · exact .inl (by omega)
        · exact .inr ⟨by omega, List.drop_eq_nil_of_le (by omega)⟩)
      unfold InOrder
      rw [e1]; exact ⟨hZ, hp⟩
  · rw [show (k + 1) * 20 = k * 20 + 20 by omega]
    have hr := h.rest
    rcases Nat.lt_or_ge (k * 20 + 20) X.length with h2 | h2
    · rw [← List.append_assoc, List.drop_left' (by rw [List.length_append, hl]; omega), ← List.drop_drop, hr, List.drop_drop]
    · rw [List.drop_eq_nil_of_le (by simp only [List.length_append, List.length_drop, hl]; omega), List.drop_eq_nil_of_le h2]
theorem Fst20.all {k : Nat} (h : Fst20 c X k D) (hk : X.length ≤ k * 20) : Mix c X 20 0 D :=
  ⟨h.len, fun q hq => absurd hq (Nat.not_lt_zero _), fun q _ => by
    rcases Nat.lt_or_ge q k with h1 | h1
    · exact h.done q h1
    · have h2 : X.length ≤ q * 20 := Nat.le_trans hk (Nat.mul_le_mul_right _ h1)
      unfold InOrder
      rw [seg_none (by rw [h.len]; exact h2), seg_none h2]
      exact ⟨List.Perm.refl _, List.Pairwise.nil⟩⟩
theorem first20 (c : Fin 256 → Int) (X : List (Fin 256)) : Fst20 c X 0 X := ⟨rfl, fun _ hq => absurd hq (Nat.not_lt_zero _), rfl⟩
end
end Go.Proofs.Ytnkgcibdibgmjaa

namespace Go.Proofs.Ytnkgcibdibgmjaa
open Go.RowKit Go.Shelf Go.Lib Go.Sort

/-- The library's insertion sort, as this program has it. -/
def insLay_ren : Go.Shelf.Ren := ⟨fun | 20 => 72 | n => n, fun | 0 => 0 | 3 => 3 | 4 => 4 | 22 => 74 | 24 => 3 | 25 => 47 | n => n, fun | n => n⟩
theorem insLay : SlLaysF.n20 Try.prog insLay_ren := {
  mixed := by kernel_rfl
  f20 := ⟨Try.f72.name, by decide, Try.func72.trans (congrArg some (by kernel_rfl))⟩
  t0 := Try.underlying0
  a0 := Try.isAgg0
  z0 := Try.sizeOf0
  v0 := Try.zeroValue0
  t3 := Try.underlying3
  a3 := Try.isAgg3
  z3 := Try.sizeOf3
  v3 := Try.zeroValue3
  t4 := Try.underlying4
  a4 := Try.isAgg4
  z4 := Try.sizeOf4
  v4 := Try.zeroValue4
  t22 := Try.underlying74
  a22 := Try.isAgg74
  z22 := Try.sizeOf74
  v22 := Try.zeroValue74
  a24 := Try.isAgg3
  z24 := Try.sizeOf3
  t25 := Try.underlying47
  a25 := Try.isAgg47
  z25 := Try.sizeOf47
  v25 := Try.zeroValue47 }

instance (c : Fin 256 → Int) (x y : Fin 256) : Decidable (Tot c x y) := by unfold Tot; exact inferInstance
/-- The order, as a test. -/
def totB (c : Fin 256 → Int) (x y : Fin 256) : Bool := decide (Tot c x y)
theorem totB_iff {c : Fin 256 → Int} {x y : Fin 256} : totB c x y = true ↔ Tot c x y := by unfold totB; exact decide_eq_true_iff
theorem totB_not {c : Fin 256 → Int} {x y : Fin 256} : totB c x y = false ↔ ¬ Tot c x y := by unfold totB; exact decide_eq_false_iff_not
theorem totB_swo (c : Fin 256 → Int) : SWO (totB c) where
  irrefl x := totB_not.2 (by unfold Tot; omega)
  trans x y z h1 h2 := totB_iff.2 ((totB_iff.1 h1).trans (totB_iff.1 h2))
  ntrans x y z h1 h2 := totB_not.2 (by have := totB_not.1 h1; have := totB_not.1 h2; unfold Tot at *; omega)
theorem tot_lt (c : Fin 256 → Int) {x y : Fin 256} (h : y.val < x.val) : ltOf (cmpV c) x y = totB c x y := by
  unfold ltOf
  rw [cmpV_neg, Bool.eq_iff_iff, decide_eq_true_iff, totB_iff]
  unfold Tot; omega
theorem ins_same (c : Fin 256 → Int) (a : Nat) : ∀ (j : Nat) (d : Array (Fin 256)), j < d.size → (∀ k, a ≤ k → k < j → (d[k]!).val < (d[j]!).val) → insInner (ltOf (cmpV c)) a j d = insInner (totB c) a j d
  | 0, _, _, _ => rfl
  | j + 1, d, hj, h => by
    unfold insInner
    by_cases ha : j + 1 > a
    · rw [tot_lt c (h j (by omega) (by omega))]
      split
      · refine ins_same c a j _ (by rw [size_swp]; omega) fun k hk hkj => ?_
        rw [swp_other _ _ _ _ (by omega) (by omega), swp_right _ _ _ (by omega)]
        exact h k hk (by omega)
      · rfl
    · rw [decide_eq_false ha]; rfl
theorem insInner_perm (lt : Fin 256 → Fin 256 → Bool) (a i : Nat) : ∀ (j : Nat) (d : Array (Fin 256)), j ≤ i → i < d.size → PermIn a (i + 1) d (insInner lt a j d)
  | 0, d, _, _ => permIn_refl d a (i + 1)
  | j + 1, d, hj, hi => by
    unfold insInner
    split
    · rename_i hc
      have ha : j + 1 > a := by simp at hc; omega
      exact permIn_trans _ _ _ a (i + 1) (swp_permIn d a (i + 1) (j + 1) j (by omega) (by omega) (by omega) (by omega) (by omega)) (insInner_perm lt a i j _ (by omega) (by rw [size_swp]; exact hi))
    · exact permIn_refl d a (i + 1)
theorem outer_same (c : Fin 256 → Int) (a b : Nat) : ∀ (n i : Nat) (d : Array (Fin 256)), b - i = n → a < i → b ≤ d.size → (∀ p q, a ≤ p → p < q → i ≤ q → q < b → (d[p]!).val < (d[q]!).val) → insOuter (ltOf (cmpV c)) a b i d = insOuter (totB c) a b i d
  | 0, i, d, hn, _, _, _ => by
    conv => lhs; rw [insOuter, if_neg (by omega)]
    conv => rhs; rw [insOuter, if_neg (by omega)]
  | n + 1, i, d, hn, ha, hb, h => by
    have hlt : i < b := by omega
    conv => lhs; rw [insOuter, if_pos hlt]
    conv => rhs; rw [insOuter, if_pos hlt]
    rw [ins_same c a i d (by omega) (fun k hk hki => h k i hk hki (Nat.le_refl _) hlt)]
    have hp := insInner_perm (totB c) a i i d (Nat.le_refl _) (by omega)
    refine outer_same c a b n (i + 1) _ (by omega) (by omega) (by rw [hp.1]; exact hb) fun p q hap hpq hiq hqb => ?_
    rw [hp.2.1 q (.inr (by omega))]
    rcases Nat.lt_or_ge p (i + 1) with h1 | h1
    · exact permIn_all d _ a (i + 1) (fun x => x.val < (d[q]!).val) (by omega) hp (fun k hk hki => h k q hk (by omega) (by omega) hqb) p hap h1
    · rw [hp.2.1 p (.inr h1)]; exact h p q hap hpq (by omega) hqb
theorem arr_of (L : List (Fin 256)) {i : Nat} (h : i < L.length) : L.toArray[i]! = L[i] := by simp [h]
theorem row_parts {P X S : List (Fin 256)} {d : Array (Fin 256)} (hp : PermIn P.length (P.length + X.length) (P ++ (X ++ S)).toArray d) : ∃ Z : List (Fin 256), Z.Perm X ∧ d = (P ++ (Z ++ S)).toArray := by
  obtain ⟨h1, h2, h3⟩ := hp
  have hsz : d.size = P.length + X.length + S.length := by rw [h1]; simp; omega
  have hx : ((P ++ (X ++ S)).toArray.extract P.length (P.length + X.length)).toList = X := by simp
  rw [hx] at h3
  refine ⟨(d.extract P.length (P.length + X.length)).toList, h3, ?_⟩
  have hl' := h3.length_eq
  have hl : (d.extract P.length (P.length + X.length)).size = X.length := hl'
  apply Array.ext
  · simp only [List.size_toArray, List.length_append, hl']; omega
  · intro i hi hi'
    have e0 : d[i] = d[i]! := by rw [getElem!_pos d i hi]
    rw [e0, List.getElem_toArray]
    rcases Nat.lt_or_ge i P.length with h | h
    · rw [List.getElem_append_left h, h2 i (.inl h), arr_of _ (by simp; omega), List.getElem_append_left h]
    · rw [List.getElem_append_right h]
      rcases Nat.lt_or_ge (i - P.length) X.length with h4 | h4
      · rw [List.getElem_append_left (by rw [hl']; exact h4), Array.getElem_toList, Array.getElem_extract, ← e0]
        simp only [show P.length + (i - P.length) = i by omega]
      · rw [List.getElem_append_right (by rw [hl']; exact h4), h2 i (.inr (by omega)), arr_of _ (by simp; omega), List.getElem_append_right h, List.getElem_append_right h4]
        simp only [hl']

theorem insertion_any {w0 : World} {blk N : Nat} (s : Srt w0 blk N) {c : Fin 256 → Int} {g : Nat} {cb : Array Value} (C : Cmp c g cb w0 blk N) (cap : Nat) (P X S : List (Fin 256)) (a b : Nat) (ha : P.length = a) (hb : a + X.length = b)
    (hX : X.Pairwise (fun x y => x.val < y.val)) (hN : (P ++ (X ++ S)).length = N) (w : World) (h : Sl1 w0 blk (P ++ (X ++ S)) w) :
    Calls Try.prog 72 #[.slice (some ⟨blk, 0, none⟩) N cap, .int .i64 a, .int .i64 b, .func (.func g) #[] cb] w fun e w' => e = .returned (.tuple #[]) ∧ ∃ Z : List (Fin 256), Z.Perm X ∧ Z.Pairwise (Tot c) ∧ Sl1 w0 blk (P ++ (Z ++ S)) w' := by
  obtain ⟨d0, hd, R⟩ := s.row
  subst ha; subst hb
  have hsz : (P ++ (X ++ S)).toArray.size = N := by rw [List.size_toArray]; exact hN
  have hbN : P.length + X.length ≤ (P ++ (X ++ S)).toArray.size := by rw [hsz]; simp only [List.length_append] at hN; omega
  have hc := Any.insertionSortCmpFunc_s insLay encF (cmpV c) g cb blk 0 cap P.length (P.length + X.length) d0 (P ++ (X ++ S)).toArray w0 w C.enter (by rw [hd]; exact C.lays) R (by rw [hd, hsz]) h (by omega) hbN (by rw [hsz]; have := s.small; omega)
  rw [hsz] at hc
  change Calls Try.prog 72 _ _ _ at hc
  refine hc.mono ?_
  rintro e w' ⟨rfl, hw⟩
  have hin : ∀ p q, P.length ≤ p → p < q → q < P.length + X.length → ((P ++ (X ++ S)).toArray[p]!).val < ((P ++ (X ++ S)).toArray[q]!).val := by
    intro p q h1 h2 h3
    rw [arr_of _ (by simp; omega), arr_of _ (by simp; omega), List.getElem_append_right h1, List.getElem_append_left (by omega), List.getElem_append_right (by omega), List.getElem_append_left (by omega)]
    exact List.pairwise_iff_getElem.1 hX _ _ _ _ (by omega)
  have hse : insertionSort (ltOf (cmpV c)) (P ++ (X ++ S)).toArray P.length (P.length + X.length) = insertionSort (totB c) (P ++ (X ++ S)).toArray P.length (P.length + X.length) := by
    unfold insertionSort
    exact outer_same c _ _ _ _ _ rfl (by omega) hbN fun p q h1 h2 _ h4 => hin p q h1 h2 h4
  rw [hse] at hw
  have hh := insertionSort_holds (lt := totB c) (totB_swo c) (P ++ (X ++ S)).toArray P.length (P.length + X.length) (by omega) hbN
  generalize insertionSort (totB c) (P ++ (X ++ S)).toArray P.length (P.length + X.length) = d at *
  obtain ⟨Z, hZ, rfl⟩ := row_parts hh.1
  refine ⟨rfl, Z, hZ, ?_, hw⟩
  have hnd : Z.Nodup := hZ.nodup_iff.2 (hX.imp (fun h e => by rw [e] at h; exact Nat.lt_irrefl _ h))
  rw [List.pairwise_iff_getElem]
  intro i j hi hj hij
  have h1 := hh.2 (P.length + i) (P.length + j) (by omega) (by omega) (by have := hZ.length_eq; omega)
  rw [arr_of _ (by simp; omega), arr_of _ (by simp; omega), List.getElem_append_right (by omega), List.getElem_append_left (by omega), List.getElem_append_right (by omega), List.getElem_append_left (by omega)] at h1
  simp only [Nat.add_sub_cancel_left] at h1
  rw [totB_not] at h1
  have h2 : Z[i].val ≠ Z[j].val := fun e => by
    have := List.pairwise_iff_getElem.1 hnd i j hi hj hij
    exact this (Fin.ext e)
  unfold Tot at *
  omega
end Go.Proofs.Ytnkgcibdibgmjaa

namespace Go.Proofs.Ytnkgcibdibgmjaa
open Go.RowKit Go.Shelf Go.Lib Go.Sort

theorem sym_all {w0 : World} {blk N : Nat} (s : Srt w0 blk N) {c : Fin 256 → Int} {g : Nat} {cb : Array Value} (C : Cmp c g cb w0 blk N) (cap : Nat) : ∀ k, SymC c g cb w0 blk N cap k
  | 0 => fun _ X _ _ _ _ _ _ _ _ h1 _ h3 _ _ _ _ _ _ => by omega
  | k + 1 => fun P X Y S a m b ha hm hb h1 h2 h3 hX hY hB hN w hw => by
    by_cases hx : X.length = 1
    · obtain ⟨x, rfl⟩ := List.length_eq_one_iff.1 hx
      exact symOne s C cap P Y S x a m b ha hm hb h2 hY (fun y hy => hB x (List.mem_singleton.2 rfl) y hy) hN w hw
    · by_cases hy : Y.length = 1
      · obtain ⟨y, rfl⟩ := List.length_eq_one_iff.1 hy
        exact symLast s C cap P X S y a m b ha hm hb (by omega) hX (fun x hx => hB x hx y (List.mem_singleton.2 rfl)) hN w hw
      · exact symTwo s C cap k (sym_all s C cap k) P X Y S a m b ha hm hb (by omega) (by omega) h3 hX hY hB hN w hw

section
variable {w0 : World} {blk N : Nat} {c : Fin 256 → Int} {g : Nat} {cb : Array Value} {X D : List (Fin 256)}
/-- The k-th of the first blocks, sorted. -/
theorem ins_block (s : Srt w0 blk N) (C : Cmp c g cb w0 blk N) (cap : Nat) (hX : X.Pairwise (fun x y => x.val < y.val)) (hN : X.length = N) {k a b : Nat} (F : Fst20 c X k D) (ha : a = k * 20) (hb : b = min (a + 20) N) (haN : a ≤ N) (w : World) (h : Sl1 w0 blk D w) :
    Calls Try.prog 72 #[.slice (some ⟨blk, 0, none⟩) N cap, .int .i64 a, .int .i64 b, .func (.func g) #[] cb] w fun e w' => e = .returned (.tuple #[]) ∧ ∃ D', Fst20 c X (k + 1) D' ∧ Sl1 w0 blk D' w' := by
  have hlen := F.len
  have hs := seg_len 20 k X
  have hp := F.parts
  have hp2 : (D.take (k * 20)).length = a := by rw [List.length_take]; omega
  refine (insertion_any s C cap (D.take (k * 20)) (seg 20 k X) (D.drop (k * 20 + 20)) a b hp2 (by omega) (hX.sublist ((List.take_sublist _ _).trans (List.drop_sublist _ _))) (by rw [← hp, hlen, hN]) w (by rw [← hp]; exact h)).mono ?_
  rintro e w' ⟨rfl, Z, hZ, hZp, hw⟩
  exact ⟨rfl, _, F.next (by omega) hZ hZp, hw⟩
/-- Two blocks merged. -/
theorem sym_block (s : Srt w0 blk N) (C : Cmp c g cb w0 blk N) (cap : Nat) (hX : X.Pairwise (fun x y => x.val < y.val)) (hN : X.length = N) {m k a e b : Nat} (F : Mix c X m k D) (hm : 0 < m) (ha : a = 2 * k * m) (he : e = a + m) (hb : b = min (a + 2 * m) N) (heN : e < N) (w : World) (h : Sl1 w0 blk D w) :
    Calls Try.prog 73 #[.slice (some ⟨blk, 0, none⟩) N cap, .int .i64 a, .int .i64 e, .int .i64 b, .func (.func g) #[] cb] w fun e w' => e = .returned (.tuple #[]) ∧ ∃ D', Mix c X m (k + 1) D' ∧ Sl1 w0 blk D' w' := by
  have hlen := F.len
  obtain ⟨P, S, hD, hP, hS⟩ := Mix.parts (m := m) (k := k) D (by omega)
  have l1 := seg_len m (2 * k) D
  have l2 := seg_len m (2 * k + 1) D
  rw [Nat.add_mul, Nat.one_mul] at l2
  rw [← ha] at l1 l2 hP hS
  have hsum : (P ++ ((seg m (2 * k) D ++ seg m (2 * k + 1) D) ++ S)).length = N := by rw [← hD, hlen, hN]
  refine (sym_all s C cap _ P (seg m (2 * k) D) (seg m (2 * k + 1) D) S a e b hP (by omega) (by omega) (by omega) (by omega) (Nat.le_refl _) (F.todo _ (Nat.le_refl _)).2 (F.todo _ (by omega)).2 (two_blocks hX (F.todo _ (Nat.le_refl _)) (F.todo _ (by omega))) hsum w (by rw [← hD]; exact h)).mono ?_
  rintro e w' ⟨rfl, Z, hZ, hZp, hw⟩
  have hZl := hZ.length_eq
  rw [List.length_append] at hZl
  exact ⟨rfl, _, F.next hD (by rw [hP, ha]) hZ hZp (by
    rcases Nat.lt_or_ge N (a + 2 * m) with h1 | h1
    · exact .inr ⟨by omega, List.eq_nil_of_length_eq_zero (by omega)⟩
    · exact .inl (by omega)), hw⟩
/-- A last block that has no other beside it. -/
theorem Mix.last (hN : X.length = N) {m k a : Nat} (F : Mix c X m k D) (ha : a = 2 * k * m) (haN : a ≤ N) (h : N ≤ a + m) : Mix c X m (k + 1) D := by
  have hlen := F.len
  obtain ⟨P, S, hD, hP, hS⟩ := Mix.parts (m := m) (k := k) D (by omega)
  have l1 := seg_len m (2 * k) D
  have l2 := seg_len m (2 * k + 1) D
  rw [Nat.add_mul, Nat.one_mul] at l2
  rw [← ha] at l1 l2
  have hn : seg m (2 * k + 1) D = [] := List.eq_nil_of_length_eq_zero (by omega)
  have := F.next hD hP (List.Perm.refl _) (by rw [hn, List.append_nil]; exact (F.todo _ (Nat.le_refl _)).2) (.inr ⟨by rw [List.length_append]; omega, List.eq_nil_of_length_eq_zero (by omega)⟩)
  rw [← hD] at this
  exact this
end

set_option maxRecDepth 8000 in
set_option maxHeartbeats 8000000 in
theorem stable_any {w0 : World} {blk N : Nat} (s : Srt w0 blk N) {c : Fin 256 → Int} {g : Nat} {cb : Array Value} (C : Cmp c g cb w0 blk N) (cap : Nat) (X : List (Fin 256)) (hX : X.Pairwise (fun x y => x.val < y.val)) (hN : X.length = N) (w : World) (h : Sl1 w0 blk X w) :
    Calls Try.prog 63 #[.slice (some ⟨blk, 0, none⟩) N cap, .int .i64 N, .func (.func g) #[] cb] w fun e w' => e = .returned (.tuple #[]) ∧ ∃ Z : List (Fin 256), Z.Perm X ∧ Z.Pairwise (Tot c) ∧ Sl1 w0 blk Z w' := by
  have hsm := s.small
  have I := Lib.hid (fun (D : List (Fin 256)) (k a b : Nat) (F : Fst20 c X k D) => ins_block (a := a) (b := b) s C cap hX hN F)
  have M := Lib.hid (fun (D : List (Fin 256)) (m k a e b : Nat) (F : Mix c X m k D) => sym_block (a := a) (e := e) (b := b) s C cap hX hN F)
  have ML := Lib.hid (fun (D : List (Fin 256)) (m k a : Nat) (F : Mix c X m k D) => Mix.last (N := N) (a := a) hN F)
  have Hw := Lib.hid h
  have HN := Lib.hid hN
  clear h s C hX hN
  go_enter Try.func63, Try.ntmps63
  go_wp2_with fail
  go_loopw [7, 8] (fun va vb wr => ∃ (k a : Nat) (D : List (Fin 256)), a = k * 20 ∧ va = .int .i64 a ∧ vb = .int .i64 ((a + 20 : Nat) : Int) ∧ a ≤ N ∧ Fst20 c X k D ∧ Sl1 w0 blk D wr) (fun va _ _ => N + 1 - (intOf va).toNat)
  case atStart => exact ⟨0, 0, X, rfl, rfl, rfl, by omega, first20 c X, Hw.out⟩
  case round =>
    obtain ⟨k, a, D, ha, rfl, rfl, haN, hF, hw⟩ := hrel
    have Ha := Lib.hid ha
    have HF := Lib.hid hF
    have Hw2 := Lib.hid hw
    obtain ⟨b, hb⟩ : ∃ b, b = a + 20 := ⟨_, rfl⟩
    rw [← hb]
    have Hb := Lib.hid hb
    clear ha hF hw Hw
    by_cases hgo : b ≤ N
    · have q1 : decide ((b : Int) ≤ (N : Int)) = true := by rw [decide_eq_true_eq]; omega
      have q1' : decide (b ≤ N) = true := by rw [decide_eq_true_eq]; omega
      clear hb
      go_wp2_with (first | (go_at_call 72; refine (I.out D k a b HF.out Ha.out (by have := Hb.out; omega) haN _ Hw2.out).mono ?_; rintro e w' ⟨rfl, D', hF', hw'⟩))
      have HF' := Lib.hid hF'
      have Hw' := Lib.hid hw'
      clear hF' hw'
      go_wp2_with fail
      go_roundw
      case rel => exact ⟨k + 1, b, D', by have := Ha.out; have := Hb.out; omega, rfl, by go_num, hgo, HF'.out, Hw'.out⟩
      case measure => have := Hb.out; simp [intOf]; omega
    · have q1 : decide ((b : Int) ≤ (N : Int)) = false := by rw [decide_eq_false_iff_not]; omega
      have q1' : decide (b ≤ N) = false := by rw [decide_eq_false_iff_not]; omega
      clear hb
      go_wp2_with (first | (go_at_call 72; refine (I.out D k a N HF.out Ha.out (by have := Hb.out; omega) haN _ Hw2.out).mono ?_; rintro e w' ⟨rfl, D', hF', hw'⟩))
      have Mx := Lib.hid (hF'.all (by rw [HN.out]; have := Ha.out; have := Hb.out; omega))
      have Hw' := Lib.hid hw'
      clear hF' hw' q1 q1'
      go_wp2_with fail
      go_loopw [6, 7, 8, 9] (fun vm _ _ _ wr => ∃ (m : Nat) (D : List (Fin 256)), 20 ≤ m ∧ m ≤ 1000 ∧ vm = .int .i64 m ∧ Mix c X m 0 D ∧ Sl1 w0 blk D wr) (fun vm _ _ _ _ => 1000 - (intOf vm).toNat)
      case atStart => exact ⟨20, D', by omega, by omega, rfl, Mx.out, Hw'.out⟩
      case round =>
        obtain ⟨m, D2, hm1, hm2, rfl, hM, hw⟩ := hrel
        have HM := Lib.hid hM
        have Hwm := Lib.hid hw
        clear hM hw Hw' Mx
        by_cases hlt : m < N
        · have hltz : (m : Int) < (N : Int) := by omega
          have p1 : decide ((m : Int) < (N : Int)) = true := by rw [decide_eq_true_eq]; omega
          obtain ⟨m2, hm22⟩ : ∃ m2, m2 = 2 * m := ⟨_, rfl⟩
          have z2 : (2 : Int) * (m : Int) = (m2 : Int) := by omega
          have z2' : (m : Int) * 2 = (m2 : Int) := by omega
          have Hm2 := Lib.hid hm22
          have hm2b : m2 ≤ 600 := by omega
          have hm2c : 40 ≤ m2 := by omega
          clear hm22
          go_wp2_with fail
          go_loopw [7, 8] (fun va vb wr => ∃ (k a : Nat) (D : List (Fin 256)), a = 2 * k * m ∧ va = .int .i64 a ∧ vb = .int .i64 ((a + m2 : Nat) : Int) ∧ a ≤ N ∧ Mix c X m k D ∧ Sl1 w0 blk D wr) (fun va _ _ => N + 1 - (intOf va).toNat)
          case atStart => exact ⟨0, 0, D2, by simp, rfl, by go_num, by omega, HM.out, Hwm.out⟩
          case round =>
            obtain ⟨k3, a3, D3, ha3, rfl, rfl, ha3N, hM3, hw3⟩ := hrel
            have Ha3 := Lib.hid ha3
            have HM3 := Lib.hid hM3
            have Hw3 := Lib.hid hw3
            obtain ⟨b3, hb3⟩ : ∃ b, b = a3 + m2 := ⟨_, rfl⟩
            rw [← hb3]
            have Hb3 := Lib.hid hb3
            obtain ⟨e3, he3⟩ : ∃ e, e = a3 + m := ⟨_, rfl⟩
            have ze : (a3 : Int) + (m : Int) = (e3 : Int) := by omega
            have He3 := Lib.hid he3
            have he3b : e3 ≤ 1500 := by omega
            have Nx := Lib.hid (show a3 + 2 * m = 2 * (k3 + 1) * m by rw [ha3, Nat.mul_add, Nat.add_mul])
            clear ha3 hM3 hw3 HM Hwm he3
            by_cases hgo3 : b3 ≤ N
            · have q1 : decide ((b3 : Int) ≤ (N : Int)) = true := by rw [decide_eq_true_eq]; omega
              have q1' : decide (b3 ≤ N) = true := by rw [decide_eq_true_eq]; omega
              clear hb3
              go_wp2_with (first | (go_at_call 73; refine (M.out D3 m k3 a3 e3 b3 HM3.out (by omega) Ha3.out He3.out (by have := Hb3.out; have := Hm2.out; omega) (by have := He3.out; have := Hb3.out; have := Hm2.out; omega) _ Hw3.out).mono ?_; rintro e w' ⟨rfl, D', hF', hw'⟩))
              have HF' := Lib.hid hF'
              have Hw' := Lib.hid hw'
              clear hF' hw'
              go_wp2_with fail
              go_roundw
              case rel => exact ⟨k3 + 1, b3, D', by rw [← Nx.out, Hb3.out, Hm2.out], rfl, by go_num, hgo3, HF'.out, Hw'.out⟩
              case measure => have := Hb3.out; simp [intOf]; omega
            · have q1 : decide ((b3 : Int) ≤ (N : Int)) = false := by rw [decide_eq_false_iff_not]; omega
              have q1' : decide (b3 ≤ N) = false := by rw [decide_eq_false_iff_not]; omega
              have hend : X.length ≤ (k3 + 1) * (2 * m) := by
                have h1 : 2 * (k3 + 1) * m = (k3 + 1) * (2 * m) := by rw [Nat.mul_comm 2 (k3 + 1), Nat.mul_assoc]
                rw [HN.out, ← h1, ← Nx.out, ← Hm2.out]; omega
              have Hend := Lib.hid hend
              clear hb3 hend
              by_cases hlast : e3 < N
              · have r1 : decide ((e3 : Int) < (N : Int)) = true := by rw [decide_eq_true_eq]; omega
                have r1z : (e3 : Int) < (N : Int) := by omega
                go_wp2_with (first | (go_at_call 73; refine (M.out D3 m k3 a3 e3 N HM3.out (by omega) Ha3.out He3.out (by have := Hb3.out; have := Hm2.out; omega) hlast _ Hw3.out).mono ?_; rintro e w' ⟨rfl, D', hF', hw'⟩))
                have HF' := Lib.hid (hF'.all Hend.out)
                have Hw' := Lib.hid hw'
                clear hF' hw'
                go_wp2_with fail
                go_roundw
                case rel => exact ⟨m2, D', by omega, by omega, by go_num, by rw [Hm2.out]; exact HF'.out, Hw'.out⟩
                case measure => have := Hm2.out; simp [intOf]; omega
              · have r1 : decide ((e3 : Int) < (N : Int)) = false := by rw [decide_eq_false_iff_not]; omega
                have r1z : ¬ (e3 : Int) < (N : Int) := by omega
                have HF' := Lib.hid ((ML.out D3 m k3 a3 HM3.out Ha3.out ha3N (by have := He3.out; omega)).all Hend.out)
                go_wp2_with fail
                go_roundw
                case rel => exact ⟨m2, D3, by omega, by omega, by go_num, by rw [Hm2.out]; exact HF'.out, Hw3.out⟩
                case measure => have := Hm2.out; simp [intOf]; omega
        · have hltz : ¬ (m : Int) < (N : Int) := by omega
          have E := Lib.hid (HM.out.end_ (by rw [HN.out]; omega))
          go_wp2_with fail
          go_end0
          exact ⟨rfl, D2, E.out.1, E.out.2, Hwm.out⟩

set_option maxHeartbeats 1000000 in
theorem sort_any {w0 : World} {blk N : Nat} (s : Srt w0 blk N) {c : Fin 256 → Int} {g : Nat} {cb : Array Value} (C : Cmp c g cb w0 blk N) (cap : Nat) (X : List (Fin 256)) (hX : X.Pairwise (fun x y => x.val < y.val)) (hN : X.length = N) (w : World) (h : Sl1 w0 blk X w) :
    Calls Try.prog 52 #[.slice (some ⟨blk, 0, none⟩) N cap, .func (.func g) #[] cb] w fun e w' => e = .returned (.tuple #[]) ∧ ∃ Z : List (Fin 256), Z.Perm X ∧ Z.Pairwise (Tot c) ∧ Sl1 w0 blk Z w' := by
  have K := Lib.hid (stable_any s C cap X hX hN w h)
  clear s C hX hN h
  go_enter Try.func52, Try.ntmps52
  go_wp2_with (first | (go_at_call 63; refine K.out.mono ?_; rintro e w' ⟨rfl, hw'⟩))
  go_end0
  exact ⟨rfl, hw'⟩
end Go.Proofs.Ytnkgcibdibgmjaa
