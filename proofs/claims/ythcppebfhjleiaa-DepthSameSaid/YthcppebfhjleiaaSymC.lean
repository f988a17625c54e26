/- slices.symMergeCmpFunc: two rows that are in order become one that is. -/
import Derived.Test.YthcppebfhjleiaaSymB
import Derived.Deep.DeepCutAuto
namespace Go.Proofs.Ythcppebfhjleiaa
open Go.RowKit Go.Shelf Go.Lib Go.Sort

theorem pw_at {c : Fin 256 → Int} {l : List (Fin 256)} (h : l.Pairwise (Tot c)) {i j : Nat} (hi : i < l.length) (hj : j < l.length) (hij : i ≤ j) {z : Fin 256} (hz : Tot c l[j] z) : Tot c l[i] z := by
  rcases Nat.lt_or_ge i j with h1 | h1
  · exact (List.pairwise_iff_getElem.1 h i j hi hj h1).trans hz
  · obtain rfl : i = j := by omega
    exact hz
theorem pw_to {c : Fin 256 → Int} {l : List (Fin 256)} (h : l.Pairwise (Tot c)) {i j : Nat} (hi : i < l.length) (hj : j < l.length) (hij : i ≤ j) {z : Fin 256} (hz : Tot c z l[i]) : Tot c z l[j] := by
  rcases Nat.lt_or_ge i j with h1 | h1
  · exact hz.trans (List.pairwise_iff_getElem.1 h i j hi hj h1)
  · obtain rfl : i = j := by omega
    exact hz

/-- Where the two rows are cut, what is before comes before what is behind. -/
theorem split_ok {c : Fin 256 → Int} {X Y : List (Fin 256)} (hX : X.Pairwise (Tot c)) (hY : Y.Pairwise (Tot c)) (hB : ∀ x ∈ X, ∀ y ∈ Y, x.val < y.val) {a m b mid lo hi st en : Nat} (hm : a + X.length = m) (hb : m + Y.length = b)
    (hmid : mid = (a + b) / 2) (hlo : lo = if mid < m then mid + m - b else a) (hhi : hi = if mid < m then mid else m) (hen : en + st = mid + m) (se : Se (fun h => !decide (c (Y.getD (mid + m - 1 - h - m) 0) < c (X.getD (h - a) 0))) lo hi st st) :
    ∀ u ∈ X.take (st - a) ++ Y.take (en - m), ∀ v ∈ X.drop (st - a) ++ Y.drop (en - m), Tot c u v := by
  have h1 := se.l1
  have h2 := se.l2
  intro u hu v hv
  have hst : a ≤ st ∧ st ≤ m ∧ st ≤ mid ∧ m ≤ en ∧ en ≤ b := by split at hlo <;> split at hhi <;> omega
  rcases List.mem_append.1 hu with hu | hu <;> rcases List.mem_append.1 hv with hv | hv
  · obtain ⟨i, hi, rfl⟩ := List.mem_take_iff_getElem.1 hu
    obtain ⟨j, hj, rfl⟩ := List.mem_drop_iff_getElem.1 hv
    exact List.pairwise_iff_getElem.1 hX _ _ _ _ (by omega)
  · obtain ⟨i, hi', rfl⟩ := List.mem_take_iff_getElem.1 hu
    obtain ⟨j, hj, rfl⟩ := List.mem_drop_iff_getElem.1 hv
    have hy := se.yes.resolve_left (by split at hlo <;> omega)
    rw [show mid + m - 1 - (st - 1) - m = en - m by omega, show st - 1 - a = st - a - 1 by omega] at hy
    simp only [Bool.not_eq_true', decide_eq_false_iff_not, List.getD_eq_getElem?_getD] at hy
    rw [List.getElem?_eq_getElem (by omega), List.getElem?_eq_getElem (by omega)] at hy
    simp only [Option.getD_some] at hy
    have h0 := Tot.of_not (hB _ (List.getElem_mem (by omega)) _ (List.getElem_mem (by omega))) hy
    exact pw_at hX (by omega) (by omega) (by omega) (pw_to hY (by omega) (by omega) (by omega) h0)
  · obtain ⟨i, hi', rfl⟩ := List.mem_take_iff_getElem.1 hu
    obtain ⟨j, hj, rfl⟩ := List.mem_drop_iff_getElem.1 hv
    have hn := se.no.resolve_left (by split at hhi <;> omega)
    rw [show mid + m - 1 - st - m = en - m - 1 by omega] at hn
    simp only [Bool.not_eq_false', decide_eq_true_eq, List.getD_eq_getElem?_getD] at hn
    rw [List.getElem?_eq_getElem (by omega), List.getElem?_eq_getElem (by omega)] at hn
    simp only [Option.getD_some] at hn
    have h0 := Tot.of_lt hn
    exact pw_at hY (by omega) (by omega) (by omega) (pw_to hX (by omega) (by omega) (by omega) h0)
  · obtain ⟨i, hi, rfl⟩ := List.mem_take_iff_getElem.1 hu
    obtain ⟨j, hj, rfl⟩ := List.mem_drop_iff_getElem.1 hv
    exact List.pairwise_iff_getElem.1 hY _ _ _ _ (by omega)

/-- What the merge of two rows is held to, up to k elements. -/
def SymC (c : Fin 256 → Int) (g : Nat) (cb : Array Value) (w0 : World) (blk N cap k : Nat) : Prop :=
  ∀ (P X Y S : List (Fin 256)) (a m b : Nat), P.length = a → a + X.length = m → m + Y.length = b → 0 < X.length → 0 < Y.length → X.length + Y.length ≤ k → X.Pairwise (Tot c) → Y.Pairwise (Tot c) → (∀ x ∈ X, ∀ y ∈ Y, x.val < y.val) →
    (P ++ ((X ++ Y) ++ S)).length = N → ∀ w, Sl1 w0 blk (P ++ ((X ++ Y) ++ S)) w →
    Calls Try.prog 30 #[.slice (some ⟨blk, 0, none⟩) N cap, .int .i64 a, .int .i64 m, .int .i64 b, .func (.func g) #[] cb] w fun e w' => e = .returned (.tuple #[]) ∧ ∃ Z : List (Fin 256), Z.Perm (X ++ Y) ∧ Z.Pairwise (Tot c) ∧ Sl1 w0 blk (P ++ (Z ++ S)) w'

set_option maxRecDepth 20000 in
set_option maxHeartbeats 8000000 in
theorem symTwo {w0 : World} {blk N : Nat} (s : Srt w0 blk N) {c : Fin 256 → Int} {g : Nat} {cb : Array Value} (C : Cmp c g cb w0 blk N) (cap : Nat) (k : Nat) (ih : SymC c g cb w0 blk N cap k) (P X Y S : List (Fin 256)) (a m b : Nat) (ha : P.length = a) (hm : a + X.length = m) (hb : m + Y.length = b) (hx : 2 ≤ X.length) (hy : 2 ≤ Y.length) (hk : X.length + Y.length ≤ k + 1)
    (hX : X.Pairwise (Tot c)) (hY : Y.Pairwise (Tot c)) (hB : ∀ x ∈ X, ∀ y ∈ Y, x.val < y.val) (hN : (P ++ ((X ++ Y) ++ S)).length = N) (w : World) (h : Sl1 w0 blk (P ++ ((X ++ Y) ++ S)) w) :
    Calls Try.prog 30 #[.slice (some ⟨blk, 0, none⟩) N cap, .int .i64 a, .int .i64 m, .int .i64 b, .func (.func g) #[] cb] w fun e w' => e = .returned (.tuple #[]) ∧ ∃ Z : List (Fin 256), Z.Perm (X ++ Y) ∧ Z.Pairwise (Tot c) ∧ Sl1 w0 blk (P ++ (Z ++ S)) w' := by
  have hbig := s.small
  have hbn : b ≤ N := by simp at hN; omega
  have Hs := Lib.hid s
  have HC := Lib.hid C
  have Ha := Lib.hid ha
  have Hm := Lib.hid hm
  have Hb := Lib.hid hb
  have HN := Lib.hid hN
  have Hk := Lib.hid hk
  have HX := Lib.hid hX
  have HY := Lib.hid hY
  have HB := Lib.hid hB
  have Ih := Lib.hid ih
  have Hw := Lib.hid h
  have eg := C.enter
  have mixed : Try.prog.follows .mixedOrders = true := by kernel_rfl
  obtain ⟨d1, hd1⟩ : ∃ d, d = X.length := ⟨_, rfl⟩
  obtain ⟨d2, hd2⟩ : ∃ d, d = Y.length := ⟨_, rfl⟩
  have z1 : (m : Int) - (a : Int) = (d1 : Int) := by omega
  have z1b : ((d1 : Int) == 1) = false := by simp; omega
  have z2 : (b : Int) - (m : Int) = (d2 : Int) := by omega
  have z2b : ((d2 : Int) == 1) = false := by simp; omega
  have Hab := Lib.hid (show a + 2 ≤ m ∧ m + 2 ≤ b from by omega)
  have cellX := Lib.hid (show ∀ h, a ≤ h → h < m → (P ++ ((X ++ Y) ++ S)).toArray[h]! = X.getD (h - a) 0 from fun h h1 h2 => by
    obtain ⟨k, rfl⟩ : ∃ k, h = a + k := ⟨h - a, by omega⟩
    rw [show a + k - a = k by omega, List.getD_eq_getElem?_getD, List.getElem?_eq_getElem (by omega)]
    refine arr_at' (P := P ++ X.take k) (S := X.drop (k + 1) ++ (Y ++ S)) ?_ ?_
    · conv => lhs; rw [← List.take_append_drop k X, List.drop_eq_getElem_cons (by omega : k < X.length)]
      simp only [List.append_assoc, List.cons_append, Option.getD_some]
    · simp only [List.length_append, List.length_take]; omega)
  have cellY := Lib.hid (show ∀ h, m ≤ h → h < b → (P ++ ((X ++ Y) ++ S)).toArray[h]! = Y.getD (h - m) 0 from fun h h1 h2 => by
    obtain ⟨k, rfl⟩ : ∃ k, h = m + k := ⟨h - m, by omega⟩
    rw [show m + k - m = k by omega, List.getD_eq_getElem?_getD, List.getElem?_eq_getElem (by omega)]
    refine arr_at' (P := P ++ (X ++ Y.take k)) (S := Y.drop (k + 1) ++ S) ?_ ?_
    · conv => lhs; rw [← List.take_append_drop k Y, List.drop_eq_getElem_cons (by omega : k < Y.length)]
      simp only [List.append_assoc, List.cons_append, Option.getD_some]
    · simp only [List.length_append, List.length_take]; omega)
  clear h s C ha hb hN hX hY hB hx hy hk ih hd1 hd2 hm
  go_enter Try.func30, Try.ntmps30
  go_upto_region 25 with fail
  obtain ⟨mid, hmz, hmid⟩ := half_is a b
  rw [hmz]
  have Hmid := Lib.hid hmid
  have hmb : mid ≤ b := by have := Hab.out; omega
  clear hmz hmid
  obtain ⟨n, hn⟩ : ∃ n : Nat, n = mid + m := ⟨_, rfl⟩
  have zn : (mid : Int) + (m : Int) = (n : Int) := by omega
  have Hn := Lib.hid hn
  clear hn
  go_upto_if 140 with fail
  go_cut [20, 21] from 143 to 146 (fun s r wx => ∃ lo hi : Nat, s = .int .i64 lo ∧ r = .int .i64 hi ∧ lo = (if mid < m then mid + m - b else a) ∧ hi = (if mid < m then mid else m) ∧ wx = w)
  case first =>
    by_cases hgt : mid < m
    · have q1 : decide ((mid : Int) < (m : Int)) = true := by rw [decide_eq_true_eq]; omega
      obtain ⟨lo, hlo⟩ : ∃ lo : Nat, lo = mid + m - b := ⟨_, rfl⟩
      have zlo : (n : Int) - (b : Int) = (lo : Int) := by have := Hn.out; have := Hmid.out; have := Hab.out; omega
      have Hlo := Lib.hid hlo
      clear hlo
      go_wp2_with fail
      go_meet
      exact ⟨lo, mid, rfl, rfl, by rw [if_pos hgt]; exact Hlo.out, by rw [if_pos hgt], rfl⟩
    · have q1 : decide ((mid : Int) < (m : Int)) = false := by rw [decide_eq_false_iff_not]; omega
      go_wp2_with fail
      go_meet
      exact ⟨a, m, rfl, rfl, by rw [if_neg hgt], by rw [if_neg hgt], rfl⟩
  case rest =>
    obtain ⟨lo, hi, rfl, rfl, hlo, hhi, rfl⟩ := hcut
    have Hlo := Lib.hid hlo
    have Hhi := Lib.hid hhi
    have Hnum := Lib.hid (show lo ≤ hi ∧ a ≤ lo ∧ hi ≤ m ∧ hi ≤ mid ∧ (∀ h, lo ≤ h → h < hi → a ≤ h ∧ h < m ∧ m ≤ n - 1 - h ∧ n - 1 - h < b) ∧ (∀ h, lo ≤ h → h ≤ hi → m ≤ n - h ∧ n - h ≤ b) from by
      have := Hab.out; have := Hmid.out; have := Hn.out
      split at hlo <;> split at hhi <;> (refine ⟨by omega, by omega, by omega, by omega, fun h h1 h2 => by omega, fun h h1 h2 => by omega⟩))
    have hloh : lo ≤ hi := Hnum.out.1
    have hhim : hi ≤ m := Hnum.out.2.2.1
    obtain ⟨p, hp⟩ : ∃ p, p + 1 = n := ⟨n - 1, by have := Hn.out; have := Hab.out; omega⟩
    have zp : (n : Int) - 1 = (p : Int) := by omega
    have Hp := Lib.hid hp
    have hpB : p < 512 := by have := Hn.out; have := Hab.out; omega
    clear hlo hhi hp
    go_wp2_with fail
    clear zp zn
    go_loopw [20, 21, 23] (fun vi vj _ wr => ∃ i j : Nat, vi = .int .i64 i ∧ vj = .int .i64 j ∧ Se (fun h => !decide (c (Y.getD (mid + m - 1 - h - m) 0) < c (X.getD (h - a) 0))) lo hi i j ∧ Sl1 w0 blk (P ++ ((X ++ Y) ++ S)) wr) (fun vi vj _ _ => (intOf vj).toNat - (intOf vi).toNat)
    case atStart => exact ⟨lo, hi, rfl, rfl, Se.start _ hloh, Hw.out⟩
    case round =>
      obtain ⟨i, j, rfl, rfl, se, hw⟩ := hrel
      have Se_ := Lib.hid se
      have hi1 := se.l1
      have hi2 := se.mid
      have hi3 := se.l2
      clear se Hw
      by_cases hlt : i < j
      · have hltz : (i : Int) < (j : Int) := by omega
        have Hw := Lib.hid hw
        clear hw
        go_wp2_with fail
        obtain ⟨h, hh, hh2⟩ := half_is i j
        rw [hh]
        have hih : i ≤ h := by omega
        have hhj : h < j := by omega
        obtain ⟨n1, n2, n3, n4⟩ := Hnum.out.2.2.2.2.1 h (by omega) (by omega)
        clear hh hh2
        have hl := HN.out
        obtain ⟨q, hq⟩ : ∃ q, q = n - 1 - h := ⟨_, rfl⟩
        rw [← hq] at n3 n4
        have zq : (p : Int) - (h : Int) = (q : Int) := by have := Hp.out; omega
        have l1 := fun n os => (Hw.out.grown n os).at_ Hs.out hl (i := h) (by omega) (cellX.out h n1 n2)
        have l2 := fun n os => (Hw.out.grown n os).at_ Hs.out hl (i := q) (by omega) (cellY.out q n3 n4)
        have hc := Hw.out.cmp HC.out hl (Y.getD (q - m) 0) (X.getD (h - a) 0)
        have hv := cmpV_neg c (Y.getD (q - m) 0) (X.getD (h - a) 0)
        have Up := Lib.hid (fun hf : decide (c (Y.getD (q - m) 0) < c (X.getD (h - a) 0)) = false => Se_.out.up hih hhj (show (!decide (c (Y.getD (mid + m - 1 - h - m) 0) < c (X.getD (h - a) 0))) = true by rw [show mid + m - 1 - h = q by rw [hq, Hn.out], hf]; rfl))
        have Dn := Lib.hid (fun hf : decide (c (Y.getD (q - m) 0) < c (X.getD (h - a) 0)) = true => Se_.out.down hih hhj (show (!decide (c (Y.getD (mid + m - 1 - h - m) 0) < c (X.getD (h - a) 0))) = false by rw [show mid + m - 1 - h = q by rw [hq, Hn.out], hf]; rfl))
        rw [← hv] at Up Dn
        clear hv
        generalize X.getD (h - a) 0 = x at *
        generalize Y.getD (q - m) 0 = y at *
        generalize cmpV c y x = r at *
        have hhz : (0 : Int) ≤ (h : Int) ∧ (h : Int) < (N : Int) := by omega
        have hqz : (0 : Int) ≤ (q : Int) ∧ (q : Int) < (N : Int) := by omega
        have wq : IntKind.i64.wrap (q : Int) = (q : Int) := by rw [IntKind.wrap_i64]; omega
        clear cellX cellY Se_ hq hl n1 n2 n3 n4 Hnum
        by_cases hf : r < 0
        · have hfd : decide (r < 0) = true := decide_eq_true hf
          clear hf
          go_quiet_grown (first | (go_at_fn g; refine Calls.grown_of (hc _ _)))
          have S2 := Lib.hid (Hw.out.grown nq osq)
          clear Hw l1 l2 hc
          generalize grow (wr.drewN nq) osq = w2 at S2 ⊢
          clear nq osq
          go_wp2_with fail
          go_roundw
          case rel => exact ⟨i, h, rfl, rfl, Dn.out hfd, S2.out⟩
          case measure => simp [intOf]; omega
        · have hfd : decide (r < 0) = false := decide_eq_false hf
          clear hf
          go_quiet_grown (first | (go_at_fn g; refine Calls.grown_of (hc _ _)))
          have S2 := Lib.hid (Hw.out.grown nq osq)
          clear Hw l1 l2 hc
          generalize grow (wr.drewN nq) osq = w2 at S2 ⊢
          clear nq osq
          go_wp2_with fail
          go_roundw
          case rel => exact ⟨h + 1, j, by go_num, rfl, Up.out hfd, S2.out⟩
          case measure => simp [intOf]; omega
      · have hltz : ¬ (i : Int) < (j : Int) := by omega
        obtain rfl : i = j := by omega
        obtain ⟨en, hen⟩ : ∃ en : Nat, en = n - i := ⟨_, rfl⟩
        have n1 := Hnum.out.2.2.2.2.2 i (by omega) (by omega)
        rw [← hen] at n1
        have zen : (n : Int) - (i : Int) = (en : Int) := by have := Hn.out; omega
        have hai : a ≤ i := by have := Hnum.out.2.1; omega
        have him : i ≤ m := by omega
        have himid : i ≤ mid := by have := Hnum.out.2.2.2.1; omega
        have Sp := Lib.hid (split_ok HX.out HY.out HB.out Hm.out Hb.out Hmid.out Hlo.out Hhi.out (st := i) (en := en) (by have := Hn.out; omega) Se_.out)
        have hsum : en + i = mid + m := by have := Hn.out; omega
        have Hw := Lib.hid hw
        obtain ⟨X1, hX1⟩ : ∃ l, l = X.take (i - a) := ⟨_, rfl⟩
        obtain ⟨X2, hX2⟩ : ∃ l, l = X.drop (i - a) := ⟨_, rfl⟩
        obtain ⟨Y1, hY1⟩ : ∃ l, l = Y.take (en - m) := ⟨_, rfl⟩
        obtain ⟨Y2, hY2⟩ : ∃ l, l = Y.drop (en - m) := ⟨_, rfl⟩
        have eX : X1 ++ X2 = X := by rw [hX1, hX2]; exact List.take_append_drop _ _
        have eY : Y1 ++ Y2 = Y := by rw [hY1, hY2]; exact List.take_append_drop _ _
        have x1 : X1.length = i - a := by rw [hX1, List.length_take]; have := Hm.out; omega
        have x2 : X2.length = m - i := by rw [hX2, List.length_drop]; have := Hm.out; omega
        have y1 : Y1.length = en - m := by rw [hY1, List.length_take]; have := Hb.out; omega
        have y2 : Y2.length = b - en := by rw [hY2, List.length_drop]; have := Hb.out; omega
        rw [← hX1, ← hX2, ← hY1, ← hY2] at Sp
        clear hX1 hX2 hY1 hY2 hw Hlo Hhi cellX cellY Hnum Se_
        have hN2 : (P ++ (X1 ++ (X2 ++ (Y1 ++ (Y2 ++ S))))).length = N := by have := HN.out; rw [← eX, ← eY] at this; simpa using this
        have Hw1 := Lib.hid (show Sl1 w0 blk (P ++ (X1 ++ (X2 ++ (Y1 ++ (Y2 ++ S))))) wr by have := Hw.out; rw [← eX, ← eY] at this; simpa using this)
        have Kr := Lib.hid (fun (h1 : i < m) (h2 : m < en) => rotate_any Hs.out cap (.func (.func g) #[] cb) (P ++ X1) X2 Y1 (Y2 ++ S) i m en (by rw [List.length_append, Ha.out]; omega) (by omega) (by omega) (by omega) (by omega) (by simpa using hN2) wr (by simpa using Hw1.out))
        have pX1 : X1.Pairwise (Tot c) := by have := HX.out; rw [← eX] at this; exact (List.pairwise_append.1 this).1
        have pX2 : X2.Pairwise (Tot c) := by have := HX.out; rw [← eX] at this; exact (List.pairwise_append.1 this).2.1
        have pY1 : Y1.Pairwise (Tot c) := by have := HY.out; rw [← eY] at this; exact (List.pairwise_append.1 this).1
        have pY2 : Y2.Pairwise (Tot c) := by have := HY.out; rw [← eY] at this; exact (List.pairwise_append.1 this).2.1
        have bb : ∀ x ∈ X1 ++ X2, ∀ y ∈ Y1 ++ Y2, x.val < y.val := by rw [eX, eY]; exact HB.out
        have hPm : (P ++ X1 ++ Y1).length = mid := by rw [List.length_append, List.length_append, Ha.out]; omega
        have K1 := Lib.hid (fun (h1 : a < i) (h2 : i < mid) => Ih.out P X1 Y1 (X2 ++ (Y2 ++ S)) a i mid Ha.out (by omega) (by omega) (by omega) (by omega) (by have := Hk.out; have := Hb.out; have := Hm.out; have := Hab.out; have := Hmid.out; omega) pX1 pY1 (fun x hx y hy => bb x (List.mem_append_left _ hx) y (List.mem_append_left _ hy)) (by have := hN2; simp at *; omega))
        have K2 := Lib.hid (fun (h1 : mid < en) (h2 : en < b) (Z : List (Fin 256)) (hZ : Z.Perm (X1 ++ Y1)) => Ih.out (P ++ Z) X2 Y2 S mid en b (by rw [List.length_append, hZ.length_eq, ← hPm]; simp) (by omega) (by omega) (by omega) (by omega) (by have := Hk.out; have := Hb.out; have := Hm.out; have := Hab.out; have := Hmid.out; omega) pX2 pY2 (fun x hx y hy => bb x (List.mem_append_right _ hx) y (List.mem_append_right _ hy)) (by have := hN2; have := hZ.length_eq; simp at *; omega))
        have hd1' : mid < en ∨ X2 = [] := by
          rcases Nat.lt_or_ge mid en with h | h
          · exact .inl h
          · exact .inr (List.eq_nil_of_length_eq_zero (by omega))
        have Nil1 := Lib.hid (show ¬ (a < i ∧ i < mid) → X1 = [] ∨ Y1 = [] from fun h => by
          by_cases h1 : a < i
          · exact .inr (List.eq_nil_of_length_eq_zero (by omega))
          · exact .inl (List.eq_nil_of_length_eq_zero (by omega)))
        have Nil2 := Lib.hid (show ¬ (mid < en ∧ en < b) → X2 = [] ∨ Y2 = [] from fun h => by
          by_cases h1 : mid < en
          · exact .inr (List.eq_nil_of_length_eq_zero (by omega))
          · exact .inl (List.eq_nil_of_length_eq_zero (by omega)))
        have NilR := Lib.hid (show ¬ (i < m ∧ m < en) → X2 ++ Y1 = Y1 ++ X2 from fun h => by
          by_cases h1 : i < m
          · rw [List.eq_nil_of_length_eq_zero (show Y1.length = 0 by omega)]; simp
          · rw [List.eq_nil_of_length_eq_zero (show X2.length = 0 by omega)]; simp)
        have E := Lib.hid (show (X1 ++ Y1 ++ (X2 ++ Y2)).Perm (X ++ Y) from by
          rw [← eX, ← eY]
          have : (Y1 ++ X2).Perm (X2 ++ Y1) := List.perm_append_comm
          simpa using (this.append_right Y2).append_left X1)
        have hb512 : en ≤ 512 := by omega
        have hsX := Lib.hid (show (X1.Pairwise (Tot c) ∧ X2.Pairwise (Tot c)) ∧ Y1.Pairwise (Tot c) ∧ Y2.Pairwise (Tot c) from ⟨⟨pX1, pX2⟩, pY1, pY2⟩)
        clear eX eY x1 x2 y1 y2 hN2 Hw pX1 pX2 pY1 pY2 bb hPm hd1' hlt hi2 Hn hsum hen
        obtain ⟨B, hB'⟩ : ∃ B : Bool, B = decide (i < m ∧ m < en) := ⟨_, rfl⟩
        go_upto_region 39 with fail
        go_cut [185] from 178 to 185 (fun v wx => v = .bool B ∧ wx = wr)
        case first =>
          by_cases h1 : i < m
          · have q1 : decide (((i : Nat) : Int) < ((m : Nat) : Int)) = true := by rw [decide_eq_true_eq]; omega
            by_cases h2 : m < en
            · have q2 : decide (((m : Nat) : Int) < ((en : Nat) : Int)) = true := by rw [decide_eq_true_eq]; omega
              have hd : B = true := by rw [hB', decide_eq_true_eq]; exact ⟨h1, h2⟩
              have Hd := Lib.hid hd
              clear hd hB'
              go_wp2_with fail
              go_meet
              exact ⟨by rw [Hd.out], rfl⟩
            · have q2 : decide (((m : Nat) : Int) < ((en : Nat) : Int)) = false := by rw [decide_eq_false_iff_not]; omega
              have hd : B = false := by rw [hB', decide_eq_false_iff_not]; exact fun h => h2 h.2
              have Hd := Lib.hid hd
              clear hd hB'
              go_wp2_with fail
              go_meet
              exact ⟨by rw [Hd.out], rfl⟩
          · have q1 : decide (((i : Nat) : Int) < ((m : Nat) : Int)) = false := by rw [decide_eq_false_iff_not]; omega
            have hd : B = false := by rw [hB', decide_eq_false_iff_not]; exact fun h => h1 h.1
            have Hd := Lib.hid hd
            clear hd hB'
            go_wp2_with fail
            go_meet
            exact ⟨by rw [Hd.out], rfl⟩
        case rest =>
        obtain ⟨rfl, rfl⟩ := hcut
        have HBd := Lib.hid hB'
        clear hB'
        go_upto_if 185 with fail
        go_cut [] from 186 to 191 (fun wx => Sl1 w0 blk (P ++ (X1 ++ (Y1 ++ (X2 ++ (Y2 ++ S))))) wx)
        case first =>
          cases B with
          | true =>
            have hc := of_decide_eq_true HBd.out.symm
            go_wp2_with (first
              | (go_at_call 31; refine (Kr.out hc.1 hc.2).mono ?_; rintro e w' ⟨rfl, hw'⟩))
            go_meet
            simpa using hw'
          | false =>
            have hc := of_decide_eq_false HBd.out.symm
            have hq := Hw1.out
            rw [← List.append_assoc X2, NilR.out hc, List.append_assoc Y1] at hq
            have Hq := Lib.hid hq
            clear hq
            go_wp2_with fail
            go_meet
            exact Hq.out
        case rest =>
        have Hw2 := Lib.hid hcut
        clear HBd hcut Kr Hw1 NilR
        obtain ⟨B, hB'⟩ : ∃ B : Bool, B = decide (a < i ∧ i < mid) := ⟨_, rfl⟩
        go_upto_region 41 with fail
        go_cut [199] from 192 to 199 (fun v wx => v = .bool B ∧ wx = wc)
        case first =>
          by_cases h1 : a < i
          · have q1 : decide (((a : Nat) : Int) < ((i : Nat) : Int)) = true := by rw [decide_eq_true_eq]; omega
            by_cases h2 : i < mid
            · have q2 : decide (((i : Nat) : Int) < ((mid : Nat) : Int)) = true := by rw [decide_eq_true_eq]; omega
              have hd : B = true := by rw [hB', decide_eq_true_eq]; exact ⟨h1, h2⟩
              have Hd := Lib.hid hd
              clear hd hB'
              go_wp2_with fail
              go_meet
              exact ⟨by rw [Hd.out], rfl⟩
            · have q2 : decide (((i : Nat) : Int) < ((mid : Nat) : Int)) = false := by rw [decide_eq_false_iff_not]; omega
              have hd : B = false := by rw [hB', decide_eq_false_iff_not]; exact fun h => h2 h.2
              have Hd := Lib.hid hd
              clear hd hB'
              go_wp2_with fail
              go_meet
              exact ⟨by rw [Hd.out], rfl⟩
          · have q1 : decide (((a : Nat) : Int) < ((i : Nat) : Int)) = false := by rw [decide_eq_false_iff_not]; omega
            have hd : B = false := by rw [hB', decide_eq_false_iff_not]; exact fun h => h1 h.1
            have Hd := Lib.hid hd
            clear hd hB'
            go_wp2_with fail
            go_meet
            exact ⟨by rw [Hd.out], rfl⟩
        case rest =>
        obtain ⟨rfl, rfl⟩ := hcut
        have HBd := Lib.hid hB'
        clear hB'
        go_upto_if 199 with fail
        go_cut [] from 200 to 205 (fun wx => ∃ Z1 : List (Fin 256), Z1.Perm (X1 ++ Y1) ∧ Z1.Pairwise (Tot c) ∧ Sl1 w0 blk (P ++ (Z1 ++ (X2 ++ (Y2 ++ S)))) wx)
        case first =>
          cases B with
          | true =>
            have hc := of_decide_eq_true HBd.out.symm
            go_wp2_with (first
              | (go_at_call 30; refine (K1.out hc.1 hc.2 _ (by simpa using Hw2.out)).mono ?_; rintro e w' ⟨rfl, hw'⟩))
            go_meet
            exact hw'
          | false =>
            have hc := of_decide_eq_false HBd.out.symm
            have hq := Hw2.out
            have Hq := Lib.hid (show ∃ Z1 : List (Fin 256), Z1.Perm (X1 ++ Y1) ∧ Z1.Pairwise (Tot c) ∧ Sl1 w0 blk (P ++ (Z1 ++ (X2 ++ (Y2 ++ S)))) _ from ⟨X1 ++ Y1, List.Perm.refl _, by
              rcases Nil1.out hc with h | h
              · rw [h]; exact hsX.out.2.1
              · rw [h, List.append_nil]; exact hsX.out.1.1, by simpa using hq⟩)
            clear hq
            go_wp2_with fail
            go_meet
            exact Hq.out
        case rest =>
        obtain ⟨Z1, hz1, hz2, hz3⟩ := hcut
        have Hz := Lib.hid (⟨hz1, hz2⟩ : Z1.Perm (X1 ++ Y1) ∧ Z1.Pairwise (Tot c))
        have Hw3 := Lib.hid hz3
        clear HBd hz1 hz2 hz3 K1 Hw2 Nil1
        have End := Lib.hid (show ∀ (w' : World) (Z2 : List (Fin 256)), Z2.Perm (X2 ++ Y2) → Z2.Pairwise (Tot c) → Sl1 w0 blk (P ++ (Z1 ++ (Z2 ++ S))) w' → Ending.returned (.tuple #[]) = Ending.returned (.tuple #[]) ∧ ∃ Z : List (Fin 256), Z.Perm (X ++ Y) ∧ Z.Pairwise (Tot c) ∧ Sl1 w0 blk (P ++ (Z ++ S)) w' from fun w' Z2 hz1 hz2 hz3 =>
          ⟨rfl, Z1 ++ Z2, (Hz.out.1.append hz1).trans E.out, by
            rw [List.pairwise_append]
            exact ⟨Hz.out.2, hz2, fun u hu v hv => Sp.out u (Hz.out.1.mem_iff.1 hu) v (hz1.mem_iff.1 hv)⟩, by simpa using hz3⟩)
        obtain ⟨B, hB'⟩ : ∃ B : Bool, B = decide (mid < en ∧ en < b) := ⟨_, rfl⟩
        go_upto_region 43 with fail
        go_cut [213] from 206 to 213 (fun v wx => v = .bool B ∧ wx = wc)
        case first =>
          by_cases h1 : mid < en
          · have q1 : decide (((mid : Nat) : Int) < ((en : Nat) : Int)) = true := by rw [decide_eq_true_eq]; omega
            by_cases h2 : en < b
            · have q2 : decide (((en : Nat) : Int) < ((b : Nat) : Int)) = true := by rw [decide_eq_true_eq]; omega
              have hd : B = true := by rw [hB', decide_eq_true_eq]; exact ⟨h1, h2⟩
              have Hd := Lib.hid hd
              clear hd hB'
              go_wp2_with fail
              go_meet
              exact ⟨by rw [Hd.out], rfl⟩
            · have q2 : decide (((en : Nat) : Int) < ((b : Nat) : Int)) = false := by rw [decide_eq_false_iff_not]; omega
              have hd : B = false := by rw [hB', decide_eq_false_iff_not]; exact fun h => h2 h.2
              have Hd := Lib.hid hd
              clear hd hB'
              go_wp2_with fail
              go_meet
              exact ⟨by rw [Hd.out], rfl⟩
          · have q1 : decide (((mid : Nat) : Int) < ((en : Nat) : Int)) = false := by rw [decide_eq_false_iff_not]; omega
            have hd : B = false := by rw [hB', decide_eq_false_iff_not]; exact fun h => h1 h.1
            have Hd := Lib.hid hd
            clear hd hB'
            go_wp2_with fail
            go_meet
            exact ⟨by rw [Hd.out], rfl⟩
        case rest =>
        obtain ⟨rfl, rfl⟩ := hcut
        have HBd := Lib.hid hB'
        clear hB'
        cases B with
        | true =>
          have hc := of_decide_eq_true HBd.out.symm
          go_wp2_with (first
            | (go_at_call 30; refine (K2.out hc.1 hc.2 Z1 Hz.out.1 _ (by simpa using Hw3.out)).mono ?_; rintro e w' ⟨rfl, Z2, hz1, hz2, hz3⟩))
          go_end0
          exact ⟨rfl, (End.out _ Z2 hz1 hz2 (by simpa using hz3)).2⟩
        | false =>
          have hc := of_decide_eq_false HBd.out.symm
          have hq := Lib.hid (End.out _ (X2 ++ Y2) (List.Perm.refl _) (by
              rcases Nil2.out hc with h | h
              · rw [h]; exact hsX.out.2.2
              · rw [h, List.append_nil]; exact hsX.out.1.2) (by simpa using Hw3.out))
          go_wp2_with fail
          go_end0
          exact ⟨rfl, hq.out.2⟩
end Go.Proofs.Ythcppebfhjleiaa
