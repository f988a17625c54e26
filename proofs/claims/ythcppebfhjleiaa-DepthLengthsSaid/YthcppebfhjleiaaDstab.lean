/- slices.stableCmpFunc, slices.SortStableFunc. -/
import Derived.Test.YthcppebfhjleiaaStab
namespace Go.Proofs.Ythcppebfhjleiaa
open Go.RowKit Go.Shelf Go.Lib Go.Sort

theorem sym_all {w0 : World} {blk N : Nat} (s : Srt w0 blk N) {c : Fin 256 → Int} {g : Nat} {cb : Array Value} (C : Cmp c g cb w0 blk N) (cap : Nat) : ∀ k, SymC c g cb w0 blk N cap k
  | 0 => fun _ X _ _ _ _ _ _ _ _ h1 _ h3 _ _ _ _ _ _ => by omega
  | k + 1 => fun P X Y S a m b ha hm hb h1 h2 h3 hX hY hB hN w hw => by
    by_cases hx : X.length = 1
    · obtain ⟨x, rfl⟩ := List.length_eq_one_iff.1 hx
      exact symOne s C cap P Y S x a m b ha hm hb h2 hY (fun y hy => hB x (List.mem_singleton.2 rfl) y hy) hN w hw
    · by_cases hy : Y.length = 1
      · obtain ⟨y, rfl⟩ := List.length_eq_one_iff.1 hy
        exact symLast s C cap P X S y a m b ha hm hb (by omega) hX (fun x hx => hB x hx y (List.mem_singleton.2 rfl)) hN w hw
      · exact symTwo s C cap k (sym_all s C cap k) P X Y S a m b ha hm hb (by omega) (by omega) h3 hX hY hB hN w hw

section
variable {w0 : World} {blk N : Nat} {c : Fin 256 → Int} {g : Nat} {cb : Array Value} {X D : List (Fin 256)}
/-- The k-th of the first blocks, sorted. -/
theorem ins_block (s : Srt w0 blk N) (C : Cmp c g cb w0 blk N) (cap : Nat) (hX : X.Pairwise (fun x y => x.val < y.val)) (hN : X.length = N) {k a b : Nat} (F : Fst20 c X k D) (ha : a = k * 20) (hb : b = min (a + 20) N) (haN : a ≤ N) (w : World) (h : Sl1 w0 blk D w) :
    Calls Try.prog 29 #[.slice (some ⟨blk, 0, none⟩) N cap, .int .i64 a, .int .i64 b, .func (.func g) #[] cb] w fun e w' => e = .returned (.tuple #[]) ∧ ∃ D', Fst20 c X (k + 1) D' ∧ Sl1 w0 blk D' w' := by
  have hlen := F.len
  have hs := seg_len 20 k X
  have hp := F.parts
  have hp2 : (D.take (k * 20)).length = a := by rw [List.length_take]; omega
  refine (insertion_any s C cap (D.take (k * 20)) (seg 20 k X) (D.drop (k * 20 + 20)) a b hp2 (by omega) (hX.sublist ((List.take_sublist _ _).trans (List.drop_sublist _ _))) (by rw [← hp, hlen, hN]) w (by rw [← hp]; exact h)).mono ?_
  rintro e w' ⟨rfl, Z, hZ, hZp, hw⟩
  exact ⟨rfl, _, F.next (by omega) hZ hZp, hw⟩
/-- Two blocks merged. -/
theorem sym_block (s : Srt w0 blk N) (C : Cmp c g cb w0 blk N) (cap : Nat) (hX : X.Pairwise (fun x y => x.val < y.val)) (hN : X.length = N) {m k a e b : Nat} (F : Mix c X m k D) (hm : 0 < m) (ha : a = 2 * k * m) (he : e = a + m) (hb : b = min (a + 2 * m) N) (heN : e < N) (w : World) (h : Sl1 w0 blk D w) :
    Calls Try.prog 30 #[.slice (some ⟨blk, 0, none⟩) N cap, .int .i64 a, .int .i64 e, .int .i64 b, .func (.func g) #[] cb] w fun e w' => e = .returned (.tuple #[]) ∧ ∃ D', Mix c X m (k + 1) D' ∧ Sl1 w0 blk D' w' := by
  have hlen := F.len
  obtain ⟨P, S, hD, hP, hS⟩ := Mix.parts (m := m) (k := k) D (by omega)
  have l1 := seg_len m (2 * k) D
  have l2 := seg_len m (2 * k + 1) D
  rw [Nat.add_mul, Nat.one_mul] at l2
  rw [← ha] at l1 l2 hP hS
  have hsum : (P ++ ((seg m (2 * k) D ++ seg m (2 * k + 1) D) ++ S)).length = N := by rw [← hD, hlen, hN]
  refine (sym_all s C cap _ P (seg m (2 * k) D) (seg m (2 * k + 1) D) S a e b hP (by omega) (by omega) (by omega) (by omega) (Nat.le_refl _) (F.todo _ (Nat.le_refl _)).2 (F.todo _ (by omega)).2 (two_blocks hX (F.todo _ (Nat.le_refl _)) (F.todo _ (by omega))) hsum w (by rw [← hD]; exact h)).mono ?_
  rintro e w' ⟨rfl, Z, hZ, hZp, hw⟩
  have hZl := hZ.length_eq
  rw [List.length_append] at hZl
  exact ⟨rfl, _, F.next hD (by rw [hP, ha]) hZ hZp (by
    rcases Nat.lt_or_ge N (a + 2 * m) with h1 | h1
    · exact .inr ⟨by omega, List.eq_nil_of_length_eq_zero (by omega)⟩
    · exact .inl (by omega)), hw⟩
/-- A last block that has no other beside it. -/
theorem Mix.last (hN : X.length = N) {m k a : Nat} (F : Mix c X m k D) (ha : a = 2 * k * m) (haN : a ≤ N) (h : N ≤ a + m) : Mix c X m (k + 1) D := by
  have hlen := F.len
  obtain ⟨P, S, hD, hP, hS⟩ := Mix.parts (m := m) (k := k) D (by omega)
  have l1 := seg_len m (2 * k) D
  have l2 := seg_len m (2 * k + 1) D
  rw [Nat.add_mul, Nat.one_mul] at l2
  rw [← ha] at l1 l2
  have hn : seg m (2 * k + 1) D = [] := List.eq_nil_of_length_eq_zero (by omega)
  have := F.next hD hP (List.Perm.refl _) (by rw [hn, List.append_nil]; exact (F.todo _ (Nat.le_refl _)).2) (.inr ⟨by rw [List.length_append]; omega, List.eq_nil_of_length_eq_zero (by omega)⟩)
  rw [← hD] at this
  exact this
end

set_option maxRecDepth 8000 in
set_option maxHeartbeats 8000000 in
theorem stable_any {w0 : World} {blk N : Nat} (s : Srt w0 blk N) {c : Fin 256 → Int} {g : Nat} {cb : Array Value} (C : Cmp c g cb w0 blk N) (cap : Nat) (X : List (Fin 256)) (hX : X.Pairwise (fun x y => x.val < y.val)) (hN : X.length = N) (w : World) (h : Sl1 w0 blk X w) :
    Calls Try.prog 26 #[.slice (some ⟨blk, 0, none⟩) N cap, .int .i64 N, .func (.func g) #[] cb] w fun e w' => e = .returned (.tuple #[]) ∧ ∃ Z : List (Fin 256), Z.Perm X ∧ Z.Pairwise (Tot c) ∧ Sl1 w0 blk Z w' := by
  have hsm := s.small
  have I := Lib.hid (fun (D : List (Fin 256)) (k a b : Nat) (F : Fst20 c X k D) => ins_block (a := a) (b := b) s C cap hX hN F)
  have M := Lib.hid (fun (D : List (Fin 256)) (m k a e b : Nat) (F : Mix c X m k D) => sym_block (a := a) (e := e) (b := b) s C cap hX hN F)
  have ML := Lib.hid (fun (D : List (Fin 256)) (m k a : Nat) (F : Mix c X m k D) => Mix.last (N := N) (a := a) hN F)
  have Hw := Lib.hid h
  have HN := Lib.hid hN
  clear h s C hX hN
  go_enter Try.func26, Try.ntmps26
  go_wp2_with fail
  go_loopw [7, 8] (fun va vb wr => ∃ (k a : Nat) (D : List (Fin 256)), a = k * 20 ∧ va = .int .i64 a ∧ vb = .int .i64 ((a + 20 : Nat) : Int) ∧ a ≤ N ∧ Fst20 c X k D ∧ Sl1 w0 blk D wr) (fun va _ _ => N + 1 - (intOf va).toNat)
  case atStart => exact ⟨0, 0, X, rfl, rfl, rfl, by omega, first20 c X, Hw.out⟩
  case round =>
    obtain ⟨k, a, D, ha, rfl, rfl, haN, hF, hw⟩ := hrel
    have Ha := Lib.hid ha
    have HF := Lib.hid hF
    have Hw2 := Lib.hid hw
    obtain ⟨b, hb⟩ : ∃ b, b = a + 20 := ⟨_, rfl⟩
    rw [← hb]
    have Hb := Lib.hid hb
    clear ha hF hw Hw
    by_cases hgo : b ≤ N
    · have q1 : decide ((b : Int) ≤ (N : Int)) = true := by rw [decide_eq_true_eq]; omega
      have q1' : decide (b ≤ N) = true := by rw [decide_eq_true_eq]; omega
      clear hb
      go_wp2_with (first | (go_at_call 29; refine (I.out D k a b HF.out Ha.out (by have := Hb.out; omega) haN _ Hw2.out).mono ?_; rintro e w' ⟨rfl, D', hF', hw'⟩))
      have HF' := Lib.hid hF'
      have Hw' := Lib.hid hw'
      clear hF' hw'
      go_wp2_with fail
      go_roundw
      case rel => exact ⟨k + 1, b, D', by have := Ha.out; have := Hb.out; omega, rfl, by go_num, hgo, HF'.out, Hw'.out⟩
      case measure => have := Hb.out; simp [intOf]; omega
    · have q1 : decide ((b : Int) ≤ (N : Int)) = false := by rw [decide_eq_false_iff_not]; omega
      have q1' : decide (b ≤ N) = false := by rw [decide_eq_false_iff_not]; omega
      clear hb
      go_wp2_with (first | (go_at_call 29; refine (I.out D k a N HF.out Ha.out (by have := Hb.out; omega) haN _ Hw2.out).mono ?_; rintro e w' ⟨rfl, D', hF', hw'⟩))
      have Mx := Lib.hid (hF'.all (by rw [HN.out]; have := Ha.out; have := Hb.out; omega))
      have Hw' := Lib.hid hw'
      clear hF' hw' q1 q1'
      go_wp2_with fail
      go_loopw [6, 7, 8, 9] (fun vm _ _ _ wr => ∃ (m : Nat) (D : List (Fin 256)), 20 ≤ m ∧ m ≤ 1000 ∧ vm = .int .i64 m ∧ Mix c X m 0 D ∧ Sl1 w0 blk D wr) (fun vm _ _ _ _ => 1000 - (intOf vm).toNat)
      case atStart => exact ⟨20, D', by omega, by omega, rfl, Mx.out, Hw'.out⟩
      case round =>
        obtain ⟨m, D2, hm1, hm2, rfl, hM, hw⟩ := hrel
        have HM := Lib.hid hM
        have Hwm := Lib.hid hw
        clear hM hw Hw' Mx
        by_cases hlt : m < N
        · have hltz : (m : Int) < (N : Int) := by omega
          have p1 : decide ((m : Int) < (N : Int)) = true := by rw [decide_eq_true_eq]; omega
          obtain ⟨m2, hm22⟩ : ∃ m2, m2 = 2 * m := ⟨_, rfl⟩
          have z2 : (2 : Int) * (m : Int) = (m2 : Int) := by omega
          have z2' : (m : Int) * 2 = (m2 : Int) := by omega
          have Hm2 := Lib.hid hm22
          have hm2b : m2 ≤ 600 := by omega
          have hm2c : 40 ≤ m2 := by omega
          clear hm22
          go_wp2_with fail
          go_loopw [7, 8] (fun va vb wr => ∃ (k a : Nat) (D : List (Fin 256)), a = 2 * k * m ∧ va = .int .i64 a ∧ vb = .int .i64 ((a + m2 : Nat) : Int) ∧ a ≤ N ∧ Mix c X m k D ∧ Sl1 w0 blk D wr) (fun va _ _ => N + 1 - (intOf va).toNat)
          case atStart => exact ⟨0, 0, D2, by simp, rfl, by go_num, by omega, HM.out, Hwm.out⟩
          case round =>
            obtain ⟨k3, a3, D3, ha3, rfl, rfl, ha3N, hM3, hw3⟩ := hrel
            have Ha3 := Lib.hid ha3
            have HM3 := Lib.hid hM3
            have Hw3 := Lib.hid hw3
            obtain ⟨b3, hb3⟩ : ∃ b, b = a3 + m2 := ⟨_, rfl⟩
            rw [← hb3]
            have Hb3 := Lib.hid hb3
            obtain ⟨e3, he3⟩ : ∃ e, e = a3 + m := ⟨_, rfl⟩
            have ze : (a3 : Int) + (m : Int) = (e3 : Int) := by omega
            have He3 := Lib.hid he3
            have he3b : e3 ≤ 1500 := by omega
            have Nx := Lib.hid (show a3 + 2 * m = 2 * (k3 + 1) * m by rw [ha3, Nat.mul_add, Nat.add_mul])
            clear ha3 hM3 hw3 HM Hwm he3
            by_cases hgo3 : b3 ≤ N
            · have q1 : decide ((b3 : Int) ≤ (N : Int)) = true := by rw [decide_eq_true_eq]; omega
              have q1' : decide (b3 ≤ N) = true := by rw [decide_eq_true_eq]; omega
              clear hb3
              go_wp2_with (first | (go_at_call 30; refine (M.out D3 m k3 a3 e3 b3 HM3.out (by omega) Ha3.out He3.out (by have := Hb3.out; have := Hm2.out; omega) (by have := He3.out; have := Hb3.out; have := Hm2.out; omega) _ Hw3.out).mono ?_; rintro e w' ⟨rfl, D', hF', hw'⟩))
              have HF' := Lib.hid hF'
              have Hw' := Lib.hid hw'
              clear hF' hw'
              go_wp2_with fail
              go_roundw
              case rel => exact ⟨k3 + 1, b3, D', by rw [← Nx.out, Hb3.out, Hm2.out], rfl, by go_num, hgo3, HF'.out, Hw'.out⟩
              case measure => have := Hb3.out; simp [intOf]; omega
            · have q1 : decide ((b3 : Int) ≤ (N : Int)) = false := by rw [decide_eq_false_iff_not]; omega
              have q1' : decide (b3 ≤ N) = false := by rw [decide_eq_false_iff_not]; omega
              have hend : X.length ≤ (k3 + 1) * (2 * m) := by
                have h1 : 2 * (k3 + 1) * m = (k3 + 1) * (2 * m) := by rw [Nat.mul_comm 2 (k3 + 1), Nat.mul_assoc]
                rw [HN.out, ← h1, ← Nx.out, ← Hm2.out]; omega
              have Hend := Lib.hid hend
              clear hb3 hend
              by_cases hlast : e3 < N
              · have r1 : decide ((e3 : Int) < (N : Int)) = true := by rw [decide_eq_true_eq]; omega
                have r1z : (e3 : Int) < (N : Int) := by omega
                go_wp2_with (first | (go_at_call 30; refine (M.out D3 m k3 a3 e3 N HM3.out (by omega) Ha3.out He3.out (by have := Hb3.out; have := Hm2.out; omega) hlast _ Hw3.out).mono ?_; rintro e w' ⟨rfl, D', hF', hw'⟩))
                have HF' := Lib.hid (hF'.all Hend.out)
                have Hw' := Lib.hid hw'
                clear hF' hw'
                go_wp2_with fail
                go_roundw
                case rel => exact ⟨m2, D', by omega, by omega, by go_num, by rw [Hm2.out]; exact HF'.out, Hw'.out⟩
                case measure => have := Hm2.out; simp [intOf]; omega
              · have r1 : decide ((e3 : Int) < (N : Int)) = false := by rw [decide_eq_false_iff_not]; omega
                have r1z : ¬ (e3 : Int) < (N : Int) := by omega
                have HF' := Lib.hid ((ML.out D3 m k3 a3 HM3.out Ha3.out ha3N (by have := He3.out; omega)).all Hend.out)
                go_wp2_with fail
                go_roundw
                case rel => exact ⟨m2, D3, by omega, by omega, by go_num, by rw [Hm2.out]; exact HF'.out, Hw3.out⟩
                case measure => have := Hm2.out; simp [intOf]; omega
        · have hltz : ¬ (m : Int) < (N : Int) := by omega
          have E := Lib.hid (HM.out.end_ (by rw [HN.out]; omega))
          go_wp2_with fail
          go_end0
          exact ⟨rfl, D2, E.out.1, E.out.2, Hwm.out⟩

set_option maxHeartbeats 1000000 in
theorem sort_any {w0 : World} {blk N : Nat} (s : Srt w0 blk N) {c : Fin 256 → Int} {g : Nat} {cb : Array Value} (C : Cmp c g cb w0 blk N) (cap : Nat) (X : List (Fin 256)) (hX : X.Pairwise (fun x y => x.val < y.val)) (hN : X.length = N) (w : World) (h : Sl1 w0 blk X w) :
    Calls Try.prog 19 #[.slice (some ⟨blk, 0, none⟩) N cap, .func (.func g) #[] cb] w fun e w' => e = .returned (.tuple #[]) ∧ ∃ Z : List (Fin 256), Z.Perm X ∧ Z.Pairwise (Tot c) ∧ Sl1 w0 blk Z w' := by
  have K := Lib.hid (stable_any s C cap X hX hN w h)
  clear s C hX hN h
  go_enter Try.func19, Try.ntmps19
  go_wp2_with (first | (go_at_call 26; refine K.out.mono ?_; rintro e w' ⟨rfl, hw'⟩))
  go_end0
  exact ⟨rfl, hw'⟩
end Go.Proofs.Ythcppebfhjleiaa
