/- slices.insertionSortCmpFunc: what is in the order of the byte values comes into the order of the counts. -/
import Derived.Test.YthcppebfhjleiaaSeg
import Derived.Ground.SlsfProg
namespace Go.Proofs.Ythcppebfhjleiaa
open Go.RowKit Go.Shelf Go.Lib Go.Sort

/-- The library's insertion sort, as this program has it. -/
def insLay_ren : Go.Shelf.Ren := ⟨fun | 20 => 29 | n => n, fun | 0 => 0 | 3 => 3 | 4 => 4 | 22 => 42 | 24 => 3 | 25 => 46 | n => n, fun | n => n⟩
theorem insLay : SlLaysF.n20 Try.prog insLay_ren := {
  mixed := by kernel_rfl
  f20 := ⟨Try.f29.name, by decide, Try.func29.trans (congrArg some (by kernel_rfl))⟩
  t0 := Try.underlying0
  a0 := Try.isAgg0
  z0 := Try.sizeOf0
  v0 := Try.zeroValue0
  t3 := Try.underlying3
  a3 := Try.isAgg3
  z3 := Try.sizeOf3
  v3 := Try.zeroValue3
  t4 := Try.underlying4
  a4 := Try.isAgg4
  z4 := Try.sizeOf4
  v4 := Try.zeroValue4
  t22 := Try.underlying42
  a22 := Try.isAgg42
  z22 := Try.sizeOf42
  v22 := Try.zeroValue42
  a24 := Try.isAgg3
  z24 := Try.sizeOf3
  t25 := Try.underlying46
  a25 := Try.isAgg46
  z25 := Try.sizeOf46
  v25 := Try.zeroValue46 }

instance (c : Fin 256 → Int) (x y : Fin 256) : Decidable (Tot c x y) := by unfold Tot; exact inferInstance
/-- The order, as a test. -/
def totB (c : Fin 256 → Int) (x y : Fin 256) : Bool := decide (Tot c x y)
theorem totB_iff {c : Fin 256 → Int} {x y : Fin 256} : totB c x y = true ↔ Tot c x y := by unfold totB; exact decide_eq_true_iff
theorem totB_not {c : Fin 256 → Int} {x y : Fin 256} : totB c x y = false ↔ ¬ Tot c x y := by unfold totB; exact decide_eq_false_iff_not
theorem totB_swo (c : Fin 256 → Int) : SWO (totB c) where
  irrefl x := totB_not.2 (by unfold Tot; omega)
  trans x y z h1 h2 := totB_iff.2 ((totB_iff.1 h1).trans (totB_iff.1 h2))
  ntrans x y z h1 h2 := totB_not.2 (by have := totB_not.1 h1; have := totB_not.1 h2; unfold Tot at *; omega)
theorem tot_lt (c : Fin 256 → Int) {x y : Fin 256} (h : y.val < x.val) : ltOf (cmpV c) x y = totB c x y := by
  unfold ltOf
  rw [cmpV_neg, Bool.eq_iff_iff, decide_eq_true_iff, totB_iff]
  unfold Tot; omega
theorem ins_same (c : Fin 256 → Int) (a : Nat) : ∀ (j : Nat) (d : Array (Fin 256)), j < d.size → (∀ k, a ≤ k → k < j → (d[k]!).val < (d[j]!).val) → insInner (ltOf (cmpV c)) a j d = insInner (totB c) a j d
  | 0, _, _, _ => rfl
  | j + 1, d, hj, h => by
    unfold insInner
    by_cases ha : j + 1 > a
    · rw [tot_lt c (h j (by omega) (by omega))]
      split
      · refine ins_same c a j _ (by rw [size_swp]; omega) fun k hk hkj => ?_
        rw [swp_other _ _ _ _ (by omega) (by omega), swp_right _ _ _ (by omega)]
        exact h k hk (by omega)
      · rfl
    · rw [decide_eq_false ha]; rfl
theorem insInner_perm (lt : Fin 256 → Fin 256 → Bool) (a i : Nat) : ∀ (j : Nat) (d : Array (Fin 256)), j ≤ i → i < d.size → PermIn a (i + 1) d (insInner lt a j d)
  | 0, d, _, _ => permIn_refl d a (i + 1)
  | j + 1, d, hj, hi => by
    unfold insInner
    split
    · rename_i hc
      have ha : j + 1 > a := by simp at hc; omega
      exact permIn_trans _ _ _ a (i + 1) (swp_permIn d a (i + 1) (j + 1) j (by omega) (by omega) (by omega) (by omega) (by omega)) (insInner_perm lt a i j _ (by omega) (by rw [size_swp]; exact hi))
    · exact permIn_refl d a (i + 1)
theorem outer_same (c : Fin 256 → Int) (a b : Nat) : ∀ (n i : Nat) (d : Array (Fin 256)), b - i = n → a < i → b ≤ d.size → (∀ p q, a ≤ p → p < q → i ≤ q → q < b → (d[p]!).val < (d[q]!).val) → insOuter (ltOf (cmpV c)) a b i d = insOuter (totB c) a b i d
  | 0, i, d, hn, _, _, _ => by
    conv => lhs; rw [insOuter, if_neg (by omega)]
    conv => rhs; rw [insOuter, if_neg (by omega)]
  | n + 1, i, d, hn, ha, hb, h => by
    have hlt : i < b := by omega
    conv => lhs; rw [insOuter, if_pos hlt]
    conv => rhs; rw [insOuter, if_pos hlt]
    rw [ins_same c a i d (by omega) (fun k hk hki => h k i hk hki (Nat.le_refl _) hlt)]
    have hp := insInner_perm (totB c) a i i d (Nat.le_refl _) (by omega)
    refine outer_same c a b n (i + 1) _ (by omega) (by omega) (by rw [hp.1]; exact hb) fun p q hap hpq hiq hqb => ?_
    rw [hp.2.1 q (.inr (by omega))]
    rcases Nat.lt_or_ge p (i + 1) with h1 | h1
    · exact permIn_all d _ a (i + 1) (fun x => x.val < (d[q]!).val) (by omega) hp (fun k hk hki => h k q hk (by omega) (by omega) hqb) p hap h1
    · rw [hp.2.1 p (.inr h1)]; exact h p q hap hpq (by omega) hqb
theorem arr_of (L : List (Fin 256)) {i : Nat} (h : i < L.length) : L.toArray[i]! = L[i] := by simp [h]
theorem row_parts {P X S : List (Fin 256)} {d : Array (Fin 256)} (hp : PermIn P.length (P.length + X.length) (P ++ (X ++ S)).toArray d) : ∃ Z : List (Fin 256), Z.Perm X ∧ d = (P ++ (Z ++ S)).toArray := by
  obtain ⟨h1, h2, h3⟩ := hp
  have hsz : d.size = P.length + X.length + S.length := by rw [h1]; simp; omega
  have hx : ((P ++ (X ++ S)).toArray.extract P.length (P.length + X.length)).toList = X := by simp
  rw [hx] at h3
  refine ⟨(d.extract P.length (P.length + X.length)).toList, h3, ?_⟩
  have hl' := h3.length_eq
  have hl : (d.extract P.length (P.length + X.length)).size = X.length := hl'
  apply Array.ext
  · simp only [List.size_toArray, List.length_append, hl']; omega
  · intro i hi hi'
    have e0 : d[i] = d[i]! := by rw [getElem!_pos d i hi]
    rw [e0, List.getElem_toArray]
    rcases Nat.lt_or_ge i P.length with h | h
    · rw [List.getElem_append_left h, h2 i (.inl h), arr_of _ (by simp; omega), List.getElem_append_left h]
    · rw [List.getElem_append_right h]
      rcases Nat.lt_or_ge (i - P.length) X.length with h4 | h4
      · rw [List.getElem_append_left (by rw [hl']; exact h4), Array.getElem_toList, Array.getElem_extract, ← e0]
        simp only [show P.length + (i - P.length) = i by omega]
      · rw [List.getElem_append_right (by rw [hl']; exact h4), h2 i (.inr (by omega)), arr_of _ (by simp; omega), List.getElem_append_right h, List.getElem_append_right h4]
        simp only [hl']

theorem insertion_any {w0 : World} {blk N : Nat} (s : Srt w0 blk N) {c : Fin 256 → Int} {g : Nat} {cb : Array Value} (C : Cmp c g cb w0 blk N) (cap : Nat) (P X S : List (Fin 256)) (a b : Nat) (ha : P.length = a) (hb : a + X.length = b)
    (hX : X.Pairwise (fun x y => x.val < y.val)) (hN : (P ++ (X ++ S)).length = N) (w : World) (h : Sl1 w0 blk (P ++ (X ++ S)) w) :
    Calls Try.prog 29 #[.slice (some ⟨blk, 0, none⟩) N cap, .int .i64 a, .int .i64 b, .func (.func g) #[] cb] w fun e w' => e = .returned (.tuple #[]) ∧ ∃ Z : List (Fin 256), Z.Perm X ∧ Z.Pairwise (Tot c) ∧ Sl1 w0 blk (P ++ (Z ++ S)) w' := by
  obtain ⟨d0, hd, R⟩ := s.row
  subst ha; subst hb
  have hsz : (P ++ (X ++ S)).toArray.size = N := by rw [List.size_toArray]; exact hN
  have hbN : P.length + X.length ≤ (P ++ (X ++ S)).toArray.size := by rw [hsz]; simp only [List.length_append] at hN; omega
  have hc := Any.insertionSortCmpFunc_s insLay encF (cmpV c) g cb blk 0 cap P.length (P.length + X.length) d0 (P ++ (X ++ S)).toArray w0 w C.enter (by rw [hd]; exact C.lays) R (by rw [hd, hsz]) h (by omega) hbN (by rw [hsz]; have := s.small; omega)
  rw [hsz] at hc
  change Calls Try.prog 29 _ _ _ at hc
  refine hc.mono ?_
  rintro e w' ⟨rfl, hw⟩
  have hin : ∀ p q, P.length ≤ p → p < q → q < P.length + X.length → ((P ++ (X ++ S)).toArray[p]!).val < ((P ++ (X ++ S)).toArray[q]!).val := by
    intro p q h1 h2 h3
    rw [arr_of _ (by simp; omega), arr_of _ (by simp; omega), List.getElem_append_right h1, List.getElem_append_left (by omega), List.getElem_append_right (by omega), List.getElem_append_left (by omega)]
    exact List.pairwise_iff_getElem.1 hX _ _ _ _ (by omega)
  have hse : insertionSort (ltOf (cmpV c)) (P ++ (X ++ S)).toArray P.length (P.length + X.length) = insertionSort (totB c) (P ++ (X ++ S)).toArray P.length (P.length + X.length) := by
    unfold insertionSort
    exact outer_same c _ _ _ _ _ rfl (by omega) hbN fun p q h1 h2 _ h4 => hin p q h1 h2 h4
  rw [hse] at hw
  have hh := insertionSort_holds (lt := totB c) (totB_swo c) (P ++ (X ++ S)).toArray P.length (P.length + X.length) (by omega) hbN
  generalize insertionSort (totB c) (P ++ (X ++ S)).toArray P.length (P.length + X.length) = d at *
  obtain ⟨Z, hZ, rfl⟩ := row_parts hh.1
  refine ⟨rfl, Z, hZ, ?_, hw⟩
  have hnd : Z.Nodup := hZ.nodup_iff.2 (hX.imp (fun h e => by rw [e] at h; exact Nat.lt_irrefl _ h))
  rw [List.pairwise_iff_getElem]
  intro i j hi hj hij
  have h1 := hh.2 (P.length + i) (P.length + j) (by omega) (by omega) (by have := hZ.length_eq; omega)
  rw [arr_of _ (by simp; omega), arr_of _ (by simp; omega), List.getElem_append_right (by omega), List.getElem_append_left (by omega), List.getElem_append_right (by omega), List.getElem_append_left (by omega)] at h1
  simp only [Nat.add_sub_cancel_left] at h1
  rw [totB_not] at h1
  have h2 : Z[i].val ≠ Z[j].val := fun e => by
    have := List.pairwise_iff_getElem.1 hnd i j hi hj hij
    exact this (Fin.ext e)
  unfold Tot at *
  omega
end Go.Proofs.Ythcppebfhjleiaa
