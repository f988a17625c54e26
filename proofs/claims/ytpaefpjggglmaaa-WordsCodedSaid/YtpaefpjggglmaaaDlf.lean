/- The program's Lengths as a plain function, and what holds of it. -/
import Derived.Test.YtpaefpjggglmaaaDra
import Derived.Test.YtpaefpjggglmaaaFlat
namespace Go.Proofs.Ytpaefpjggglmaaa
open Go.RowKit

/-- The byte values that occur, the rarest first. -/
def risV (cl : List Int) : List (Fin 256) := (occ cl).mergeSort fun x y => totB (cnt cl) x y || decide (x = y)
theorem ris_perm (cl : List Int) : (risV cl).Perm (occ cl) := List.mergeSort_perm _ _
theorem occ_nodup (cl : List Int) : (occ cl).Nodup := (occ_up cl).imp fun h e => by rw [e] at h; exact Nat.lt_irrefl _ h
theorem ris_pw (cl : List Int) : (risV cl).Pairwise (Tot (cnt cl)) := by
  have h := List.pairwise_mergeSort (le := fun x y => totB (cnt cl) x y || decide (x = y)) (fun a b c h1 h2 => by
      simp only [Bool.or_eq_true, decide_eq_true_eq, totB_iff] at *
      rcases h1 with h1 | rfl
      · rcases h2 with h2 | rfl
        · exact .inl (h1.trans h2)
        · exact .inl h1
      · exact h2) (fun a b => by
      simp only [Bool.or_eq_true, decide_eq_true_eq, totB_iff]
      by_cases e : a = b
      · exact .inl (.inr e)
      · have : a.val ≠ b.val := fun h => e (Fin.ext h)
        unfold Tot; omega) (occ cl)
  have hn : (risV cl).Nodup := (ris_perm cl).nodup_iff.2 (occ_nodup cl)
  refine (h.and hn).imp fun {x y} hh => ?_
  have h1 := hh.1
  simp only [Bool.or_eq_true, decide_eq_true_eq, totB_iff] at h1
  exact h1.resolve_right hh.2
theorem ris_only {cl : List Int} {Z : List (Fin 256)} (h1 : Z.Perm (occ cl)) (h2 : Z.Pairwise (Tot (cnt cl))) : Z = risV cl :=
  List.Perm.eq_of_pairwise (fun a b _ _ h3 h4 => by unfold Tot at h3 h4; omega) h2 (ris_pw cl) (h1.trans (ris_perm cl).symm)

def placeK (Z : List (Fin 256)) (l : List Int) : Nat → List Int
  | 0 => List.replicate 256 0
  | k + 1 => (placeK Z l k).set (Z.getD k 0).val (l.getD k 0)
def lensV (cl : List Int) : List Int := flatV (depthsV ((risV cl).map (cnt cl)))
noncomputable def theF (cl : List Int) : List Int × Bool := if cl.any cbad then (List.replicate 256 0, false) else (placeK (risV cl) (lensV cl) (risV cl).length, true)
theorem place_len (Z : List (Fin 256)) (l : List Int) : ∀ k, (placeK Z l k).length = 256
  | 0 => List.length_replicate
  | k + 1 => by rw [placeK, List.length_set, place_len Z l k]
section
variable {Z : List (Fin 256)} {l : List Int}
theorem place_not : ∀ k, k ≤ Z.length → ∀ x : Fin 256, (∀ i, i < k → Z.getD i 0 ≠ x) → (placeK Z l k).getD x.val 0 = 0
  | 0, _, x, _ => by
    rw [placeK, List.getD_eq_getElem?_getD, List.getElem?_replicate]; split <;> rfl
  | k + 1, hk, x, h => by
    rw [placeK, getD_set, if_neg (fun e => h k (by omega) (Fin.ext e.1)), place_not k (by omega) x (fun i hi => h i (by omega))]
theorem place_at (hn : Z.Nodup) : ∀ k, k ≤ Z.length → ∀ i, i < k → (placeK Z l k).getD (Z.getD i 0).val 0 = l.getD i 0
  | 0, _, _, h => absurd h (Nat.not_lt_zero _)
  | k + 1, hk, i, hi => by
    rw [placeK, getD_set, place_len]
    by_cases e : i = k
    · subst e; rw [if_pos ⟨rfl, (Z.getD i 0).isLt⟩]
    · rw [if_neg, place_at hn k (by omega) i (by omega)]
      rintro ⟨h1, -⟩
      have h2 : Z.getD k 0 = Z.getD i 0 := Fin.ext h1
      rw [List.getD_eq_getElem?_getD, List.getD_eq_getElem?_getD, List.getElem?_eq_getElem (by omega), List.getElem?_eq_getElem (by omega)] at h2
      have := List.pairwise_iff_getElem.1 hn i k (by omega) (by omega) (by omega)
      exact this h2.symm
theorem ksum_set {m : List Int} {i : Nat} (hi : i < m.length) (h0 : m.getD i 0 = 0) (v : Int) : ksum (m.set i v) = ksum m + kterm v := by
  have e : m = m.take i ++ m.getD i 0 :: m.drop (i + 1) := by
    rw [List.getD_eq_getElem?_getD, List.getElem?_eq_getElem hi]
    show m = m.take i ++ m[i] :: m.drop (i + 1)
    rw [← List.drop_eq_getElem_cons hi, List.take_append_drop]
  have hs : m.set i v = m.take i ++ v :: m.drop (i + 1) := List.set_eq_take_append_cons_drop .. |>.trans (if_pos hi)
  rw [hs]
  conv => rhs; rw [e]
  rw [ksum_append, ksum_cons, ksum_append, ksum_cons, h0]
  show _ = _ + (0 + _) + _
  omega
theorem place_sum (hn : Z.Nodup) (hl : l.length = Z.length) : ∀ k, k ≤ Z.length → ksum (placeK Z l k) = ksum (l.take k)
  | 0, _ => by
    rw [placeK, List.take_zero]
    have : ∀ n, ksum (List.replicate n 0) = 0 := fun n => by
      induction n with
      | zero => rfl
      | succ n ih => rw [List.replicate_succ, ksum_cons, ih]; rfl
    rw [this]; rfl
  | k + 1, hk => by
    have hx : (placeK Z l k).getD (Z.getD k 0).val 0 = 0 := place_not k (by omega) _ fun i hi h2 => by
      rw [List.getD_eq_getElem?_getD, List.getD_eq_getElem?_getD, List.getElem?_eq_getElem (by omega), List.getElem?_eq_getElem (by omega)] at h2
      exact List.pairwise_iff_getElem.1 hn i k (by omega) (by omega) hi h2
    rw [placeK, ksum_set (by rw [place_len]; exact (Z.getD k 0).isLt) hx, place_sum hn hl k (by omega), ksum_next (by omega)]
end
theorem used_occ {cl : List Int} (hl : cl.length = 256) : (occ cl).length = used cl := by
  have e : cl = (List.finRange 256).map (cnt cl) := by
    apply List.ext_getElem
    · simp [hl]
    · intro i h1 h2
      rw [List.getElem_map]
      simp [cnt, h1]
  unfold used
  conv => rhs; rw [e]
  rw [List.countP_map, List.countP_eq_length_filter]
  rfl
theorem occ_len (cl : List Int) : (occ cl).length ≤ 256 := by rw [← occK_all]; exact occK_len cl 256
theorem lens_flat (cl : List Int) : Flat (risV cl).length (lensV cl) := by
  have h := (ris_perm cl).length_eq
  have h2 := occ_len cl
  have D := depths_deep ((risV cl).map (cnt cl)) (by rw [List.length_map]; omega)
  rw [List.length_map] at D
  exact flat_ok D (by omega)
theorem lens_deep (cl : List Int) : Deep (risV cl).length (depthsV ((risV cl).map (cnt cl))) := by
  have h := (ris_perm cl).length_eq
  have h2 := occ_len cl
  have D := depths_deep ((risV cl).map (cnt cl)) (by rw [List.length_map]; omega)
  rw [List.length_map] at D
  exact D
/-- Where a byte value stands among those that occur. -/
theorem ris_at {cl : List Int} {i : Nat} (hi : i < 256) (h : 0 < cl.getD i 0) : ∃ p, p < (risV cl).length ∧ ((risV cl).getD p 0).val = i := by
  have hm : (⟨i, hi⟩ : Fin 256) ∈ risV cl := (ris_perm cl).mem_iff.2 (List.mem_filter.2 ⟨List.mem_finRange _, by unfold cnt; exact decide_eq_true h⟩)
  obtain ⟨p, hp, e⟩ := List.mem_iff_getElem.1 hm
  exact ⟨p, hp, by rw [List.getD_eq_getElem?_getD, List.getElem?_eq_getElem hp]; simp [e]⟩
theorem ris_pos {cl : List Int} {p : Nat} (hp : p < (risV cl).length) : 0 < cl.getD ((risV cl).getD p 0).val 0 := by
  have hm : (risV cl).getD p 0 ∈ risV cl := by rw [List.getD_eq_getElem?_getD, List.getElem?_eq_getElem hp]; exact List.getElem_mem hp
  have := (List.mem_filter.1 ((ris_perm cl).mem_iff.1 hm)).2
  unfold cnt at this
  exact of_decide_eq_true this
theorem theF_ok {cl : List Int} (h : cl.any cbad = false) : theF cl = (placeK (risV cl) (lensV cl) (risV cl).length, true) := by unfold theF; rw [h]; rfl
theorem ris_nodup (cl : List Int) : (risV cl).Nodup := (ris_perm cl).nodup_iff.2 (occ_nodup cl)
theorem lens_ok : LensOk theF where
  len c hc := by
    unfold theF
    split
    · exact List.length_replicate
    · exact place_len _ _ _
  bad c hc h := by unfold theF; rw [if_pos h]
  ok c hc h := by rw [theF_ok h]
  pos c hc h i hi := by
    rw [theF_ok h]
    have F := lens_flat c
    constructor
    · intro h1
      rcases (show 0 < c.getD i 0 ∨ ¬ 0 < c.getD i 0 from Decidable.em _) with h2 | h2
      · exact h2
      · exfalso
        have := place_not (Z := risV c) (l := lensV c) (risV c).length (Nat.le_refl _) ⟨i, hi⟩ (fun p hp e => by
          have h3 := ris_pos hp
          rw [e] at h3
          exact absurd h3 h2)
        have h4 : (placeK (risV c) (lensV c) (risV c).length).getD i 0 = 0 := this
        rw [h4] at h1
        exact absurd h1 (by decide)
    · intro h1
      obtain ⟨p, hp, e⟩ := ris_at hi h1
      have := place_at (l := lensV c) (ris_nodup c) _ (Nat.le_refl _) p hp
      rw [e] at this
      show 0 < (placeK (risV c) (lensV c) (risV c).length).getD i 0
      rw [this]
      have := F.rng p hp; omega
  rng c hc h i hi := by
    rw [theF_ok h]
    have F := lens_flat c
    show 0 ≤ (placeK (risV c) (lensV c) (risV c).length).getD i 0 ∧ (placeK (risV c) (lensV c) (risV c).length).getD i 0 ≤ 11
    rcases (show 0 < c.getD i 0 ∨ ¬ 0 < c.getD i 0 from Decidable.em _) with h1 | h1
    · obtain ⟨p, hp, e⟩ := ris_at hi h1
      have := place_at (l := lensV c) (ris_nodup c) _ (Nat.le_refl _) p hp
      rw [e] at this
      rw [this]
      have := F.rng p hp; omega
    · have h4 : (placeK (risV c) (lensV c) (risV c).length).getD i 0 = 0 := place_not (Z := risV c) (l := lensV c) (risV c).length (Nat.le_refl _) ⟨i, hi⟩ (fun p hp e => by
          have h3 := ris_pos hp
          rw [e] at h3
          exact absurd h3 h1)
      rw [h4]; omega
  one c hc h h1 := by
    rw [theF_ok h]
    have F := lens_flat c
    have hn : (risV c).length = 1 := by rw [(ris_perm c).length_eq, used_occ hc, h1]
    show ksum (placeK (risV c) (lensV c) (risV c).length) = 1024
    rw [place_sum (ris_nodup c) F.len _ (Nat.le_refl _), List.take_of_length_le (by rw [F.len]; exact Nat.le_refl _)]
    exact F.one hn
  full c hc h h1 := by
    rw [theF_ok h]
    have F := lens_flat c
    have hn : 2 ≤ (risV c).length := by rw [(ris_perm c).length_eq, used_occ hc]; exact h1
    show ksum (placeK (risV c) (lensV c) (risV c).length) = 2048
    rw [place_sum (ris_nodup c) F.len _ (Nat.le_refl _), List.take_of_length_le (by rw [F.len]; exact Nat.le_refl _)]
    exact F.full hn
  mono c hc h i j hi hj h1 h2 := by
    rw [theF_ok h]
    have F := lens_flat c
    obtain ⟨p, hp, e⟩ := ris_at hi (Int.lt_trans h1 h2)
    obtain ⟨q, hq, e'⟩ := ris_at hj h1
    have a1 := place_at (l := lensV c) (ris_nodup c) _ (Nat.le_refl _) p hp
    have a2 := place_at (l := lensV c) (ris_nodup c) _ (Nat.le_refl _) q hq
    rw [e] at a1
    rw [e'] at a2
    show (placeK (risV c) (lensV c) (risV c).length).getD i 0 ≤ (placeK (risV c) (lensV c) (risV c).length).getD j 0
    rw [a1, a2]
    rcases Nat.lt_or_ge q p with h3 | h3
    · exact F.mono q p (by omega) hp
    · exfalso
      have hc1 : cnt c ((risV c).getD p 0) = c.getD i 0 := by unfold cnt; rw [e]
      have hc2 : cnt c ((risV c).getD q 0) = c.getD j 0 := by unfold cnt; rw [e']
      rcases Nat.lt_or_ge p q with h4 | h4
      · have := List.pairwise_iff_getElem.1 (ris_pw c) p q hp hq h4
        rw [List.getD_eq_getElem?_getD, List.getElem?_eq_getElem hp] at hc1
        rw [List.getD_eq_getElem?_getD, List.getElem?_eq_getElem hq] at hc2
        simp only [Option.getD_some] at hc1 hc2
        unfold Tot at this
        omega
      · obtain rfl : p = q := by omega
        omega
end Go.Proofs.Ytpaefpjggglmaaa
