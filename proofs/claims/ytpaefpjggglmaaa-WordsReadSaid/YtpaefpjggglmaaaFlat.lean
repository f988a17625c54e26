/- Plain Lean: what flatter makes of the depths. -/
import Derived.Test.YtpaefpjggglmaaaHuff
namespace Go.Proofs.Ytpaefpjggglmaaa
open Go.RowKit

def clampV (d : Int) : Int := min (max d 1) 11
def flatIdx (l : List Int) : Nat := l.findIdx fun x => decide (x < 11)
def flatStep (l : List Int) : List Int := (l.set (flatIdx l) (l.getD (flatIdx l) 0 + 1)).set (flatIdx l - 1) (l.getD (flatIdx l) 0 + 1)
def flatIter : Nat → List Int → List Int
  | 0, l => l
  | k + 1, l => flatIter k (flatStep l)
def overV (l : List Int) : Int := (ksum l : Int) - 2048
def flatV (ds : List Int) : List Int := flatIter (overV (ds.map clampV)).toNat (ds.map clampV)

theorem ksum_append (a b : List Int) : ksum (a ++ b) = ksum a + ksum b := by unfold ksum; rw [List.map_append, List.sum_append]
theorem ksum_cons (x : Int) (b : List Int) : ksum (x :: b) = kterm x + ksum b := by unfold ksum; rw [List.map_cons, List.sum_cons]
theorem ksum_bottom : ∀ i, ksum (List.replicate i 11) = i
  | 0 => rfl
  | i + 1 => by rw [List.replicate_succ, ksum_cons, ksum_bottom i]; show 1 + i = i + 1; omega
theorem kterm_two {x : Int} (h1 : 1 ≤ x) (h2 : x ≤ 10) : kterm x = 2 * kterm (x + 1) := by
  obtain ⟨n, rfl⟩ : ∃ n : Nat, x = n := ⟨x.toNat, by omega⟩
  have : n = 1 ∨ n = 2 ∨ n = 3 ∨ n = 4 ∨ n = 5 ∨ n = 6 ∨ n = 7 ∨ n = 8 ∨ n = 9 ∨ n = 10 := by omega
  rcases this with rfl | rfl | rfl | rfl | rfl | rfl | rfl | rfl | rfl | rfl <;> rfl

/-- Lengths that are o too many: those at the bottom come first, more of them than o. -/
structure Fst (n o : Nat) (i : Nat) (R l : List Int) : Prop where
  is : l = List.replicate i 11 ++ R
  rng : ∀ x ∈ R, 1 ≤ x ∧ x ≤ 10
  pw : R.Pairwise (fun x y => y ≤ x)
  len : i + R.length = n
  sum : ksum l = 2048 + o
  more : 0 < o → o < i

theorem find_bottom (x : Int) (R : List Int) (hx : x ≤ 10) : ∀ i, flatIdx (List.replicate i 11 ++ x :: R) = i
  | 0 => by
    unfold flatIdx
    rw [List.replicate_zero, List.nil_append, List.findIdx_cons, decide_eq_true (by omega)]
    rfl
  | i + 1 => by
    have := find_bottom x R hx i
    unfold flatIdx at *
    rw [List.replicate_succ, List.cons_append, List.findIdx_cons, this]
    rfl
theorem Fst.step {n o i : Nat} {R l : List Int} (h : Fst n (o + 1) i R l) (hn : n ≤ 256) : ∃ x R', R = x :: R' ∧ flatIdx l = i ∧ 1 ≤ i ∧ i < n ∧ l.getD i 0 = x ∧ 1 ≤ x ∧ x ≤ 10 ∧ ∃ i' R'', Fst n o i' R'' (flatStep l) := by
  have hm := h.more (by omega)
  have hs := h.sum
  have hl := h.len
  rw [h.is, ksum_append, ksum_bottom] at hs
  cases R with
  | nil => simp [ksum] at hs; simp at hl; omega
  | cons x R' =>
    rw [List.length_cons] at hl
    have hx := h.rng x (List.mem_cons_self ..)
    have hf : flatIdx l = i := by rw [h.is]; exact find_bottom x R' hx.2 i
    have hg : l.getD i 0 = x := by
      rw [h.is, List.getD_eq_getElem?_getD, List.getElem?_append_right (by simp), List.length_replicate, Nat.sub_self]; rfl
    refine ⟨x, R', rfl, hf, by omega, by omega, hg, hx.1, hx.2, ?_⟩
    obtain ⟨j, rfl⟩ : ∃ j, i = j + 1 := ⟨i - 1, by omega⟩
    have hst : flatStep l = List.replicate j 11 ++ (x + 1) :: (x + 1) :: R' := by
      unfold flatStep
      rw [hf, hg, h.is, List.set_append_right _ _ (by simp), List.length_replicate, Nat.sub_self, List.set_cons_zero, Nat.add_sub_cancel, List.replicate_succ', List.append_assoc, List.set_append_right _ _ (by simp), List.length_replicate, Nat.sub_self]
      rfl
    rw [ksum_cons, kterm_two hx.1 hx.2] at hs
    have hsum : ksum (flatStep l) = 2048 + o := by
      rw [hst, ksum_append, ksum_bottom, ksum_cons, ksum_cons]; omega
    have hpw := List.pairwise_cons.1 h.pw
    by_cases h11 : x = 10
    · subst h11
      refine ⟨j + 2, R', ⟨?_, fun y hy => h.rng y (List.mem_cons_of_mem _ hy), hpw.2, by omega, hsum, by omega⟩⟩
      rw [hst, List.replicate_succ', List.replicate_succ', List.append_assoc, List.append_assoc]
      rfl
    · refine ⟨j, (x + 1) :: (x + 1) :: R', ⟨hst, ?_, ?_, by simp; omega, hsum, by omega⟩⟩
      · intro y hy
        rcases List.mem_cons.1 hy with rfl | hy
        · omega
        · rcases List.mem_cons.1 hy with rfl | hy
          · omega
          · exact h.rng y (List.mem_cons_of_mem _ hy)
      · refine List.pairwise_cons.2 ⟨?_, List.pairwise_cons.2 ⟨fun y hy => by have := hpw.1 y hy; omega, hpw.2⟩⟩
        intro y hy
        rcases List.mem_cons.1 hy with rfl | hy
        · exact Int.le_refl _
        · have := hpw.1 y hy; omega
theorem bottom_first : ∀ l : List Int, (∀ x ∈ l, 1 ≤ x ∧ x ≤ 11) → l.Pairwise (fun x y => y ≤ x) → ∃ i R, l = List.replicate i 11 ++ R ∧ (∀ x ∈ R, 1 ≤ x ∧ x ≤ 10) ∧ R.Pairwise (fun x y => y ≤ x)
  | [], _, _ => ⟨0, [], rfl, fun _ h => (List.not_mem_nil h).elim, List.Pairwise.nil⟩
  | x :: l, h, hp => by
    have hp' := List.pairwise_cons.1 hp
    have hx := h x (List.mem_cons_self ..)
    by_cases e : x = 11
    · obtain ⟨i, R, e1, e2, e3⟩ := bottom_first l (fun y hy => h y (List.mem_cons_of_mem _ hy)) hp'.2
      exact ⟨i + 1, R, by rw [e1, e, List.replicate_succ]; rfl, e2, e3⟩
    · refine ⟨0, x :: l, rfl, fun y hy => ?_, hp⟩
      rcases List.mem_cons.1 hy with rfl | hy
      · omega
      · have := hp'.1 y hy; have := h y (List.mem_cons_of_mem _ hy); omega
theorem ksum_rsum (l : List Int) : ∀ k, k ≤ l.length → ksum (l.take k) = rsum (fun i => kterm (l.getD i 0)) 0 k
  | 0, _ => rfl
  | k + 1, h => by rw [ksum_next (by omega), rsum_snoc, ksum_rsum l k (by omega), Nat.zero_add]
theorem rsum_ge (K V : Nat → Nat) (U : Nat) : ∀ n, (∀ j, j < n → V j ≤ K j * U) → rsum V 0 n ≤ rsum K 0 n * U
  | 0, _ => Nat.zero_le _
  | n + 1, h => by
    rw [rsum_snoc, rsum_snoc, Nat.zero_add, Nat.add_mul]
    have := rsum_ge K V U n (fun j hj => h j (by omega))
    have := h n (by omega)
    omega
theorem rsum_le (K V : Nat → Nat) (U i : Nat) : ∀ n, (∀ j, j < n → K j * U ≤ V j + (if j < i then U else 0)) → (∀ j, j < n → j < i → K j * U < V j + U) → rsum K 0 n * U + min n i ≤ rsum V 0 n + min n i * U
  | 0, _, _ => by simp [rsum]
  | n + 1, h, h2 => by
    rw [rsum_snoc, rsum_snoc, Nat.zero_add, Nat.add_mul]
    have ih := rsum_le K V U i n (fun j hj => h j (by omega)) (fun j hj => h2 j (by omega))
    have h1 := h n (by omega)
    by_cases e : n < i
    · have h3 := h2 n (by omega) e
      rw [show min (n + 1) i = min n i + 1 by omega, Nat.add_mul]
      omega
    · rw [if_neg e] at h1
      rw [show min (n + 1) i = min n i by omega]
      omega

/-- The lengths that come out. -/
structure Flat (n : Nat) (l : List Int) : Prop where
  len : l.length = n
  rng : ∀ i, i < n → 1 ≤ l.getD i 0 ∧ l.getD i 0 ≤ 11
  mono : ∀ i j, i ≤ j → j < n → l.getD j 0 ≤ l.getD i 0
  full : 2 ≤ n → ksum l = 2048
  one : n = 1 → ksum l = 1024
theorem getD_mem {l : List Int} {i : Nat} (h : i < l.length) : l.getD i 0 ∈ l := by
  rw [List.getD_eq_getElem?_getD, List.getElem?_eq_getElem h]; exact List.getElem_mem h
theorem pw_getD {l : List Int} (h : l.Pairwise (fun x y => y ≤ x)) {i j : Nat} (hij : i ≤ j) (hj : j < l.length) : l.getD j 0 ≤ l.getD i 0 := by
  rw [List.getD_eq_getElem?_getD, List.getD_eq_getElem?_getD, List.getElem?_eq_getElem hj, List.getElem?_eq_getElem (by omega)]
  rcases Nat.lt_or_ge i j with h1 | h1
  · exact List.pairwise_iff_getElem.1 h i j (by omega) hj h1
  · obtain rfl : i = j := by omega
    exact Int.le_refl _
theorem Fst.flat {n i : Nat} {R l : List Int} (h : Fst n 0 i R l) (hn : 2 ≤ n) : Flat n l := by
  have hlen : l.length = n := by rw [h.is, List.length_append, List.length_replicate]; exact h.len
  have hr : ∀ x ∈ l, 1 ≤ x ∧ x ≤ 11 := by
    intro x hx
    rw [h.is] at hx
    rcases List.mem_append.1 hx with hx | hx
    · have := List.eq_of_mem_replicate hx; omega
    · have := h.rng x hx; omega
  have hp : l.Pairwise (fun x y => y ≤ x) := by
    rw [h.is, List.pairwise_append]
    refine ⟨?_, h.pw, fun x hx y hy => ?_⟩
    · rw [List.pairwise_replicate]; exact .inr (Int.le_refl _)
    · have := List.eq_of_mem_replicate hx; have := h.rng y hy; omega
  exact ⟨hlen, fun i hi => hr _ (getD_mem (by omega)), fun i j hij hj => pw_getD hp hij (by omega), fun _ => h.sum, fun e => by omega⟩
theorem iter_flat {n : Nat} (hn : 2 ≤ n) (hn2 : n ≤ 256) : ∀ (o i : Nat) (R l : List Int), Fst n o i R l → Flat n (flatIter o l)
  | 0, _, _, _, h => h.flat hn
  | o + 1, _, _, l, h => by
    obtain ⟨x, R', _, _, _, _, _, _, _, i', R'', h'⟩ := h.step hn2
    exact iter_flat hn hn2 o i' R'' (flatStep l) h'
theorem clamp_at (ds : List Int) {i : Nat} (h : i < ds.length) : (ds.map clampV).getD i 0 = clampV (ds.getD i 0) := by
  rw [List.getD_eq_getElem?_getD, List.getD_eq_getElem?_getD, List.getElem?_map, List.getElem?_eq_getElem h]; rfl
/-- The powers, small ones and great ones. -/
theorem pow_parts : ∃ U T : Nat, T = 2 ^ 600 ∧ T = 2048 * U ∧ 0 < U ∧ (∀ d : Nat, 1 ≤ d → d ≤ 11 → 2 ^ (600 - d) = 2 ^ (11 - d) * U) ∧ ∀ d : Nat, 11 < d → 1 ≤ 2 ^ (600 - d) ∧ 2 ^ (600 - d) ≤ U := by
  obtain ⟨e, he⟩ : ∃ e : Nat, e = 589 := ⟨_, rfl⟩
  obtain ⟨U, hU⟩ : ∃ U : Nat, U = 2 ^ e := ⟨_, rfl⟩
  refine ⟨U, 2048 * U, ?_, rfl, ?_, fun d h1 h2 => ?_, fun d h => ⟨Nat.pow_pos (by decide), ?_⟩⟩
  · rw [hU, show (2048 : Nat) = 2 ^ 11 from rfl, ← Nat.pow_add, show 11 + e = 600 by omega]
  · rw [hU]; exact Nat.pow_pos (by decide)
  · rw [hU, ← Nat.pow_add, show 11 - d + e = 600 - d by omega]
  · rw [hU]; exact Nat.pow_le_pow_right (by decide) (by omega)
theorem clamp_first {n : Nat} {ds : List Int} (D : Deep n ds) (hn : 2 ≤ n) : ∃ o i R, ((o : Nat) : Int) = overV (ds.map clampV) ∧ Fst n o i R (ds.map clampV) := by
  have hlen : (ds.map clampV).length = n := by rw [List.length_map]; exact D.len
  have hr : ∀ x ∈ ds.map clampV, 1 ≤ x ∧ x ≤ 11 := by
    intro x hx
    obtain ⟨d, _, rfl⟩ := List.mem_map.1 hx
    unfold clampV; omega
  have hp : (ds.map clampV).Pairwise (fun x y => y ≤ x) := by
    rw [List.pairwise_iff_getElem]
    intro i j hi hj hij
    have h1 := D.mono i j (by omega) (by omega)
    have h2 := clamp_at ds (i := i) (by rw [D.len]; omega)
    have h3 := clamp_at ds (i := j) (by rw [D.len]; omega)
    rw [List.getD_eq_getElem?_getD, List.getElem?_eq_getElem hi] at h2
    rw [List.getD_eq_getElem?_getD, List.getElem?_eq_getElem hj] at h3
    simp only [Option.getD_some] at h2 h3
    rw [h2, h3]
    unfold clampV; omega
  obtain ⟨i, R, e1, e2, e3⟩ := bottom_first _ hr hp
  have hil : i + R.length = n := by rw [← hlen, e1, List.length_append, List.length_replicate]
  obtain ⟨U, T, hT, u1, u2, u3, u4⟩ := pow_parts
  have hsum := D.sum hn
  rw [← hT] at hsum
  have hks : ksum (ds.map clampV) = rsum (fun i => kterm ((ds.map clampV).getD i 0)) 0 n := by
    have := ksum_rsum (ds.map clampV) n (by omega)
    rwa [List.take_of_length_le (by omega)] at this
  clear hT
  have hd : ∀ j, j < n → ∃ d : Nat, ds.getD j 0 = d ∧ 1 ≤ d ∧ (ds.map clampV).getD j 0 = ((min d 11 : Nat) : Int) := fun j hj => by
    have h1 := D.pos hn j hj
    refine ⟨(ds.getD j 0).toNat, by omega, by omega, ?_⟩
    rw [clamp_at ds (by rw [D.len]; exact hj)]
    unfold clampV; omega
  have hkt : ∀ d : Nat, 1 ≤ d → kterm ((min d 11 : Nat) : Int) = 2 ^ (11 - min d 11) := fun d h => by
    unfold kterm; rw [if_pos (by omega), Int.toNat_natCast]
  have hge := rsum_ge (fun i => kterm ((ds.map clampV).getD i 0)) (fun i => 2 ^ (600 - (ds.getD i 0).toNat)) U n (fun j hj => by
    obtain ⟨d, d1, d2, d3⟩ := hd j hj
    show 2 ^ (600 - (ds.getD j 0).toNat) ≤ kterm ((ds.map clampV).getD j 0) * U
    rw [d1, d3, hkt d d2, Int.toNat_natCast]
    rcases Nat.lt_or_ge 11 d with h | h
    · rw [show min d 11 = 11 by omega, Nat.sub_self, Nat.pow_zero, Nat.one_mul]; exact (u4 d h).2
    · rw [show min d 11 = d by omega, u3 d d2 h]; exact Nat.le_refl _)
  have hlow : ∀ j, j < n → ∀ d : Nat, ds.getD j 0 = d → 11 < d → j < i := fun j hj d h1 h2 => by
    rcases Nat.lt_or_ge j i with h | h
    · exact h
    · exfalso
      have h3 := clamp_at ds (i := j) (by rw [D.len]; exact hj)
      rw [e1, List.getD_eq_getElem?_getD, List.getElem?_append_right (by rw [List.length_replicate]; exact h), List.length_replicate, List.getElem?_eq_getElem (by omega)] at h3
      have h4 := e2 _ (List.getElem_mem (l := R) (n := j - i) (by omega))
      simp only [Option.getD_some] at h3
      rw [h3, h1] at h4
      unfold clampV at h4; omega
  have hle := rsum_le (fun i => kterm ((ds.map clampV).getD i 0)) (fun i => 2 ^ (600 - (ds.getD i 0).toNat)) U i n (fun j hj => by
    obtain ⟨d, d1, d2, d3⟩ := hd j hj
    show kterm ((ds.map clampV).getD j 0) * U ≤ 2 ^ (600 - (ds.getD j 0).toNat) + _
    rw [d1, d3, hkt d d2, Int.toNat_natCast]
    rcases Nat.lt_or_ge 11 d with h | h
    · rw [show min d 11 = 11 by omega, Nat.sub_self, Nat.pow_zero, Nat.one_mul, if_pos (hlow j hj d d1 h)]; exact Nat.le_add_left _ _
    · rw [show min d 11 = d by omega, u3 d d2 h]; omega) (fun j hj hji => by
    obtain ⟨d, d1, d2, d3⟩ := hd j hj
    show kterm ((ds.map clampV).getD j 0) * U < 2 ^ (600 - (ds.getD j 0).toNat) + _
    rw [d1, d3, hkt d d2, Int.toNat_natCast]
    rcases Nat.lt_or_ge 11 d with h | h
    · have := (u4 d h).1
      rw [show min d 11 = 11 by omega, Nat.sub_self, Nat.pow_zero, Nat.one_mul]; omega
    · rw [show min d 11 = d by omega, u3 d d2 h]; omega)
  rw [hsum, ← hks] at hge hle
  clear hsum hks
  rw [show min n i = i by omega] at hle
  rw [u1] at hge hle
  have hk : 2048 ≤ ksum (ds.map clampV) := Nat.le_of_mul_le_mul_right hge u2
  refine ⟨ksum (ds.map clampV) - 2048, i, R, by unfold overV; omega, e1, e2, e3, hil, by omega, fun ho => ?_⟩
  generalize ksum (ds.map clampV) = k at *
  obtain ⟨o, rfl⟩ : ∃ o, k = 2048 + o := ⟨k - 2048, by omega⟩
  rw [Nat.add_mul] at hle
  rw [Nat.add_sub_cancel_left] at ho ⊢
  have h5 : o * U + i ≤ i * U := by omega
  have hi : 0 < i := by
    rcases Nat.eq_zero_or_pos i with rfl | h
    · exfalso
      have : 0 < o * U := Nat.mul_pos ho u2
      omega
    · exact h
  exact Nat.lt_of_mul_lt_mul_right (a := U) (by omega)
theorem flat_ok {n : Nat} {ds : List Int} (D : Deep n ds) (hn2 : n ≤ 256) : Flat n (flatV ds) := by
  by_cases hn : 2 ≤ n
  · obtain ⟨o, i, R, ho, hf⟩ := clamp_first D hn
    unfold flatV
    rw [← ho, Int.toNat_natCast]
    exact iter_flat hn hn2 o i R _ hf
  · have hlen : (ds.map clampV).length = n := by rw [List.length_map]; exact D.len
    have h1 : n = 1 → ds.map clampV = [1] := fun e => by
      have h0 := D.one e
      have hl := D.len
      obtain ⟨d, rfl⟩ : ∃ d, ds = [d] := List.length_eq_one_iff.1 (hl.trans e)
      have : d = 0 := h0
      rw [this]; rfl
    have hz : (overV (ds.map clampV)).toNat = 0 := by
      rcases Nat.eq_zero_or_pos n with e | e
      · have : ds.map clampV = [] := List.eq_nil_of_length_eq_zero (by omega)
        rw [this]; rfl
      · rw [h1 (by omega)]; rfl
    unfold flatV
    rw [hz, flatIter]
    refine ⟨hlen, fun i hi => ?_, fun i j hij hj => ?_, fun h => absurd h hn, fun e => by rw [h1 e]; rfl⟩
    · rw [clamp_at ds (by rw [D.len]; exact hi)]; unfold clampV; omega
    · obtain rfl : i = j := by omega
      exact Int.le_refl _
end Go.Proofs.Ytpaefpjggglmaaa
