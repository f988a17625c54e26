/- A code of up to twelve bytes, one word longer than the other: its lengths, its sum; what is packed, byte by byte from behind (no walk). -/
import Derived.Test.YtpaefpjggglmaaaWtbl
namespace Go.Proofs.Ytpaefpjggglmaaa.Wd
open Go.RowKit

theorem num_append (a : List Nat) : ∀ b : List Nat, num (a ++ b) = num a * 2 ^ b.length + num b := by
  suffices h : ∀ (b a : List Nat) (x : Nat), x = num a → num (a ++ b) = x * 2 ^ b.length + num b from fun b => h b a _ rfl
  intro b
  induction b with
  | nil => intro a x hx; rw [List.append_nil, hx]; simp [num]
  | cons y b ih =>
    intro a x hx
    rw [show a ++ y :: b = (a ++ [y]) ++ b by simp, ih (a ++ [y]) _ rfl, num_snoc, show y :: b = [y] ++ b from rfl, ih [y] _ rfl, show num [y] = y by unfold num; simp, List.length_append, Nat.add_mul, hx, List.length_singleton, Nat.pow_add]
    rw [Nat.mul_assoc, Nat.pow_one]; omega
/-- One bit among noughts. -/
def oneAt (m j : Nat) : List Nat := (List.replicate m 0).set (m - 1 - j) 1
theorem oneAt_num : ∀ m, m < 8 → ∀ j, j < m → num (oneAt m j) = 2 ^ j := by decide
theorem oneAt_has {m j : Nat} (h : j < m) : 1 ∈ oneAt m j := by
  unfold oneAt
  rw [List.mem_iff_getElem]
  exact ⟨m - 1 - j, by simp; omega, by simp⟩
theorem oneAt_two {m j : Nat} : ∀ x ∈ oneAt m j, x < 2 := by
  intro x hx
  unfold oneAt at hx
  rcases List.mem_or_eq_of_mem_set hx with h | h
  · rw [(List.mem_replicate.mp h).2]; decide
  · omega
theorem or_low : ∀ v : Nat, v < 256 → ∀ j : Nat, j < 8 → v % 2 ^ (j + 1) = 0 → bits BinOp.or IntKind.u8 (v : Int) ((2 ^ j : Nat) : Int) = ((v + 2 ^ j : Nat) : Int) := by decide +kernel
theorem pack_state {bs : List Nat} (h : ∀ x ∈ bs, x < 2) : ∃ s : List Nat × List Nat, Pk bs s ∧ packB bs = fin s :=
  ⟨bs.foldl push ([], []), by have := Pk.none.pushes h; rwa [List.nil_append] at this, rfl⟩
/-- The last byte, where it is not full: another bit in it. -/
theorem pack_tail {bs : List Nat} (h : ∀ x ∈ bs, x < 2) (hr : bs.length % 8 ≠ 0) : ∃ (init : List Nat) (v : Nat), packB bs = init ++ [v] ∧ v < 256 ∧ ∀ j, j < 8 - bs.length % 8 → v + 2 ^ j < 256 ∧ bits BinOp.or IntKind.u8 (v : Int) ((2 ^ j : Nat) : Int) = ((v + 2 ^ j : Nat) : Int) ∧ ∃ rest, rest.length < 8 ∧ 1 ∈ rest ∧ bitsB (init ++ [v + 2 ^ j]) = bs ++ rest := by
  obtain ⟨s, hs, e⟩ := pack_state h
  have hl := hs.len
  have hf := hs.few
  have hn := num_lt s.2 hs.two
  obtain ⟨r, hr'⟩ : ∃ r, r = s.2.length := ⟨_, rfl⟩
  rw [← hr'] at hl hf hn
  have hpow : 2 ^ r * 2 ^ (8 - r) = 256 := by rw [← Nat.pow_add, show r + (8 - r) = 8 by omega]
  have hv : num s.2 * 2 ^ (8 - r) < 256 := by
    rw [← hpow]; exact Nat.mul_lt_mul_of_pos_right hn (Nat.pow_pos (by decide))
  refine ⟨s.1, num s.2 * 2 ^ (8 - r), by rw [e, fin, if_neg (by omega), ← hr'], hv, fun j hj => ?_⟩
  rw [← hl] at hj
  have hm : num s.2 * 2 ^ (8 - r) % 2 ^ (j + 1) = 0 := by
    obtain ⟨d, hd⟩ : ∃ d, 8 - r = j + 1 + d := ⟨8 - r - (j + 1), by omega⟩
    rw [hd, Nat.pow_add, Nat.mul_comm (2 ^ (j + 1)), ← Nat.mul_assoc]
    exact Nat.mul_mod_left _ _
  have ho := or_low _ hv j (by omega) hm
  have hnum : num (s.2 ++ oneAt (8 - r) j) = num s.2 * 2 ^ (8 - r) + 2 ^ j := by
    rw [num_append, oneAt_num (8 - r) (by omega) j hj]
    unfold oneAt
    rw [List.length_set, List.length_replicate]
  have h2 : ∀ x ∈ s.2 ++ oneAt (8 - r) j, x < 2 := by
    intro x hx
    rcases List.mem_append.mp hx with hx | hx
    · exact hs.two x hx
    · exact oneAt_two x hx
  have hlen : (s.2 ++ oneAt (8 - r) j).length = 8 := by unfold oneAt; rw [List.length_append, List.length_set, List.length_replicate]; omega
  have hlt := num_lt _ h2
  rw [hlen, hnum] at hlt
  refine ⟨hlt, ho, oneAt (8 - r) j, by unfold oneAt; rw [List.length_set, List.length_replicate]; omega, oneAt_has hj, ?_⟩
  rw [bitsB_snoc, ← hnum, bits8_num hlen h2, ← List.append_assoc, hs.bits]
/-- All but the last byte. -/
theorem pack_init {bs : List Nat} (h : ∀ x ∈ bs, x < 2) (hn : bs ≠ []) : ∃ (init : List Nat) (v : Nat) (q : List Nat), packB bs = init ++ [v] ∧ bitsB init ++ q = bs ∧ q ≠ [] := by
  obtain ⟨s, hs, e⟩ := pack_state h
  by_cases h0 : s.2.length = 0
  · have h0' := List.length_eq_zero_iff.mp h0
    have hb := hs.bits
    rw [h0', List.append_nil] at hb
    rcases List.eq_nil_or_concat s.1 with h1 | ⟨init, v, h1⟩
    · rw [h1] at hb; exact absurd hb.symm hn
    · rw [List.concat_eq_append] at h1
      refine ⟨init, v, bits8 v, by rw [e, fin, if_pos h0, h1], by rw [← bitsB_snoc, ← h1, hb], by simp [bits8]⟩
  · exact ⟨s.1, _, s.2, by rw [e, fin, if_neg h0], hs.bits, fun h => h0 (by rw [h]; rfl)⟩

/-! ### The lengths -/
def fS (m i : Nat) : Nat := max 1 (min (i + 1) (m - 1))
def partL (g : Nat → Int) (sy : List Nat) (k : Nat) : List Int := (List.range 256).map fun x => if x ∈ sy ∧ sy.idxOf x < k then g (sy.idxOf x) else 0
/-- Those of the first k bytes are set, the others are 1 yet. -/
def lwK (sy : List Nat) (k : Nat) : List Int := (List.range 256).map fun x => if x ∈ sy then (if sy.idxOf x < k then ((fS sy.length (sy.idxOf x) : Nat) : Int) else 1) else 0
theorem rng_at (f : Nat → Int) {x : Nat} (h : x < 256) : ((List.range 256).map f).getD x 0 = f x := by
  rw [List.getD_eq_getElem?_getD, List.getElem?_map, List.getElem?_range h]; rfl
theorem rng_set (f g : Nat → Int) {y : Nat} (v : Int) (h : ∀ x, x < 256 → x ≠ y → f x = g x) (hv : g y = v) : ((List.range 256).map f).set y v = (List.range 256).map g := by
  apply List.ext_getElem
  · simp
  · intro i h1 h2
    have hi : i < 256 := by simpa using h2
    rw [List.getElem_set]
    split
    · rename_i e; subst e; simp [hv]
    · rename_i e; simp [h i hi (Ne.symm e)]
theorem idx_at {sy : List Nat} (hn : sy.Nodup) {k : Nat} (hk : k < sy.length) : sy.idxOf (sy.getD k 0) = k := by
  rw [List.getD_eq_getElem?_getD, List.getElem?_eq_getElem hk]
  exact hn.idxOf_getElem k hk
theorem mem_at {sy : List Nat} {k : Nat} (hk : k < sy.length) : sy.getD k 0 ∈ sy := by
  rw [List.getD_eq_getElem?_getD, List.getElem?_eq_getElem hk]; exact List.getElem_mem hk
theorem idx_ne {sy : List Nat} {k x : Nat} (hk : k < sy.length) (hx : x ∈ sy) (hne : x ≠ sy.getD k 0) : sy.idxOf x ≠ k := fun e => hne (by
  have := List.getElem_idxOf (List.idxOf_lt_length_iff.2 hx)
  rw [List.getD_eq_getElem?_getD, List.getElem?_eq_getElem hk]
  simp only [Option.getD_some]
  rw [← this]; simp only [e])
theorem lwK_next {sy : List Nat} (hn : sy.Nodup) {k : Nat} (hk : k < sy.length) : (lwK sy k).set (sy.getD k 0) ((fS sy.length k : Nat) : Int) = lwK sy (k + 1) := by
  unfold lwK
  refine rng_set _ _ _ (fun x _ hne => ?_) ?_
  · by_cases hx : x ∈ sy
    · have := idx_ne hk hx hne
      rw [if_pos hx, if_pos hx]
      by_cases h : sy.idxOf x < k
      · rw [if_pos h, if_pos (by omega)]
      · rw [if_neg h, if_neg (by omega)]
    · rw [if_neg hx, if_neg hx]
  · rw [if_pos (mem_at hk), idx_at hn hk, if_pos (by omega)]
theorem lwK_mark {sy : List Nat} {y : Nat} : (lwK sy 0).set y 1 = lwK (sy ++ [y]) 0 := by
  unfold lwK
  refine rng_set _ _ _ (fun x _ hne => ?_) (by simp)
  by_cases hx : x ∈ sy
  · rw [if_pos hx, if_pos (List.mem_append_left _ hx), if_neg (by omega), if_neg (by omega)]
  · rw [if_neg hx, if_neg (by simp [hx, hne])]
theorem lwK_at {sy : List Nat} {k x : Nat} (hx : x < 256) : (lwK sy k).getD x 0 = if x ∈ sy then (if sy.idxOf x < k then ((fS sy.length (sy.idxOf x) : Nat) : Int) else 1) else 0 := rng_at _ hx
theorem lwK_len (sy : List Nat) (k : Nat) : (lwK sy k).length = 256 := by simp [lwK]
theorem lwK_none : lwK [] 0 = List.replicate 256 0 := by
  unfold lwK
  rw [List.eq_replicate_iff]
  refine ⟨by rw [List.length_map, List.length_range], fun b hb => ?_⟩
  obtain ⟨x, _, rfl⟩ := List.mem_map.1 hb
  rw [if_neg List.not_mem_nil]
theorem ksum_none : ksum (List.replicate 256 0) = 0 := by decide +kernel
theorem ksum_put {m : List Int} {i : Nat} (hi : i < m.length) (h0 : m.getD i 0 = 0) (v : Int) : ksum (m.set i v) = ksum m + kterm v := by
  have e : m = m.take i ++ m.getD i 0 :: m.drop (i + 1) := by
    rw [List.getD_eq_getElem?_getD, List.getElem?_eq_getElem hi]
    show m = m.take i ++ m[i] :: m.drop (i + 1)
    rw [← List.drop_eq_getElem_cons hi, List.take_append_drop]
  have hs : m.set i v = m.take i ++ v :: m.drop (i + 1) := List.set_eq_take_append_cons_drop .. |>.trans (if_pos hi)
  have ha : ∀ a b : List Int, ksum (a ++ b) = ksum a + ksum b := fun a b => by unfold ksum; rw [List.map_append, List.sum_append]
  have hc : ∀ (x : Int) (b : List Int), ksum (x :: b) = kterm x + ksum b := fun x b => by unfold ksum; rw [List.map_cons, List.sum_cons]
  rw [hs]
  conv => rhs; rw [e]
  rw [ha, hc, ha, hc, h0]
  show _ = _ + (0 + _) + _
  omega
theorem part_sum {sy : List Nat} (hn : sy.Nodup) (h256 : ∀ x ∈ sy, x < 256) (g : Nat → Int) : ∀ k, k ≤ sy.length → ksum (partL g sy k) = ((List.range k).map fun i => kterm (g i)).sum
  | 0, _ => by
    have : partL g sy 0 = List.replicate 256 0 := by
      unfold partL
      rw [List.eq_replicate_iff]
      refine ⟨by rw [List.length_map, List.length_range], fun b hb => ?_⟩
      obtain ⟨x, _, rfl⟩ := List.mem_map.1 hb
      rw [if_neg (fun e => absurd e.2 (Nat.not_lt_zero _))]
    rw [this, ksum_none]; rfl
  | k + 1, hk => by
    have hk' : k < sy.length := by omega
    have e : partL g sy (k + 1) = (partL g sy k).set (sy.getD k 0) (g k) := by
      unfold partL
      refine (rng_set _ _ _ (fun x _ hne => ?_) ?_).symm
      · by_cases hx : x ∈ sy
        · have := idx_ne hk' hx hne
          by_cases h : sy.idxOf x < k
          · rw [if_pos ⟨hx, h⟩, if_pos ⟨hx, by omega⟩]
          · rw [if_neg (fun e => h e.2), if_neg (fun e => by have := e.2; omega)]
        · rw [if_neg (fun e => hx e.1), if_neg (fun e => hx e.1)]
      · rw [idx_at hn hk', if_pos ⟨mem_at hk', by omega⟩]
    have h0 : (partL g sy k).getD (sy.getD k 0) 0 = 0 := by
      unfold partL
      rw [rng_at _ (h256 _ (mem_at hk')), idx_at hn hk', if_neg (fun e => by have := e.2; omega)]
    rw [e, ksum_put (by unfold partL; simp; exact h256 _ (mem_at hk')) h0, part_sum hn h256 g k (by omega), List.range_succ, List.map_append, List.sum_append]
    simp
theorem lwK_part (sy : List Nat) : lwK sy sy.length = partL (fun i => ((fS sy.length i : Nat) : Int)) sy sy.length := by
  unfold lwK partL
  refine List.map_congr_left fun x _ => ?_
  by_cases hx : x ∈ sy
  · rw [if_pos hx, if_pos (List.idxOf_lt_length_iff.2 hx), if_pos ⟨hx, List.idxOf_lt_length_iff.2 hx⟩]
  · rw [if_neg hx, if_neg (fun e => hx e.1)]
theorem fS_sums : ∀ m, m ≤ 12 → 1 ≤ m → ((List.range m).map fun i => kterm ((fS m i : Nat) : Int)).sum = if m = 1 then 1024 else 2048 := by decide
theorem used_single {l : List Int} {s : Nat} (hp : 0 < l.getD s 0) (ho : ∀ x, x < 256 → x ≠ s → l.getD x 0 = 0) : ∀ k, k ≤ 256 → usedN l k = if s < k then 1 else 0
  | 0, _ => rfl
  | k + 1, hk => by
    rw [usedN, used_single hp ho k (by omega)]
    by_cases e : k = s
    · subst e; rw [if_pos hp, if_neg (by omega), if_pos (by omega)]
    · rw [if_neg (by rw [ho k (by omega) e]; decide)]
      by_cases h : s < k
      · rw [if_pos h, if_pos (by omega)]
      · rw [if_neg h, if_neg (by omega)]
/-- The lengths are those of a code that can be read. -/
theorem lw_code {sy : List Nat} (hn : sy.Nodup) (h256 : ∀ x ∈ sy, x < 256) (h1 : 1 ≤ sy.length) (h12 : sy.length ≤ 12) :
    ksum (lwK sy sy.length) ≤ 2048 ∧ badT (lwK sy sy.length) = false ∧ (∀ x ∈ lwK sy sy.length, 0 ≤ x ∧ x ≤ 11) ∧ ∀ i ∈ sy, Has (lwK sy sy.length) i := by
  have hs : ksum (lwK sy sy.length) = if sy.length = 1 then 1024 else 2048 := by
    rw [lwK_part, part_sum hn h256 _ _ (Nat.le_refl _)]; exact fS_sums _ h12 h1
  have hf : ∀ m, m ≤ 12 → ∀ i, 1 ≤ fS m i ∧ fS m i ≤ 11 := fun m hm i => by unfold fS; omega
  have hr : ∀ x, x < 256 → 0 ≤ (lwK sy sy.length).getD x 0 ∧ (lwK sy sy.length).getD x 0 ≤ 11 ∧ (x ∈ sy → 1 ≤ (lwK sy sy.length).getD x 0) := fun x hx => by
    rw [lwK_at hx]
    have := hf _ h12 (sy.idxOf x)
    by_cases h : x ∈ sy
    · rw [if_pos h, if_pos (List.idxOf_lt_length_iff.2 h)]; exact ⟨by omega, by omega, fun _ => by omega⟩
    · rw [if_neg h]; exact ⟨by omega, by omega, fun h' => absurd h' h⟩
  refine ⟨by rw [hs]; split <;> omega, ?_, fun x hx => ?_, fun i hi => ?_⟩
  · unfold badT
    by_cases e : sy.length = 1
    · obtain ⟨y, rfl⟩ := List.length_eq_one_iff.1 e
      have hy := h256 y (List.mem_singleton.2 rfl)
      have hv : (lwK [y] [y].length).getD y 0 = 1 := by rw [lwK_at hy]; simp [fS]
      have ho : ∀ x, x < 256 → x ≠ y → (lwK [y] [y].length).getD x 0 = 0 := fun x hx hne => by rw [lwK_at hx, if_neg (by simpa using hne)]
      have hu := used_single (by rw [hv]; decide) ho 256 (Nat.le_refl _)
      rw [if_pos hy] at hu
      have h2 := (used_one (by rw [hv]; decide) (by rw [lwK_len]; exact Nat.le_refl 256) hy hu).2
      rw [hv] at h2
      rw [hs, hu, h2]; rfl
    · rw [hs, if_neg e]; rfl
  · obtain ⟨i, hi, rfl⟩ := List.mem_iff_getElem.1 hx
    rw [lwK_len] at hi
    have := hr i hi
    rw [List.getD_eq_getElem?_getD, List.getElem?_eq_getElem (by rw [lwK_len]; exact hi)] at this
    exact ⟨this.1, this.2.1⟩
  · have := hr i (h256 i hi)
    exact ⟨h256 i hi, this.2.2 hi, this.2.1⟩
theorem words_len (l : List Int) : ∀ ss : List Nat, (ss.flatMap (wordOf l)).length = (ss.map fun i => (l.getD i 0).toNat).sum
  | [] => rfl
  | i :: ss => by
    rw [List.flatMap_cons, List.length_append, words_len l ss, List.map_cons, List.sum_cons]
    unfold wordOf
    rw [wb_len]
/-- Packed bytes are bytes. -/
theorem push_lt {s : List Nat × List Nat} (h2 : ∀ x ∈ s.2, x < 2) (h : ∀ x ∈ s.1, x < 256) {b : Nat} (hb : b < 2) : ∀ x ∈ (push s b).1, x < 256 := by
  unfold push
  by_cases h0 : s.2.length = 7
  · rw [if_pos h0]
    intro x hx
    rcases List.mem_append.mp hx with hx | hx
    · exact h x hx
    · rw [List.mem_singleton] at hx
      subst hx
      have := num_lt (s.2 ++ [b]) (fun x hx => by
        rcases List.mem_append.mp hx with hx | hx
        · exact h2 x hx
        · rw [List.mem_singleton] at hx; subst hx; exact hb)
      rw [List.length_append, h0] at this
      exact this
  · rw [if_neg h0]; exact h
theorem pushes_lt : ∀ (l bs : List Nat) (s : List Nat × List Nat), Pk bs s → (∀ x ∈ s.1, x < 256) → (∀ x ∈ l, x < 2) → ∀ x ∈ (l.foldl push s).1, x < 256
  | [], _, _, _, h, _ => h
  | b :: l, bs, s, hs, h, hl => by
    have hb := hl b (List.mem_cons_self ..)
    exact pushes_lt l (bs ++ [b]) (push s b) (hs.push hb) (push_lt hs.two h hb) (fun y hy => hl y (List.mem_cons_of_mem _ hy))
theorem packB_lt {bs : List Nat} (h : ∀ x ∈ bs, x < 2) : ∀ x ∈ packB bs, x < 256 := by
  have h1 := pushes_lt bs [] ([], []) Pk.none (by simp) h
  have h2 := Pk.none.pushes h
  rw [List.nil_append] at h2
  unfold packB fin
  by_cases h0 : (bs.foldl push ([], [])).2.length = 0
  · rw [if_pos h0]; exact h1
  · rw [if_neg h0]
    intro x hx
    rcases List.mem_append.mp hx with hx | hx
    · exact h1 x hx
    · rw [List.mem_singleton] at hx
      subst hx
      have hn := num_lt _ h2.two
      have hf := h2.few
      generalize (bs.foldl push ([], [])).2.length = r at *
      have hp : 2 ^ r * 2 ^ (8 - r) = 256 := by rw [← Nat.pow_add, show r + (8 - r) = 8 by omega]
      rw [← hp]
      exact Nat.mul_lt_mul_of_pos_right hn (Nat.pow_pos (by decide))
theorem packB_len {bs : List Nat} (h : ∀ x ∈ bs, x < 2) : 8 * (packB bs).length ≤ bs.length + 7 := by
  have := congrArg List.length (packB_bits h)
  rw [bitsB_len, List.length_append, List.length_replicate] at this
  omega
theorem runsB_lt {rs : List (Nat × Nat)} (h : ∀ r ∈ rs, r.1 ≤ 11 ∧ 1 ≤ r.2 ∧ r.2 ≤ 16) : ∀ x ∈ runsB rs, x < 256 := by
  intro x hx
  unfold runsB at hx
  obtain ⟨r, hr, rfl⟩ := List.mem_map.mp hx
  have := h r hr
  omega
theorem runs_few : ∀ {rs : List (Nat × Nat)}, (∀ r ∈ rs, r.1 ≤ 11 ∧ 1 ≤ r.2 ∧ r.2 ≤ 16) → rs.length ≤ (runsL rs).length
  | [], _ => Nat.zero_le _
  | r :: rs, h => by
    have ih := runs_few (rs := rs) fun r hr => h r (List.mem_cons_of_mem _ hr)
    have := h r (List.mem_cons_self ..)
    unfold runsL at *
    rw [List.flatMap_cons, List.length_append, List.length_replicate, List.length_cons]
    omega
end Go.Proofs.Ytpaefpjggglmaaa.Wd
