/- What nodes' bytes say: read back, cut short, with one byte more (plain Lean, no program). -/
import Derived.Test.YtlcchefiicalpaaNd
namespace Go.Proofs.Ytlcchefiicalpaa.Nd
open Vint

/-- The first k entries of a node. -/
def pre (n : N) (k : Nat) : N := ⟨n.h, n.ks.take k, n.ps.take k, n.gs.take k, n.cs.take k⟩
theorem take_getD {α : Type} (l : List α) (k : Nat) (d : α) (h : k < l.length) : l.take (k + 1) = l.take k ++ [l.getD k d] := by
  rw [List.take_add_one, List.getElem?_eq_getElem h, List.getD_eq_getElem?_getD, List.getElem?_eq_getElem h]
  rfl
theorem Ok.pre_all {n : N} (h : Ok n) : pre n n.ks.length = n := by
  obtain ⟨hh, ks, ps, gs, cs⟩ := n
  unfold pre
  dsimp only
  rw [List.take_length]
  by_cases h0 : hh = 0
  · obtain ⟨h1, h2, h3, -⟩ := h.leaf h0
    dsimp only at h1 h2 h3
    rw [List.take_of_length_le (by omega), List.take_of_length_le (by omega), h3, List.take_nil]
  · obtain ⟨h1, -, h3, h4, -⟩ := h.inner h0
    dsimp only at h1 h3 h4
    rw [h3, h4, List.take_nil, List.take_nil, List.take_of_length_le (by omega)]
theorem Ok.entry_len {n : N} (h : Ok n) (i : Nat) : (entry n i).length = width n.h.toNat := by
  unfold entry width
  have := h.h0
  by_cases h0 : n.h = 0
  · rw [if_pos h0, if_pos (by omega)]; rfl
  · rw [if_neg h0, if_neg (by omega)]; rfl
theorem Ok.entry_lt {n : N} (h : Ok n) {i : Nat} (hi : i < n.ks.length) : ∀ x ∈ entry n i, x < 268435456 := by
  have hk := h.key i hi
  intro x hx
  unfold entry at hx
  by_cases h0 : n.h = 0
  · rw [if_pos h0] at hx
    obtain ⟨-, -, -, h4⟩ := h.leaf h0
    obtain ⟨⟨p1, p2, p3, p4, p5⟩, p6, p7, p8, p9⟩ := h4 i hi
    simp only [List.mem_cons, List.not_mem_nil, or_false] at hx
    omega
  · rw [if_neg h0] at hx
    obtain ⟨-, -, -, -, h4⟩ := h.inner h0
    obtain ⟨⟨p1, p2, p3, p4, p5⟩, p8, p9⟩ := h4 i hi
    simp only [List.mem_cons, List.not_mem_nil, or_false] at hx
    omega
theorem Ok.more {n : N} (h : Ok n) {k : Nat} (hk : k < n.ks.length) : more (pre n k) (entry n k) = pre n (k + 1) := by
  have hkey := h.key k hk
  unfold Nd.more pre entry
  dsimp only
  by_cases h0 : n.h = 0
  · obtain ⟨h1, h2, h3, h4⟩ := h.leaf h0
    obtain ⟨⟨p1, p2, p3, p4, p5⟩, p6, p7, p8, p9⟩ := h4 k hk
    rw [if_pos h0, if_pos h0, take_getD n.ks k 0 hk, take_getD n.ps k (0, 0, 0) (by omega), take_getD n.gs k 0 (by omega), h3, List.take_nil, List.take_nil]
    simp only [List.getD_cons_zero, List.getD_cons_succ]
    have e1 : ((at_ n.ks k).toNat : Int) = n.ks.getD k 0 := Int.toNat_of_nonneg hkey.1
    have e2 : ((t3 n.ps k).1.toNat : Int) = (t3 n.ps k).1 := Int.toNat_of_nonneg p1
    have e3 : ((t3 n.ps k).2.1.toNat : Int) = (t3 n.ps k).2.1 := Int.toNat_of_nonneg (by omega)
    have e4 : ((t3 n.ps k).2.2.toNat : Int) = (t3 n.ps k).2.2 := Int.toNat_of_nonneg p6
    have e5 : ((at_ n.gs k).toNat : Int) = n.gs.getD k 0 := Int.toNat_of_nonneg p8
    rw [e1, e2, e3, e4, e5]
    rfl
  · obtain ⟨h1, -, h3, h5, h4⟩ := h.inner h0
    obtain ⟨⟨p1, p2, p3, p4, p5⟩, p8, p9⟩ := h4 k hk
    rw [if_neg h0, if_neg h0, take_getD n.ks k 0 hk, take_getD n.cs k (0, 0, 0) (by omega), h3, h5, List.take_nil, List.take_nil]
    simp only [List.getD_cons_zero, List.getD_cons_succ]
    have e1 : ((at_ n.ks k).toNat : Int) = n.ks.getD k 0 := Int.toNat_of_nonneg hkey.1
    have e2 : ((t3 n.cs k).1.toNat : Int) = (t3 n.cs k).1 := Int.toNat_of_nonneg p1
    have e3 : ((t3 n.cs k).2.1.toNat : Int) = (t3 n.cs k).2.1 := Int.toNat_of_nonneg (by omega)
    have e4 : ((t3 n.cs k).2.2.toNat : Int) = (t3 n.cs k).2.2 := Int.toNat_of_nonneg p8
    rw [e1, e2, e3, e4]
    rfl
theorem Ok.ents {n : N} (h : Ok n) : ∀ (k : Nat) (t : List Nat), k ≤ n.ks.length → ents n.h.toNat k (putL (entries n k) ++ t) = .ok (pre n k, t)
  | 0, t, _ => by
    unfold Nd.ents entries pre
    rw [Int.toNat_of_nonneg h.h0]
    rfl
  | k + 1, t, hk => by
    rw [Nd.ents, entries_next, putL_app, List.append_assoc, h.ents k _ (by omega)]
    dsimp only
    have hp := rds_put (entry n k) t (h.entry_lt (by omega))
    rw [h.entry_len] at hp
    rw [hp]
    dsimp only
    rw [h.more (by omega)]
theorem Ok.ents_cut {n : N} (h : Ok n) : ∀ (k j : Nat), k ≤ n.ks.length → j < (putL (entries n k)).length → Nd.ents n.h.toNat k ((putL (entries n k)).take j) = .error 2
  | 0, j, _, hj => by simp [entries, putL] at hj
  | k + 1, j, hk, hj => by
    rw [Nd.ents]
    rw [entries_next, putL_app] at hj ⊢
    rcases Nat.lt_or_ge j (putL (entries n k)).length with c | c
    · rw [List.take_append_of_le_length (by omega), h.ents_cut k j (by omega) c]
    · rw [List.take_append, List.take_of_length_le c, h.ents k _ (by omega)]
      dsimp only
      have hp := rds_cut (entry n k) (j - (putL (entries n k)).length) (h.entry_lt (by omega)) (by rw [List.length_append] at hj; omega)
      rw [h.entry_len] at hp
      rw [hp]
theorem Ok.head {n : N} (h : Ok n) : n.h.toNat < 268435456 ∧ n.ks.length < 268435456 := by have := h.h6; have := h.few; omega
theorem rds_one (x : Nat) (t : List Nat) (h : x < 268435456) : rds 1 (vint x ++ t) = .ok ([x], t) := by
  have := rds_put [x] t (by simpa using h)
  rw [show putL [x] = vint x by simp [putL]] at this
  exact this
theorem rds_one_cut (x j : Nat) (h : x < 268435456) (hj : j < (vint x).length) : rds 1 ((vint x).take j) = .error 2 := by
  have := rds_cut [x] j (by simpa using h) (by simpa [putL] using hj)
  rw [show putL [x] = vint x by simp [putL]] at this
  exact this
theorem enc_is (n : N) : enc n = vint n.h.toNat ++ (vint n.ks.length ++ putL (entries n n.ks.length)) := by
  unfold enc nums
  rw [putL_cons, putL_cons]
/-- What was encoded is decoded; with bytes behind it is too long. -/
theorem dec_enc {n : N} (h : Ok n) (t : List Nat) : dec (enc n ++ t) = if t ≠ [] then (zero, 3) else (n, 0) := by
  obtain ⟨b1, b2⟩ := h.head
  unfold dec
  rw [enc_is, List.append_assoc, List.append_assoc, rds_one _ _ b1]
  dsimp only
  rw [rds_one _ _ b2]
  dsimp only
  rw [show ([n.ks.length] : List Nat).getD 0 0 = n.ks.length from rfl, show ([n.h.toNat] : List Nat).getD 0 0 = n.h.toNat from rfl, if_neg (by have := h.few; omega), h.ents _ _ (Nat.le_refl _)]
  dsimp only
  rw [h.pre_all]
  by_cases ht : t ≠ []
  · rw [if_pos ht, if_pos ht]
  · rw [if_neg ht, if_neg ht, if_pos h]
theorem dec_cut {n : N} (h : Ok n) (j : Nat) (hj : j < (enc n).length) : dec ((enc n).take j) = (zero, 2) := by
  obtain ⟨b1, b2⟩ := h.head
  unfold dec
  rw [enc_is] at hj ⊢
  rw [List.length_append, List.length_append] at hj
  rcases Nat.lt_or_ge j (vint n.h.toNat).length with c | c
  · rw [List.take_append_of_le_length (by omega), rds_one_cut _ _ b1 c]
  · rw [List.take_append, List.take_of_length_le c, rds_one _ _ b1]
    dsimp only
    rcases Nat.lt_or_ge (j - (vint n.h.toNat).length) (vint n.ks.length).length with c2 | c2
    · rw [List.take_append_of_le_length (by omega), rds_one_cut _ _ b2 c2]
    · rw [List.take_append, List.take_of_length_le c2, rds_one _ _ b2]
      dsimp only
      rw [show ([n.ks.length] : List Nat).getD 0 0 = n.ks.length from rfl, show ([n.h.toNat] : List Nat).getD 0 0 = n.h.toNat from rfl, if_neg (by have := h.few; omega), h.ents_cut _ _ (Nat.le_refl _) (by omega)]
/-- What the entries that were read look like. -/
structure EntsI (h k : Nat) (n : N) : Prop where
  hh : n.h = (h : Int)
  ks : n.ks.length = k
  ps : n.ps.length = if h = 0 then k else 0
  gs : n.gs.length = if h = 0 then k else 0
  cs : n.cs.length = if h = 0 then 0 else k
theorem entries_more (n : N) (xs : List Nat) {k : Nat} (hk : EntsI n.h.toNat k n) : entries (more n xs) k = entries n k := by
  unfold entries
  rw [List.flatMap_def, List.flatMap_def]
  congr 1
  refine List.map_congr_left fun i hi => ?_
  have hi : i < k := List.mem_range.1 hi
  have h1 := hk.ks
  have h2 := hk.ps
  have h3 := hk.gs
  have h4 := hk.cs
  have h5 := hk.hh
  unfold more entry at_ t3
  by_cases h0 : n.h = 0
  · rw [if_pos (show n.h.toNat = 0 by omega)] at h2 h3
    rw [if_pos h0]
    dsimp only
    rw [if_pos h0, if_pos h0]
    simp only [List.getD_eq_getElem?_getD]
    rw [List.getElem?_append_left (by omega), List.getElem?_append_left (by omega), List.getElem?_append_left (by omega)]
  · rw [if_neg (show ¬ n.h.toNat = 0 by omega)] at h4
    rw [if_neg h0]
    dsimp only
    rw [if_neg h0, if_neg h0]
    simp only [List.getD_eq_getElem?_getD]
    rw [List.getElem?_append_left (by omega), List.getElem?_append_left (by omega)]
theorem entry_more (n : N) (xs : List Nat) {k : Nat} (hk : EntsI n.h.toNat k n) (hx : xs.length = width n.h.toNat) : entry (more n xs) k = xs := by
  have h1 := hk.ks
  have h2 := hk.ps
  have h3 := hk.gs
  have h4 := hk.cs
  have h5 := hk.hh
  unfold width at hx
  unfold more entry at_ t3
  by_cases h0 : n.h = 0
  · rw [if_pos (show n.h.toNat = 0 by omega)] at h2 h3 hx
    rw [if_pos h0]
    dsimp only
    rw [if_pos h0]
    match xs, hx with
    | [a, b, c, d, e], _ =>
      simp only [List.getD_eq_getElem?_getD]
      rw [List.getElem?_append_right (by omega), List.getElem?_append_right (by omega), List.getElem?_append_right (by omega), h1, h2, h3]
      simp
  · rw [if_neg (show ¬ n.h.toNat = 0 by omega)] at h4 hx
    rw [if_neg h0]
    dsimp only
    rw [if_neg h0]
    match xs, hx with
    | [a, b, c, d], _ =>
      simp only [List.getD_eq_getElem?_getD]
      rw [List.getElem?_append_right (by omega), List.getElem?_append_right (by omega), h1, h4]
      simp
theorem more_i {n : N} {h k : Nat} (hk : EntsI h k n) (xs : List Nat) : EntsI h (k + 1) (more n xs) := by
  have h1 := hk.ks
  have h2 := hk.ps
  have h3 := hk.gs
  have h4 := hk.cs
  have h5 := hk.hh
  unfold more
  by_cases h0 : h = 0
  · rw [if_pos (show n.h = 0 by omega)]
    rw [if_pos h0] at h2 h3 h4
    refine ⟨h5, ?_, ?_, ?_, ?_⟩
    · show (n.ks ++ _).length = _; rw [List.length_append, h1]; rfl
    · show (n.ps ++ _).length = _; rw [List.length_append, h2, if_pos h0]; rfl
    · show (n.gs ++ _).length = _; rw [List.length_append, h3, if_pos h0]; rfl
    · show n.cs.length = _; rw [h4, if_pos h0]
  · rw [if_neg (show ¬ n.h = 0 by omega)]
    rw [if_neg h0] at h2 h3 h4
    refine ⟨h5, ?_, ?_, ?_, ?_⟩
    · show (n.ks ++ _).length = _; rw [List.length_append, h1]; rfl
    · show n.ps.length = _; rw [h2, if_neg h0]
    · show n.gs.length = _; rw [h3, if_neg h0]
    · show (n.cs ++ _).length = _; rw [List.length_append, h4, if_neg h0]; rfl
theorem ents_i : ∀ {h k : Nat} {s : List Nat} {n : N} {t : List Nat}, ents h k s = .ok (n, t) → EntsI h k n ∧ t.length ≤ s.length ∧ ((∀ b ∈ s, b < 256) → s = putL (entries n k) ++ t)
  | h, 0, s, n, t, e => by
    rw [ents] at e
    injection e with e
    injection e with e1 e2
    subst e1; subst e2
    refine ⟨⟨rfl, rfl, by simp, by simp, by simp⟩, Nat.le_refl _, fun _ => rfl⟩
  | h, k + 1, s, n, t, e => by
    rw [ents] at e
    cases h1 : ents h k s with
    | error x => rw [h1] at e; cases e
    | ok r =>
      obtain ⟨m, u⟩ := r
      rw [h1] at e
      dsimp only at e
      cases h2 : rds (width h) u with
      | error x => rw [h2] at e; cases e
      | ok r2 =>
        obtain ⟨xs, v⟩ := r2
        rw [h2] at e
        injection e with e
        injection e with e1 e2
        subst e1; subst e2
        obtain ⟨i1, i2, i3⟩ := ents_i h1
        obtain ⟨l1, -, l3⟩ := rds_len h2
        have hm : m.h.toNat = h := by rw [i1.hh]; rfl
        refine ⟨more_i i1 xs, by omega, fun hb => ?_⟩
        have e3 := i3 hb
        have hu := rds_inv (m := width h) (s := u) (fun b hbm => hb b (by rw [e3]; exact List.mem_append_right _ hbm)) h2
        rw [entries_next, entries_more m xs (by rw [hm]; exact i1), entry_more m xs (by rw [hm]; exact i1) (by rw [hm]; exact l1), putL_app, List.append_assoc, ← hu]
        exact e3
theorem one_of {xs : List Nat} (h : xs.length = 1) : xs = [xs.getD 0 0] := by
  match xs, h with
  | [x], _ => rfl
theorem dec_inv {b : List Nat} {n : N} (hb : ∀ x ∈ b, x < 256) (h : dec b = (n, 0)) : Ok n ∧ enc n = b := by
  unfold dec at h
  cases h1 : rds 1 b with
  | error e =>
    rw [h1] at h
    have := rds_err h1
    simp at h
    omega
  | ok r =>
    obtain ⟨hs, s⟩ := r
    rw [h1] at h
    dsimp only at h
    have b1 := rds_inv hb h1
    have hsb : ∀ x ∈ s, x < 256 := fun x hx => hb x (by rw [b1]; exact List.mem_append_right _ hx)
    cases h2 : rds 1 s with
    | error e =>
      rw [h2] at h
      have := rds_err h2
      simp at h
      omega
    | ok r =>
      obtain ⟨ms, t⟩ := r
      rw [h2] at h
      dsimp only at h
      have b2 := rds_inv hsb h2
      have htb : ∀ x ∈ t, x < 256 := fun x hx => hsb x (by rw [b2]; exact List.mem_append_right _ hx)
      by_cases h8 : 8 < ms.getD 0 0
      · rw [if_pos h8] at h; injection h with _ h; cases h
      · rw [if_neg h8] at h
        cases h3 : ents (hs.getD 0 0) (ms.getD 0 0) t with
        | error e =>
          rw [h3] at h
          dsimp only at h
          injection h with _ h
          subst h
          exfalso
          have key : ∀ (h k : Nat) (s : List Nat) (e : Nat), ents h k s = .error e → e = 2 ∨ e = 4 := by
            intro h k
            induction k with
            | zero => intro s e he; rw [ents] at he; cases he
            | succ k ih =>
              intro s e he
              rw [ents] at he
              cases q1 : ents h k s with
              | error x => rw [q1] at he; injection he with he; subst he; exact ih s x q1
              | ok r =>
                obtain ⟨m, u⟩ := r
                rw [q1] at he
                dsimp only at he
                cases q2 : rds (width h) u with
                | error x => rw [q2] at he; injection he with he; subst he; exact rds_err q2
                | ok r2 => rw [q2] at he; cases he
          have := key _ _ _ _ h3
          omega
        | ok r =>
          obtain ⟨m, u⟩ := r
          rw [h3] at h
          dsimp only at h
          by_cases hu : u ≠ []
          · rw [if_pos hu] at h; injection h with _ h; cases h
          · rw [if_neg hu] at h
            by_cases ho : Ok m
            · rw [if_pos ho] at h
              injection h with h _
              subst h
              obtain ⟨i1, -, i3⟩ := ents_i h3
              refine ⟨ho, ?_⟩
              have e3 := i3 htb
              have hu : u = [] := by simpa using hu
              rw [hu, List.append_nil] at e3
              rw [enc_is, i1.hh, i1.ks, Int.toNat_natCast, ← e3, b1, b2, one_of (rds_len h1).1, one_of (rds_len h2).1]
              simp [putL]
            · rw [if_neg ho] at h; injection h with _ h; cases h
end Go.Proofs.Ytlcchefiicalpaa.Nd
