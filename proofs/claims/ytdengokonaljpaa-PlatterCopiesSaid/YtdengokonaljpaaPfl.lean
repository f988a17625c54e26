/- What reading finds behind a Sync; the rounds of PlatterFails, as states. -/
import Derived.Test.YtdengokonaljpaaPlain
namespace Go.Proofs.Ytdengokonaljpaa
open Go.RowKit Go.Maps

/-- The first j cached writes applied: each block holds what the last of them to it says. -/
theorem applied_look (st : PSt) (n : Nat) (hn : n < st.blocks.length) : ∀ j, (applied st (fun _ => true) j).getD n [] = (scan st.cache n j).getD (st.blocks.getD n [])
  | 0 => rfl
  | j + 1 => by
    rw [applied, scan]
    cases hc : st.cache[j]? with
    | none => exact applied_look st n hn j
    | some p =>
      simp only [if_true]
      by_cases hp : p.1 = n
      · rw [if_pos hp, applyOne, hp, List.getD, List.getElem?_set_self (by rw [applied_length]; exact hn)]; rfl
      · rw [if_neg hp, applyOne, List.getD, List.getElem?_set_ne hp, ← List.getD]
        exact applied_look st n hn j
theorem sync_look (st : PSt) (n : Nat) (hn : n < st.blocks.length) : ({ st.count 3 with blocks := applied st (fun _ => true) st.cache.length, cache := [] } : PSt).look n = st.look n :=
  (look_none rfl n).trans (applied_look st n hn _)
theorem look_far {st : PSt} {n : Nat} (h : ∀ p ∈ st.cache, p.1 ≠ n) : st.look n = st.blocks.getD n [] := by
  unfold PSt.look
  rw [scan_none h]; rfl

/-- i rounds are over; the t-th operation of kind k is planned to fail. -/
structure Rnd (k t i : Nat) (st : PSt) : Prop where
  b : st.blocks.length = 64
  p : st.plan = [((k : Int), (t : Int))]
  o : ∀ j, 1 ≤ j → j ≤ 3 → st.ops j = i ∧ st.since j = i
  o0 : st.ops 0 = 0
  c : st.cache.length ≤ i
  z : ∀ j, i < j → j < 64 → st.look j = zero64
theorem hit_at {k t i : Nat} {st : PSt} {j : Nat} (hp : st.plan = [((k : Int), (t : Int))]) (hs : st.since j = i) : (st.count j).hit j = (decide (k = j) && decide (t = i + 1)) := by
  unfold PSt.hit
  have h1 : (st.count j).plan = [((k : Int), (t : Int))] := hp
  have h2 : (st.count j).since j = i + 1 := by simp [PSt.count, bump, hs]
  rw [h1, h2]
  simp only [List.any_cons, List.any_nil, Bool.or_false]
  congr 1
  · by_cases e : k = j
    · subst e; simp
    · simp [e]; omega
  · by_cases e : t = i + 1
    · subst e; simp
    · simp [e]; omega
theorem rnd_new (k t : Nat) : Rnd k t 0 ((newSt 64).plans [((k : Int), (t : Int))]) :=
  ⟨by simp [newSt, PSt.plans], rfl, fun _ _ _ => ⟨rfl, rfl⟩, rfl, Nat.le_refl _, fun j _ hj => by
    show (List.replicate 64 zero64).getD j [] = zero64
    rw [List.getD, List.getElem?_replicate, if_pos hj]; rfl⟩
theorem Rnd.small {k t i : Nat} {st : PSt} (h : Rnd k t i st) (hi : i < 1000) : Small st :=
  ⟨fun j hj => by
    rcases Nat.eq_zero_or_pos j with rfl | hp
    · rw [h.o0]; omega
    · rw [(h.o j hp hj).1]; omega, by have := h.c; omega, by rw [h.b]; omega, by rw [h.b]; omega⟩

/-- The state behind a round's Write; behind its Sync. -/
def rw1 (st : PSt) (n : Nat) (wh : Bool) : PSt := if wh then st.count 2 else (st.count 2).put n (all64 n)
def rw3 (st : PSt) (n : Nat) (wh sh : Bool) : PSt := if sh then ((rw1 st n wh).count 1).count 3 else { ((rw1 st n wh).count 1).count 3 with blocks := applied ((rw1 st n wh).count 1) (fun _ => true) ((rw1 st n wh).count 1).cache.length, cache := [] }
section
variable {k t i : Nat} {st : PSt} {wh rh sh : Bool}
theorem rnd_write (h : Rnd k t i st) (hi : i < 9) (hw : wh = (decide (k = 2) && decide (t = i + 1))) : st.write ((i + 1 : Nat) : Int) (all64 (i + 1)) = (if wh then 6 else 0, rw1 st (i + 1) wh) := by
  have hh := hit_at h.p (h.o 2 (by omega) (by omega)).2
  rw [← hw] at hh
  unfold PSt.write rw1
  rw [hh]
  cases wh with
  | true => rfl
  | false =>
    rw [if_neg (by decide), if_neg (by rw [h.b, all64_length]; omega), Int.toNat_natCast]; rfl
theorem rw1_cache : (rw1 st (i + 1) wh).cache.length = st.cache.length + (if wh then 0 else 1) := by
  unfold rw1; cases wh <;> simp [PSt.count, PSt.put]
theorem rw1_small (h : Rnd k t i st) (hi : i < 9) : Small (rw1 st (i + 1) wh) ∧ Small ((rw1 st (i + 1) wh).count 1) := by
  have hs := h.small (by omega)
  have hc := h.c
  have ho : ∀ j, j ≤ 3 → (rw1 st (i + 1) wh).ops j ≤ 20 := fun j hj => by
    have h0 := h.o0
    have h1 := (h.o 1 (by omega) (by omega)).1
    have h2 := (h.o 2 (by omega) (by omega)).1
    have h3 := (h.o 3 (by omega) (by omega)).1
    have hcases : j = 0 ∨ j = 1 ∨ j = 2 ∨ j = 3 := by omega
    rcases hcases with rfl | rfl | rfl | rfl <;> (unfold rw1; cases wh <;> simp [PSt.count, PSt.put, bump] <;> omega)
  have hb : (rw1 st (i + 1) wh).blocks.length = 64 := by unfold rw1; cases wh <;> exact h.b
  have hcl := rw1_cache (st := st) (i := i) (wh := wh)
  have hcl2 : (rw1 st (i + 1) wh).cache.length ≤ 20 := by rw [hcl]; cases wh <;> simp <;> omega
  exact ⟨small_of ho hcl2 (by omega) (by rw [hb]; omega) (by rw [hb]; omega), small_of (N := 21) (fun j hj => by have := ho j hj; simp only [PSt.count, bump]; split <;> omega) (by show (rw1 st (i + 1) wh).cache.length ≤ 21; omega) (by omega) (by show (rw1 st (i + 1) wh).blocks.length < 1000000; rw [hb]; omega) (by show 0 < (rw1 st (i + 1) wh).blocks.length; rw [hb]; omega)⟩
theorem rw1_look (h : Rnd k t i st) (j : Nat) (hj : i < j) (hj2 : j < 64) : (rw1 st (i + 1) wh).look j = if wh = false ∧ j = i + 1 then all64 (i + 1) else zero64 := by
  unfold rw1
  cases wh with
  | true =>
    rw [if_pos rfl, look_count, h.z j hj hj2, if_neg (by simp)]
  | false =>
    rw [if_neg (by decide), look_put, look_count, h.z j hj hj2]
    by_cases e : i + 1 = j
    · rw [if_pos e, if_pos ⟨rfl, e.symm⟩]
    · rw [if_neg e, if_neg (fun x => e x.2.symm)]
theorem rnd_read (h : Rnd k t i st) (hi : i < 9) (hr : rh = (decide (k = 1) && decide (t = i + 1))) : (rw1 st (i + 1) wh).read ((i + 1 : Nat) : Int) = if rh then (6, []) else (0, if wh then zero64 else all64 (i + 1)) := by
  have hp : (rw1 st (i + 1) wh).plan = [((k : Int), (t : Int))] := by unfold rw1; cases wh <;> exact h.p
  have hsn : (rw1 st (i + 1) wh).since 1 = i := by
    have := (h.o 1 (by omega) (by omega)).2
    unfold rw1; cases wh <;> simpa [PSt.count, PSt.put, bump] using this
  have hb : (rw1 st (i + 1) wh).blocks.length = 64 := by unfold rw1; cases wh <;> exact h.b
  have hh := hit_at hp hsn
  rw [← hr] at hh
  unfold PSt.read
  rw [hh]
  cases rh with
  | true => rfl
  | false =>
    rw [if_neg (by decide), if_neg (by rw [hb]; omega), Int.toNat_natCast, rw1_look h (i + 1) (by omega) (by omega)]
    cases wh
    · rw [if_pos ⟨rfl, rfl⟩]; rfl
    · rw [if_neg (by simp)]; rfl
theorem rnd_sync (h : Rnd k t i st) (hs : sh = (decide (k = 3) && decide (t = i + 1))) : ((rw1 st (i + 1) wh).count 1).sync = (if sh then 6 else 0, rw3 st (i + 1) wh sh) := by
  have hp : ((rw1 st (i + 1) wh).count 1).plan = [((k : Int), (t : Int))] := by unfold rw1; cases wh <;> exact h.p
  have hsn : ((rw1 st (i + 1) wh).count 1).since 3 = i := by
    have := (h.o 3 (by omega) (by omega)).2
    unfold rw1; cases wh <;> simpa [PSt.count, PSt.put, bump] using this
  have hh := hit_at hp hsn
  rw [← hs] at hh
  unfold PSt.sync rw3
  rw [hh]
  cases sh <;> rfl
theorem rnd_next (h : Rnd k t i st) : Rnd k t (i + 1) (rw3 st (i + 1) wh sh) ∧ (rw3 st (i + 1) wh sh).cache.length = if sh then (rw1 st (i + 1) wh).cache.length else 0 := by
  have hb : (rw1 st (i + 1) wh).blocks.length = 64 := by unfold rw1; cases wh <;> exact h.b
  have hp : (rw1 st (i + 1) wh).plan = [((k : Int), (t : Int))] := by unfold rw1; cases wh <;> exact h.p
  have ho : ∀ j, 1 ≤ j → j ≤ 3 → (((rw1 st (i + 1) wh).count 1).count 3).ops j = i + 1 ∧ (((rw1 st (i + 1) wh).count 1).count 3).since j = i + 1 := fun j h1 h2 => by
    have q1 := h.o 1 (by omega) (by omega)
    have q2 := h.o 2 (by omega) (by omega)
    have q3 := h.o 3 (by omega) (by omega)
    have hcases : j = 1 ∨ j = 2 ∨ j = 3 := by omega
    rcases hcases with rfl | rfl | rfl <;> (unfold rw1; cases wh <;> simp [PSt.count, PSt.put, bump, q1, q2, q3])
  have ho0 : (((rw1 st (i + 1) wh).count 1).count 3).ops 0 = 0 := by
    have := h.o0
    unfold rw1; cases wh <;> simpa [PSt.count, PSt.put, bump] using this
  have hc := h.c
  have hcl := rw1_cache (st := st) (i := i) (wh := wh)
  have hz : ∀ j, i + 1 < j → j < 64 → (rw1 st (i + 1) wh).look j = zero64 := fun j h1 h2 => by
    rw [rw1_look h j (by omega) h2, if_neg (by omega)]
  unfold rw3
  cases sh with
  | true => exact ⟨⟨hb, hp, ho, ho0, by show (rw1 st (i + 1) wh).cache.length ≤ i + 1; rw [hcl]; cases wh <;> simp <;> omega, hz⟩, rfl⟩
  | false =>
    refine ⟨⟨by show (applied _ _ _).length = 64; rw [applied_length]; exact hb, hp, ho, ho0, Nat.zero_le _, fun j h1 h2 => ?_⟩, rfl⟩
    exact (sync_look ((rw1 st (i + 1) wh).count 1) j (by show j < (rw1 st (i + 1) wh).blocks.length; omega)).trans (hz j h1 h2)
end
end Go.Proofs.Ytdengokonaljpaa
