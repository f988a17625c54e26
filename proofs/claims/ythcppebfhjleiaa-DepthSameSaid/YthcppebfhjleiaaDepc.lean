/- What the program's Kraft, Cost and Lengths are held to (as hypotheses, to be met by its walks); the statements' own check that the program is awake. -/
import Derived.Test.YthcppebfhjleiaaCounts
namespace Go.Proofs.Ythcppebfhjleiaa
open Go.RowKit

def KraftC : Prop := ∀ (w : World) (l : List Int), l.length = 256 → Calls Try.prog 12 #[.agg (ints l)] w fun e w' => e = .returned (.tuple #[.int .i64 ((kraftV l).1 : Int), .bool (kraftV l).2]) ∧ Below w.heap.size w w'
def CostC : Prop := ∀ (w : World) (c l : List Int), c.length = 256 → l.length = 256 → Calls Try.prog 13 #[.agg (ints c), .agg (ints l)] w fun e w' => e = .returned (.int .i64 (costV c l)) ∧ Below w.heap.size w w'
def LengthsC (F : List Int → List Int × Bool) : Prop := ∀ (w : World) (c : List Int), c.length = 256 → Calls Try.prog 10 #[.agg (ints c)] w fun e w' => e = .returned (.tuple #[.agg (ints (F c).1), .bool (F c).2]) ∧ Below w.heap.size w w'
/-- How many counts are greater than nought. -/
def used (c : List Int) : Nat := c.countP fun x => decide (0 < x)
structure LensOk (F : List Int → List Int × Bool) : Prop where
  len : ∀ c : List Int, c.length = 256 → (F c).1.length = 256
  bad : ∀ c : List Int, c.length = 256 → c.any cbad = true → F c = (List.replicate 256 0, false)
  ok : ∀ c : List Int, c.length = 256 → c.any cbad = false → (F c).2 = true
  pos : ∀ c : List Int, c.length = 256 → c.any cbad = false → ∀ i, i < 256 → (0 < (F c).1.getD i 0 ↔ 0 < c.getD i 0)
  rng : ∀ c : List Int, c.length = 256 → c.any cbad = false → ∀ i, i < 256 → 0 ≤ (F c).1.getD i 0 ∧ (F c).1.getD i 0 ≤ 11
  one : ∀ c : List Int, c.length = 256 → c.any cbad = false → used c = 1 → ksum (F c).1 = 1024
  full : ∀ c : List Int, c.length = 256 → c.any cbad = false → 2 ≤ used c → ksum (F c).1 = 2048
  mono : ∀ c : List Int, c.length = 256 → c.any cbad = false → ∀ i j, i < 256 → j < 256 → 0 < c.getD j 0 → c.getD j 0 < c.getD i 0 → (F c).1.getD i 0 ≤ (F c).1.getD j 0

/-- The counts of the check. -/
def cN (n : Nat) : List Int := ((List.replicate n (0 : Int)).set 97 1).set 98 5
def cA : List Int := cN 256
theorem cA_len : cA.length = 256 := by decide +kernel
theorem cA_ok : cA.any cbad = false := by decide +kernel
theorem cA_used : used cA = 2 := by decide +kernel
theorem cN_at {n i : Nat} (h : i < n) : (cN n).getD i 0 = if i = 97 then 1 else if i = 98 then 5 else 0 := by
  unfold cN
  rw [List.getD_eq_getElem?_getD, List.getElem?_set, List.getElem?_set, List.getElem?_replicate, List.length_set, List.length_replicate]
  by_cases h1 : i = 98
  · subst h1; simp [h]
  · by_cases h2 : i = 97
    · subst h2; simp [h]
    · simp [h1, h2, h, Ne.symm h1, Ne.symm h2]
theorem cA_at {i : Nat} (h : i < 256) : cA.getD i 0 = if i = 97 then 1 else if i = 98 then 5 else 0 := cN_at h
/-- A sum over lengths where all but two are nought. -/
theorem ksum_two : ∀ {l : List Int} {a b : Nat}, a < b → b < l.length → (∀ i, i < l.length → i ≠ a → i ≠ b → kterm (l.getD i 0) = 0) → ksum l = kterm (l.getD a 0) + kterm (l.getD b 0) := by
  intro l a b hab hb h
  have e : ∀ k, k ≤ l.length → ksum (l.take k) = (if a < k then kterm (l.getD a 0) else 0) + (if b < k then kterm (l.getD b 0) else 0) := by
    intro k
    induction k with
    | zero => intro _; simp [ksum]
    | succ k ih =>
      intro hk
      rw [ksum_next (by omega), ih (by omega)]
      by_cases h1 : k = a
      · subst h1
        rw [if_neg (by omega), if_neg (by omega), if_pos (by omega), if_neg (by omega)]; omega
      · by_cases h2 : k = b
        · subst h2
          rw [if_pos (by omega), if_neg (by omega), if_pos (by omega), if_pos (by omega)]; omega
        · rw [h k (by omega) h1 h2]
          by_cases h3 : a < k
          · rw [if_pos h3, if_pos (show a < k + 1 by omega)]
            by_cases h4 : b < k
            · rw [if_pos h4, if_pos (show b < k + 1 by omega)]; omega
            · rw [if_neg h4, if_neg (show ¬ b < k + 1 by omega)]
          · rw [if_neg h3, if_neg (show ¬ a < k + 1 by omega), if_neg (show ¬ b < k by omega), if_neg (show ¬ b < k + 1 by omega)]
  have := e l.length (Nat.le_refl _)
  rw [List.take_length, if_pos (by omega), if_pos (by omega)] at this
  exact this
theorem kterm_half (x : Int) : kterm x ≤ 1024 := by
  unfold kterm
  split
  · exact Nat.pow_le_pow_right (n := 2) (show 0 < 2 by decide) (show 11 - x.toNat ≤ 10 by omega)
  · decide
theorem kterm_is {x : Int} (h0 : 0 ≤ x) (h1 : x ≤ 11) (h : kterm x = 1024) : x = 1 := by
  obtain ⟨n, rfl⟩ : ∃ n : Nat, x = n := ⟨x.toNat, by omega⟩
  have hn : n ≤ 11 := by omega
  unfold kterm at h
  rw [Int.toNat_natCast] at h
  have : n = 0 ∨ n = 1 ∨ n = 2 ∨ n = 3 ∨ n = 4 ∨ n = 5 ∨ n = 6 ∨ n = 7 ∨ n = 8 ∨ n = 9 ∨ n = 10 ∨ n = 11 := by omega
  rcases this with rfl | rfl | rfl | rfl | rfl | rfl | rfl | rfl | rfl | rfl | rfl | rfl <;> first | rfl | (simp at h)
section
variable {F : List Int → List Int × Bool}
theorem lens_kraft (hF : LensOk F) {c : List Int} (hc : c.length = 256) (hb : c.any cbad = false) : kraftV (F c).1 = (ksum (F c).1, true) := by
  unfold kraftV
  rw [if_neg]
  intro h
  rw [List.any_eq_true] at h
  obtain ⟨x, hx, hk⟩ := h
  obtain ⟨i, hi, rfl⟩ := List.mem_iff_getElem.1 hx
  have := hF.rng c hc hb i (by rw [hF.len c hc] at hi; exact hi)
  rw [List.getD_eq_getElem?_getD, List.getElem?_eq_getElem hi] at this
  simp only [Option.getD_some] at this
  unfold kbad at hk
  simp at hk
  omega
theorem awake_lens (hF : LensOk F) : (F cA).1.getD 97 0 = 1 ∧ (F cA).1.getD 98 0 = 1 ∧ (kraftV (F cA).1) = (2048, true) ∧ costV cA (F cA).1 = 6 := by
  have hl := hF.len cA cA_len
  have hz : ∀ i, i < 256 → i ≠ 97 → i ≠ 98 → (F cA).1.getD i 0 = 0 := fun i hi h1 h2 => by
    have hp := hF.pos cA cA_len cA_ok i hi
    rw [cA_at hi, if_neg h1, if_neg h2] at hp
    have := hF.rng cA cA_len cA_ok i hi
    omega
  have hfull := hF.full cA cA_len cA_ok (by rw [cA_used]; exact Nat.le_refl _)
  have hs := ksum_two (l := (F cA).1) (a := 97) (b := 98) (by decide) (by omega) (fun i hi h1 h2 => by rw [hz i (by omega) h1 h2]; rfl)
  have r1 := hF.rng cA cA_len cA_ok 97 (by decide)
  have r2 := hF.rng cA cA_len cA_ok 98 (by decide)
  have k1 := kterm_half ((F cA).1.getD 97 0)
  have k2 := kterm_half ((F cA).1.getD 98 0)
  have e1 := kterm_is r1.1 r1.2 (by omega)
  have e2 := kterm_is r2.1 r2.2 (by omega)
  have hk : kraftV (F cA).1 = (2048, true) := by rw [lens_kraft hF cA_len cA_ok, hfull]
  refine ⟨e1, e2, hk, ?_⟩
  unfold costV
  rw [hk, if_pos ⟨rfl, cA_ok⟩]
  have e : ∀ k, k ≤ 256 → csum cA (F cA).1 k = (if 97 < k then 1 else 0) + (if 98 < k then 5 else 0) := by
    intro k
    induction k with
    | zero => intro _; rfl
    | succ k ih =>
      intro hk'
      unfold csum
      have hcb : cbad (cA.getD k 0) ≠ true := fun h => by
        rw [cA_at (by omega)] at h
        unfold cbad at h
        split at h
        · simp at h
        · split at h <;> simp at h
      rw [if_neg hcb, ih (by omega), cA_at (by omega)]
      by_cases h1 : k = 97
      · subst h1; rw [e1]; simp
      · by_cases h2 : k = 98
        · subst h2; rw [e2]; simp
        · rw [if_neg h1, if_neg h2]
          by_cases h3 : 97 < k
          · rw [if_pos h3, if_pos (show 97 < k + 1 by omega)]
            by_cases h4 : 98 < k
            · rw [if_pos h4, if_pos (show 98 < k + 1 by omega)]; omega
            · omega
          · rw [if_neg h3, if_neg (show ¬ 97 < k + 1 by omega), if_neg (show ¬ 98 < k by omega), if_neg (show ¬ 98 < k + 1 by omega)]; omega
  have := e 256 (Nat.le_refl _)
  rw [this]; rfl
end

set_option maxRecDepth 4000 in
set_option maxHeartbeats 4000000 in
theorem awake_any (hK : KraftC) (hC : CostC) {F : List Int → List Int × Bool} (hL : LengthsC F) (hF : LensOk F) (w : World) :
    Calls Try.prog 8 #[] w fun e w' => e = .returned (.bool true) ∧ Below w.heap.size w w' := by
  obtain ⟨t, N, ht, hN, hagg, hix, hund, hsz, hz0⟩ := t256
  obtain ⟨r1, r2, r3, r4⟩ := awake_lens hF
  have hll := hF.len cA cA_len
  have hok := hF.ok cA cA_len cA_ok
  have hi16 : (Try.prog.info? t).map (·.size) = some 256 := by rw [ht]; kernel_rfl
  obtain ⟨Z, hZ⟩ : ∃ Z, Z = ints (List.replicate 256 0) := ⟨_, rfl⟩
  rw [← hZ] at hz0
  have hZs : Z.size = 256 := by rw [hZ, ints_size, List.length_replicate]
  obtain ⟨A, hA⟩ : ∃ A, A = ints cA := ⟨_, rfl⟩
  obtain ⟨L, hLd⟩ : ∃ L, L = ints (F cA).1 := ⟨_, rfl⟩
  have hLs : L.size = 256 := by rw [hLd, ints_size, hll]
  have ix97 : ∀ g w, (Instr.indexAt t (.pointer (some ⟨g, 0, none⟩)) (.int .i64 97)).run Try.prog w = .ok (.pointer (some ⟨g, 97, none⟩)) w := fun g w => hix .i64 97 (by decide) g w
  have ix98 : ∀ g w, (Instr.indexAt t (.pointer (some ⟨g, 0, none⟩)) (.int .i64 98)).run Try.prog w = .ok (.pointer (some ⟨g, 98, none⟩)) w := fun g w => hix .i64 98 (by decide) g w
  have C1 := Lib.hid (fun W => hL W cA cA_len)
  rw [hok, ← hA, ← hLd] at C1
  have C2 := Lib.hid (fun W => hK W (F cA).1 hll)
  rw [r3, ← hLd] at C2
  have C3 := Lib.hid (fun W => hC W cA (F cA).1 cA_len hll)
  rw [r4, ← hA, ← hLd] at C3
  have a97 : L[97]? = some (.int .i64 1) := by rw [hLd, ints_at (by omega), r1]
  have a98 : L[98]? = some (.int .i64 1) := by rw [hLd, ints_at (by omega), r2]
  have hLo : ∀ u ∈ L.toList, u.oneCell' = true := by
    intro u hu
    have := ints_one (F cA).1
    rw [Array.all_eq_true_iff_forall_mem, ← hLd] at this
    exact this u (by simpa using hu)
  obtain ⟨W0, hW0⟩ : ∃ W0, W0 = w.alloc (.cells Z t) := ⟨_, rfl⟩
  have B0 : Blk W0 w.heap.size t Z := by rw [hW0]; exact Blk.new _ _ _
  have c97 : W0.cell? ⟨w.heap.size, 97, none⟩ = some (.int .i64 0) := by rw [B0.cell, hZ, ints_at (by simp)]; simp
  have f97 := B0.frozen 97
  have B1 := B0.set_ 97 (.int .i64 1)
  obtain ⟨W1, hW1⟩ : ∃ W1, W1 = W0.setCell ⟨w.heap.size, 97, none⟩ (.int .i64 1) := ⟨_, rfl⟩
  rw [← hW1] at B1
  have c98 : W1.cell? ⟨w.heap.size, 98, none⟩ = some (.int .i64 0) := by rw [B1.cell, hZ, ints_set, ints_at (by simp)]; simp
  have f98 := B1.frozen 98
  have B2 := B1.set_ 98 (.int .i64 5)
  obtain ⟨W2, hW2⟩ : ∃ W2, W2 = W1.setCell ⟨w.heap.size, 98, none⟩ (.int .i64 5) := ⟨_, rfl⟩
  rw [← hW2, hZ, ints_set, ints_set, show ((List.replicate 256 (0 : Int)).set 97 1).set 98 5 = cA from rfl, ← hA] at B2
  have hAs : A.size = N := by rw [hA, ints_size, cA_len, hN]
  have ld2 := load_blk (N := N) hAs B2
  have bw2 : Below w.heap.size w W2 := by
    rw [hW2, hW1, hW0]
    exact (((Below.refl _ _).alloc (Nat.le_refl _) _).setCell (Nat.le_refl _) _).setCell (Nat.le_refl _) _
  have e0 : w.alloc (.cells Z t) = W0 := hW0.symm
  have e1 : W0.setCell ⟨w.heap.size, 97, none⟩ (.int .i64 1) = W1 := hW1.symm
  have e2 : W1.setCell ⟨w.heap.size, 98, none⟩ (.int .i64 5) = W2 := hW2.symm
  have HB2 := Lib.hid B2
  have HW2 := Lib.hid bw2
  have HN := Lib.hid hN
  have store : ∀ w1 : World, (storeCells ⟨w1.heap.size, 0, none⟩ L.toList 0).run Try.prog (w1.alloc (.cells Z t)) = .ok () (w1.alloc (.cells L t)) := fun w1 =>
    run_storeCells_new w1 t Z L (by rw [hi16, hLs]) (by rw [hLs, hZs]) (by rw [Array.all_eq_true_iff_forall_mem]; intro u hu; exact hLo u (by simpa using hu))
  have Hst := Lib.hid store
  have E1 : Op.alloc 24 = Op.alloc t := by rw [ht]
  have E2 : ∀ a b, Op.store 24 a b = Op.store t a b := by rw [ht]; exact fun _ _ => rfl
  have E3 : ∀ a b, Op.indexAddr 24 a b = Op.indexAddr t a b := by rw [ht]; exact fun _ _ => rfl
  have E4 : ∀ a, Op.load 24 a = Op.load t a := by rw [ht]; exact fun _ => rfl
  have HA := Lib.hid hA
  have Hhix := Lib.hid hix
  have HLs := Lib.hid (show L.size = N by rw [hLs, hN])
  clear hA hLd hZ hW0 hW1 hW2 B0 B1 B2 bw2 hN store hK hC hL hF r1 r2 r3 r4 hll hok hi16 ht hLo hix hLs hZs
  go_enter Try.func8, Try.ntmps8
  simp only [E1, E2, E3, E4]
  clear E1 E2 E3 E4
  go_wp2_with fail
  refine (C1.out _).mono ?_
  rintro e w3 ⟨rfl, hb3⟩
  have HW3 := Lib.hid (HW2.out.trans (hb3.mono HW2.out.size))
  have B3 := Lib.hid (HB2.out.keep (hb3.block _ HB2.out.lt))
  have st3 := Hst.out w3
  obtain ⟨W4, hW4⟩ : ∃ W4, W4 = w3.alloc (.cells L t) := ⟨_, rfl⟩
  have b4 : Blk W4 w3.heap.size t L := by rw [hW4]; exact Blk.new _ _ _
  have b4c := B3.out.keep (w' := W4) (by rw [hW4]; exact Below.heap_alloc _ _ _ B3.out.lt)
  have ld4 := load_blk (N := N) HLs.out b4
  have HW4 := Lib.hid (show Below w.heap.size w W4 by rw [hW4]; exact HW3.out.alloc HW3.out.size _)
  have e4 : w3.alloc (.cells L t) = W4 := hW4.symm
  have B4 := Lib.hid b4
  have B4c := Lib.hid b4c
  clear hb3 HB2 HW2 hW4 b4 b4c C1 e0 e1 e2 ld2 c97 c98 f97 f98 HW3 B3
  generalize hg3 : w3.heap.size = g3 at *
  go_wp2_with fail
  refine (C2.out _).mono ?_
  rintro e w5 ⟨rfl, hb5⟩
  have b5 := B4.out.keep (hb5.block _ B4.out.lt)
  have b5c := B4c.out.keep (hb5.block _ B4c.out.lt)
  have HW5 := Lib.hid (HW4.out.trans (hb5.mono HW4.out.size))
  have l1 := load_blk (N := N) HLs.out b5
  have l2 := load_blk (N := N) hAs b5c
  have d97 : w5.cell? ⟨g3, 97, none⟩ = some (.int .i64 1) := by rw [b5.cell, a97]
  have d98 : w5.cell? ⟨g3, 98, none⟩ = some (.int .i64 1) := by rw [b5.cell, a98]
  clear hb5 b5 b5c B4 B4c HW4 C2 ld4 st3 e4
  go_wp2_with fail
  refine (C3.out _).mono ?_
  rintro e w6 ⟨rfl, hb6⟩
  have HW6 := Lib.hid (HW5.out.trans (hb6.mono HW5.out.size))
  clear hb6 HW5
  go_wp2_with fail
  go_ret
  exact ⟨rfl, HW6.out⟩
end Go.Proofs.Ythcppebfhjleiaa
