/- Arrays of 256 ints by value; the document's Kraft. The document's Cost. The statements' Counts. What the program's Kraft, Cost and Lengths are held to (as hypotheses, to be met by its walks); the statements' own check that the program is awake. -/
import Derived.Test.YtnkgcibdibgmjaaBy
import Derived.Test.YtnkgcibdibgmjaaLaw
namespace Go.Proofs.Ytnkgcibdibgmjaa
open Go.RowKit

/-- Ints as cells. -/
def ints (l : List Int) : Array Value := (l.map (Value.int .i64)).toArray
theorem ints_size (l : List Int) : (ints l).size = l.length := by simp [ints]
theorem ints_one (l : List Int) : (ints l).all Value.oneCell' = true := by
  rw [Array.all_eq_true_iff_forall_mem]
  intro u hu
  have : u ∈ l.map (Value.int .i64) := by simpa [ints] using hu
  obtain ⟨z, _, rfl⟩ := List.mem_map.1 this
  rfl
theorem ints_at {l : List Int} {i : Nat} (h : i < l.length) : (ints l)[i]? = some (.int .i64 (l.getD i 0)) := by
  simp [ints, List.getD_eq_getElem?_getD, List.getElem?_eq_getElem h]
theorem index256 (kd : IntKind) {k : Nat} (hk : k < 256) (g : Nat) (w : World) : (Instr.indexAt 50 (.pointer (some ⟨g, 0, none⟩)) (.int kd (k : Int))).run Try.prog w = .ok (.pointer (some ⟨g, k, none⟩)) w := by
  have h1 : 0 ≤ (k : Int) ∧ (k : Int) < 256 := by omega
  have := Try.underlying50
  go_simp
/-- The type of an array of 256 ints, its number and its size hidden, and what the walks ask of it. -/
structure T256 (t : TypeId) (N : Nat) : Prop where
  ht : t = 50
  hN : N = 256
  agg : ∀ w, (isAgg t).run Try.prog w = .ok true w
  ix : ∀ (kd : IntKind) (k : Nat), k < 256 → ∀ (g : Nat) (w : World), (Instr.indexAt t (.pointer (some ⟨g, 0, none⟩)) (.int kd (k : Int))).run Try.prog w = .ok (.pointer (some ⟨g, k, none⟩)) w
  und : ∀ w, (underlying t).run Try.prog w = .ok (.array 256 3) w
  sz : ∀ w, (sizeOf t).run Try.prog w = .ok N w
  zero : ∀ w, (zeroValue t).run Try.prog w = .ok (.agg (ints (List.replicate 256 0))) w
theorem t256 : ∃ t N, T256 t N := ⟨_, _, rfl, rfl, fun w => by kernel_rfl, fun kd _ hk => index256 kd hk, fun w => by kernel_rfl, fun w => by kernel_rfl, fun w => by kernel_rfl⟩

/-- Kraft. -/
def kbad (x : Int) : Bool := decide (x < 0) || decide (11 < x)
def kterm (x : Int) : Nat := if 0 < x then 2 ^ (11 - x.toNat) else 0
def ksum (l : List Int) : Nat := (l.map kterm).sum
def kraftV (l : List Int) : Nat × Bool := if l.any kbad then (0, false) else (ksum l, true)
theorem kterm_le (x : Int) : kterm x ≤ 2048 := by
  unfold kterm
  split
  · exact Nat.pow_le_pow_right (n := 2) (show 0 < 2 by decide) (show 11 - x.toNat ≤ 11 by omega)
  · decide
theorem ksum_le : ∀ l : List Int, ksum l ≤ 2048 * l.length
  | [] => by simp [ksum]
  | x :: l => by
    have := ksum_le l
    have := kterm_le x
    unfold ksum at *
    rw [List.map_cons, List.sum_cons, List.length_cons]
    omega
theorem take_snoc {l : List Int} {i : Nat} (h : i < l.length) : l.take (i + 1) = l.take i ++ [l.getD i 0] := by
  rw [List.take_add_one, List.getElem?_eq_getElem h, List.getD_eq_getElem?_getD, List.getElem?_eq_getElem h]; rfl
theorem ksum_next {l : List Int} {i : Nat} (h : i < l.length) : ksum (l.take (i + 1)) = ksum (l.take i) + kterm (l.getD i 0) := by
  unfold ksum
  rw [take_snoc h, List.map_append, List.sum_append]
  simp
theorem kbad_next {l : List Int} {i : Nat} (h : i < l.length) : (l.take (i + 1)).any kbad = ((l.take i).any kbad || kbad (l.getD i 0)) := by
  rw [take_snoc h, List.any_append]; simp
theorem kbad_one {l : List Int} {i : Nat} (h : i < l.length) (hb : kbad (l.getD i 0) = true) : l.any kbad = true := by
  rw [List.any_eq_true]
  rw [List.getD_eq_getElem?_getD, List.getElem?_eq_getElem h] at hb
  exact ⟨l[i], List.getElem_mem h, hb⟩

set_option maxRecDepth 4000 in
set_option maxHeartbeats 4000000 in
theorem rkraft_any (l : List Int) (hl : l.length = 256) (w : World) :
    Calls Try.prog 51 #[.agg (ints l)] w fun e w' => e = .returned (.tuple #[.int .i64 ((kraftV l).1 : Int), .bool (kraftV l).2]) ∧ Below w.heap.size w w' := by
  obtain ⟨t, N, ht, -, hagg, hix, hund, -, -⟩ := t256
  have Hix := Lib.hid hix
  obtain ⟨C, hC⟩ : ∃ C, C = ints l := ⟨_, rfl⟩
  rw [← hC]
  have HC := Lib.hid hC
  clear hC
  have E1 : ∀ a, Op.box 50 a = Op.box t a := by rw [ht]; exact fun _ => rfl
  have E3 : ∀ a b, Op.indexAddr 50 a b = Op.indexAddr t a b := by rw [ht]; exact fun _ _ => rfl
  clear ht hix
  go_enter Try.func51, Try.ntmps51
  simp only [E1, E3]
  clear E1 E3
  go_wp2_with fail
  have Cx := Lib.hid (fun (W : World) (hb : Below (w.alloc (.cells C t)).heap.size (w.alloc (.cells C t)) W) (k : Nat) (hk : k < 256) => show W.cell? ⟨w.heap.size, k, none⟩ = some (.int .i64 (l.getD k 0)) from by
    rw [hb.cell (p := ⟨w.heap.size, k, none⟩) (by simp), cell_fresh rfl, HC.out, ints_at (by omega)])
  have HB := Lib.hid (show Below w.heap.size w (w.alloc (.cells C t)) from (Below.refl _ _).alloc (Nat.le_refl _) _)
  have Hw := Lib.hid (show Below (w.alloc (.cells C t)).heap.size (w.alloc (.cells C t)) (w.alloc (.cells C t)) from Below.refl _ _)
  have Hl := Lib.hid hl
  generalize w.alloc (.cells C t) = W at *
  generalize hg : w.heap.size = g at *
  go_loop [4, 5] (fun v i => ∃ k : Nat, k ≤ 256 ∧ i = .int .i64 k ∧ v = .int .i64 ((ksum (l.take k) : Nat) : Int) ∧ (l.take k).any kbad = false) (fun _ i => 256 - (intOf i).toNat)
  case atStart => exact ⟨0, by decide, rfl, rfl, rfl⟩
  case round =>
    obtain ⟨k, hk, rfl, rfl, hb⟩ := hrel
    have Hb := Lib.hid hb
    have hks := ksum_le (l.take k)
    rw [List.length_take] at hks
    clear hb
    by_cases hlt : k < 256
    · have q0 : decide ((k : Int) < 256) = true := by rw [decide_eq_true_eq]; omega
      have q0' : decide (k < 256) = true := by rw [decide_eq_true_eq]; omega
      have cx := Cx.out _ Hw.out k hlt
      have ix := Hix.out .i64 k hlt g
      have hkl : k < l.length := by omega
      have Kn := Lib.hid (ksum_next hkl)
      have Kb := Lib.hid (kbad_next hkl)
      have Ko := Lib.hid (kbad_one hkl)
      generalize l.getD k 0 = x at *
      generalize hS : ksum (l.take k) = S at *
      have hSb : S ≤ 524288 := by omega
      clear hks hS hkl Cx
      by_cases hx : kbad x = true
      · have hv : kraftV l = (0, false) := by unfold kraftV; rw [if_pos (Ko.out hx)]
        have Hv := Lib.hid hv
        have early : x < 0 ∨ 11 < x := by unfold kbad at hx; simpa using hx
        clear hv hx Ko Kn Kb
        by_cases h0 : x < 0
        · have p1 : decide (x < 0) = true := by simpa using h0
          clear early h0
          go_wp2_with fail
          go_returns
          exact ⟨by rw [Hv.out]; rfl, HB.out⟩
        · have p1 : decide (x < 0) = false := by simpa using h0
          have p2 : decide (11 < x) = true := by simp; omega
          clear early h0
          go_wp2_with fail
          go_returns
          exact ⟨by rw [Hv.out]; rfl, HB.out⟩
      · have hx' : 0 ≤ x ∧ x ≤ 11 := by unfold kbad at hx; simp at hx; omega
        obtain ⟨n, rfl⟩ : ∃ n : Nat, x = n := ⟨x.toNat, by omega⟩
        have hkb : kbad (n : Int) = false := by simpa using hx
        have p1 : decide ((n : Int) < 0) = false := by simp
        have p2 : decide (11 < (n : Int)) = false := by rw [decide_eq_false_iff_not]; omega
        have p2' : decide (11 < n) = false := by rw [decide_eq_false_iff_not]; omega
        have hn : n ≤ 11 := by omega
        have Kb2 := Lib.hid (show (l.take (k + 1)).any kbad = false by rw [Kb.out, Hb.out, hkb]; rfl)
        clear hx hx' hkb Ko Kb
        by_cases h0 : n = 0
        · subst h0
          have Kn2 := Lib.hid (show ksum (l.take (k + 1)) = S by rw [Kn.out]; rfl)
          clear Kn
          go_wp2_with fail
          go_round
          case rel => exact ⟨k + 1, by omega, by go_num, by rw [Kn2.out], Kb2.out⟩
          case measure => simp [intOf]; omega
        · have p3 : decide (0 < (n : Int)) = true := by rw [decide_eq_true_eq]; omega
          have p3' : decide (0 < n) = true := by rw [decide_eq_true_eq]; omega
          obtain ⟨s, hs⟩ : ∃ s : Nat, s = 11 - n := ⟨_, rfl⟩
          have hsi : (11 : Int) - (n : Int) = (s : Int) := by omega
          have hsb : s ≤ 10 := by omega
          have hp : 2 ^ s ≤ 1024 := Nat.pow_le_pow_right (n := 2) (by decide) (show s ≤ 10 from hsb)
          obtain ⟨Q, hQ⟩ : ∃ Q : Nat, Q = 2 ^ s := ⟨_, rfl⟩
          have hQi : (2 : Int) ^ s = (Q : Int) := by rw [hQ]; simp
          have hQb : Q ≤ 1024 := by omega
          have Kn2 := Lib.hid (show ksum (l.take (k + 1)) = S + Q by rw [Kn.out]; unfold kterm; rw [if_pos (by omega), Int.toNat_natCast, hQ, hs])
          clear Kn h0 hs hQ hp
          set_option maxRecDepth 4000 in
          go_wp2_with fail
          go_round
          case rel => exact ⟨k + 1, by omega, by go_num, by rw [Kn2.out]; go_num, Kb2.out⟩
          case measure => simp [intOf]; omega
    · have hk6 : k = 256 := by omega
      subst hk6
      have hv : kraftV l = (ksum l, true) := by
        have := Hb.out
        rw [List.take_of_length_le (by omega)] at this
        unfold kraftV; rw [if_neg (by rw [this]; decide)]
      have hS2 : ksum (l.take 256) = ksum l := by rw [List.take_of_length_le (by omega)]
      have Hv := Lib.hid hv
      have HS2 := Lib.hid hS2
      clear hv hS2 Cx hks
      generalize ksum (l.take 256) = S at *
      go_wp2_with fail
      go_returns
      exact ⟨by rw [Hv.out, ← HS2.out]; rfl, HB.out⟩
end Go.Proofs.Ytnkgcibdibgmjaa

namespace Go.Proofs.Ytnkgcibdibgmjaa
open Go.RowKit

def cbad (x : Int) : Bool := decide (x < 0) || decide (1048576 < x)
/-- What the loop has added up: counts that may not be are left out. -/
def csum (c l : List Int) : Nat → Int
  | 0 => 0
  | k + 1 => if cbad (c.getD k 0) then csum c l k else csum c l k + c.getD k 0 * l.getD k 0
def costV (c l : List Int) : Int := if (kraftV l).2 = true ∧ c.any cbad = false then csum c l 256 else 0
theorem cbad_next {l : List Int} {i : Nat} (h : i < l.length) : (l.take (i + 1)).any cbad = ((l.take i).any cbad || cbad (l.getD i 0)) := by
  rw [take_snoc h, List.any_append]; simp

theorem kraft_each {l : List Int} (h : (kraftV l).2 = true) {k : Nat} (hk : k < l.length) : 0 ≤ l.getD k 0 ∧ l.getD k 0 ≤ 11 := by
  have hn : kbad (l.getD k 0) ≠ true := fun hb => by
    have := kbad_one hk hb
    unfold kraftV at h
    rw [if_pos this] at h
    exact absurd h (by decide)
  generalize l.getD k 0 = x at *
  unfold kbad at hn
  simp at hn
  omega
theorem cbad_no {x : Int} (h : ¬ cbad x = true) : 0 ≤ x ∧ x ≤ 1048576 := by
  unfold cbad at h
  simp at h
  omega
theorem csum_bound {c l : List Int} (hl : l.length = 256) (h : (kraftV l).2 = true) : ∀ k, k ≤ 256 → 0 ≤ csum c l k ∧ csum c l k ≤ k * 11534336
  | 0, _ => by simp [csum]
  | k + 1, hk => by
    have ih := csum_bound (c := c) hl h k (by omega)
    have hb := kraft_each h (k := k) (by omega)
    unfold csum
    split
    · omega
    · rename_i hc
      have hc' := cbad_no hc
      obtain ⟨n, hn⟩ : ∃ n : Nat, l.getD k 0 = n := ⟨(l.getD k 0).toNat, by omega⟩
      obtain ⟨m, hm⟩ : ∃ m : Nat, c.getD k 0 = m := ⟨(c.getD k 0).toNat, by omega⟩
      rw [hn] at hb ⊢
      rw [hm] at hc' ⊢
      have h1 : m * n ≤ 1048576 * 11 := Nat.mul_le_mul (by omega) (by omega)
      have h2 : (m : Int) * (n : Int) = ((m * n : Nat) : Int) := by simp
      rw [h2]
      omega

end Go.Proofs.Ytnkgcibdibgmjaa

namespace Go.Proofs.Ytnkgcibdibgmjaa
open Go.RowKit

/-- The counts of the first k words. -/
def countsK (l : List Nat) (k : Nat) : List Int := (List.range 256).map fun i => if i < k ∧ i < l.length then ((l.getD i 0 % 1048576 : Nat) : Int) else 0
def countsL (l : List Nat) : List Int := countsK l 256
theorem countsK_len (l : List Nat) (k : Nat) : (countsK l k).length = 256 := by simp [countsK]
theorem countsK_at (l : List Nat) (k : Nat) {i : Nat} (h : i < 256) : (countsK l k).getD i 0 = if i < k ∧ i < l.length then ((l.getD i 0 % 1048576 : Nat) : Int) else 0 := by
  unfold countsK
  rw [List.getD_eq_getElem?_getD, List.getElem?_map, List.getElem?_range h]
  rfl
theorem countsK_zero (l : List Nat) : countsK l 0 = List.replicate 256 0 := by
  unfold countsK
  rw [List.eq_replicate_iff]
  refine ⟨by simp, fun b hb => ?_⟩
  obtain ⟨i, _, rfl⟩ := List.mem_map.1 hb
  rw [if_neg (by omega)]
theorem ints_set (l : List Int) (k : Nat) (z : Int) : (ints l).setIfInBounds k (.int .i64 z) = ints (l.set k z) := by
  unfold ints
  rw [List.setIfInBounds_toArray, List.map_set]
theorem countsK_next (l : List Nat) {k : Nat} (hk : k < 256) (hl : k < l.length) : (countsK l k).set k ((l.getD k 0 % 1048576 : Nat) : Int) = countsK l (k + 1) := by
  apply List.ext_getElem?
  intro j
  rcases Nat.lt_or_ge j 256 with hj | hj
  · unfold countsK
    rw [List.getElem?_set, List.getElem?_map, List.getElem?_map, List.getElem?_range hj]
    by_cases e : k = j
    · subst e
      simp [hk, hl]
    · rw [if_neg e]
      by_cases h1 : j < k
      · simp [h1, show j < k + 1 by omega]
      · simp [h1, show ¬ j < k + 1 by omega]
  · rw [List.getElem?_eq_none (by rw [List.length_set, countsK_len]; exact hj), List.getElem?_eq_none (by rw [countsK_len]; exact hj)]
theorem countsK_more (l : List Nat) {k : Nat} (h : ¬ (k < l.length ∧ k < 256)) : countsK l k = countsL l := by
  unfold countsL countsK
  refine List.map_congr_left fun i hi => ?_
  have hi' : i < 256 := by simpa using hi
  by_cases h1 : i < k ∧ i < l.length
  · rw [if_pos h1, if_pos ⟨hi', h1.2⟩]
  · rw [if_neg h1]
    by_cases h2 : i < 256 ∧ i < l.length
    · omega
    · rw [if_neg h2]
theorem and20 {x : Nat} (hx : x < 4294967296) : bits BinOp.and IntKind.u32 (x : Int) 1048575 = ((x % 1048576 : Nat) : Int) := by
  have h : bits .and .u32 (x : Int) ((1048575 : Nat) : Int) = ((x &&& 1048575 : Nat) : Int) := u32_and_nat x 1048575 hx (by decide)
  rw [show (1048575 : Int) = ((1048575 : Nat) : Int) from rfl, h, show (1048575 : Nat) = 2 ^ 20 - 1 from rfl, Nat.and_two_pow_sub_one_eq_mod]

end Go.Proofs.Ytnkgcibdibgmjaa

namespace Go.Proofs.Ytnkgcibdibgmjaa
open Go.RowKit

def KraftC : Prop := ∀ (w : World) (l : List Int), l.length = 256 → Calls Try.prog 45 #[.agg (ints l)] w fun e w' => e = .returned (.tuple #[.int .i64 ((kraftV l).1 : Int), .bool (kraftV l).2]) ∧ Below w.heap.size w w'
def LengthsC (F : List Int → List Int × Bool) : Prop := ∀ (w : World) (c : List Int), c.length = 256 → Calls Try.prog 25 #[.agg (ints c)] w fun e w' => e = .returned (.tuple #[.agg (ints (F c).1), .bool (F c).2]) ∧ Below w.heap.size w w'
/-- How many counts are greater than nought. -/
def used (c : List Int) : Nat := c.countP fun x => decide (0 < x)
structure LensOk (F : List Int → List Int × Bool) : Prop where
  len : ∀ c : List Int, c.length = 256 → (F c).1.length = 256
  bad : ∀ c : List Int, c.length = 256 → c.any cbad = true → F c = (List.replicate 256 0, false)
  ok : ∀ c : List Int, c.length = 256 → c.any cbad = false → (F c).2 = true
  pos : ∀ c : List Int, c.length = 256 → c.any cbad = false → ∀ i, i < 256 → (0 < (F c).1.getD i 0 ↔ 0 < c.getD i 0)
  rng : ∀ c : List Int, c.length = 256 → c.any cbad = false → ∀ i, i < 256 → 0 ≤ (F c).1.getD i 0 ∧ (F c).1.getD i 0 ≤ 11
  one : ∀ c : List Int, c.length = 256 → c.any cbad = false → used c = 1 → ksum (F c).1 = 1024
  full : ∀ c : List Int, c.length = 256 → c.any cbad = false → 2 ≤ used c → ksum (F c).1 = 2048
  mono : ∀ c : List Int, c.length = 256 → c.any cbad = false → ∀ i j, i < 256 → j < 256 → 0 < c.getD j 0 → c.getD j 0 < c.getD i 0 → (F c).1.getD i 0 ≤ (F c).1.getD j 0

/-- The counts of the check. -/
def cN (n : Nat) : List Int := ((List.replicate n (0 : Int)).set 97 1).set 98 5
def cA : List Int := cN 256
theorem cA_len : cA.length = 256 := by decide +kernel
theorem cA_ok : cA.any cbad = false := by decide +kernel
theorem cA_used : used cA = 2 := by decide +kernel
theorem cN_at {n i : Nat} (h : i < n) : (cN n).getD i 0 = if i = 97 then 1 else if i = 98 then 5 else 0 := by
  unfold cN
  rw [List.getD_eq_getElem?_getD, List.getElem?_set, List.getElem?_set, List.getElem?_replicate, List.length_set, List.length_replicate]
  by_cases h1 : i = 98
  · subst h1; simp [h]
  · by_cases h2 : i = 97
    · subst h2; simp [h]
    · simp [h1, h2, h, Ne.symm h1, Ne.symm h2]
theorem cA_at {i : Nat} (h : i < 256) : cA.getD i 0 = if i = 97 then 1 else if i = 98 then 5 else 0 := cN_at h
/-- A sum over lengths where all but two are nought. -/
theorem ksum_two : ∀ {l : List Int} {a b : Nat}, a < b → b < l.length → (∀ i, i < l.length → i ≠ a → i ≠ b → kterm (l.getD i 0) = 0) → ksum l = kterm (l.getD a 0) + kterm (l.getD b 0) := by
  intro l a b hab hb h
  have e : ∀ k, k ≤ l.length → ksum (l.take k) = (if a < k then kterm (l.getD a 0) else 0) + (if b < k then kterm (l.getD b 0) else 0) := by
    intro k
    induction k with
    | zero => intro _; simp [ksum]
    | succ k ih =>
      intro hk
      rw [ksum_next (by omega), ih (by omega)]
      by_cases h1 : k = a
      · subst h1
        rw [if_neg (by omega), if_neg (by omega), if_pos (by omega), if_neg (by omega)]; omega
      · by_cases h2 : k = b
        · subst h2
          rw [if_pos (by omega), if_neg (by omega), if_pos (by omega), if_pos (by omega)]; omega
        · rw [h k (by omega) h1 h2]
          by_cases h3 : a < k
          · rw [if_pos h3, if_pos (show a < k + 1 by omega)]
            by_cases h4 : b < k
            · rw [if_pos h4, if_pos (show b < k + 1 by omega)]; omega
            · rw [if_neg h4, if_neg (show ¬ b < k + 1 by omega)]
          · rw [if_neg h3, if_neg (show ¬ a < k + 1 by omega), if_neg (show ¬ b < k by omega), if_neg (show ¬ b < k + 1 by omega)]
  have := e l.length (Nat.le_refl _)
  rw [List.take_length, if_pos (by omega), if_pos (by omega)] at this
  exact this
theorem kterm_half (x : Int) : kterm x ≤ 1024 := by
  unfold kterm
  split
  · exact Nat.pow_le_pow_right (n := 2) (show 0 < 2 by decide) (show 11 - x.toNat ≤ 10 by omega)
  · decide
theorem kterm_is {x : Int} (h0 : 0 ≤ x) (h1 : x ≤ 11) (h : kterm x = 1024) : x = 1 := by
  obtain ⟨n, rfl⟩ : ∃ n : Nat, x = n := ⟨x.toNat, by omega⟩
  have hn : n ≤ 11 := by omega
  unfold kterm at h
  rw [Int.toNat_natCast] at h
  have : n = 0 ∨ n = 1 ∨ n = 2 ∨ n = 3 ∨ n = 4 ∨ n = 5 ∨ n = 6 ∨ n = 7 ∨ n = 8 ∨ n = 9 ∨ n = 10 ∨ n = 11 := by omega
  rcases this with rfl | rfl | rfl | rfl | rfl | rfl | rfl | rfl | rfl | rfl | rfl | rfl <;> first | rfl | (simp at h)
section
variable {F : List Int → List Int × Bool}
theorem lens_kraft (hF : LensOk F) {c : List Int} (hc : c.length = 256) (hb : c.any cbad = false) : kraftV (F c).1 = (ksum (F c).1, true) := by
  unfold kraftV
  rw [if_neg]
  intro h
  rw [List.any_eq_true] at h
  obtain ⟨x, hx, hk⟩ := h
  obtain ⟨i, hi, rfl⟩ := List.mem_iff_getElem.1 hx
  have := hF.rng c hc hb i (by rw [hF.len c hc] at hi; exact hi)
  rw [List.getD_eq_getElem?_getD, List.getElem?_eq_getElem hi] at this
  simp only [Option.getD_some] at this
  unfold kbad at hk
  simp at hk
  omega
theorem awake_lens (hF : LensOk F) : (F cA).1.getD 97 0 = 1 ∧ (F cA).1.getD 98 0 = 1 ∧ (kraftV (F cA).1) = (2048, true) ∧ costV cA (F cA).1 = 6 := by
  have hl := hF.len cA cA_len
  have hz : ∀ i, i < 256 → i ≠ 97 → i ≠ 98 → (F cA).1.getD i 0 = 0 := fun i hi h1 h2 => by
    have hp := hF.pos cA cA_len cA_ok i hi
    rw [cA_at hi, if_neg h1, if_neg h2] at hp
    have := hF.rng cA cA_len cA_ok i hi
    omega
  have hfull := hF.full cA cA_len cA_ok (by rw [cA_used]; exact Nat.le_refl _)
  have hs := ksum_two (l := (F cA).1) (a := 97) (b := 98) (by decide) (by omega) (fun i hi h1 h2 => by rw [hz i (by omega) h1 h2]; rfl)
  have r1 := hF.rng cA cA_len cA_ok 97 (by decide)
  have r2 := hF.rng cA cA_len cA_ok 98 (by decide)
  have k1 := kterm_half ((F cA).1.getD 97 0)
  have k2 := kterm_half ((F cA).1.getD 98 0)
  have e1 := kterm_is r1.1 r1.2 (by omega)
  have e2 := kterm_is r2.1 r2.2 (by omega)
  have hk : kraftV (F cA).1 = (2048, true) := by rw [lens_kraft hF cA_len cA_ok, hfull]
  refine ⟨e1, e2, hk, ?_⟩
  unfold costV
  rw [hk, if_pos ⟨rfl, cA_ok⟩]
  have e : ∀ k, k ≤ 256 → csum cA (F cA).1 k = (if 97 < k then 1 else 0) + (if 98 < k then 5 else 0) := by
    intro k
    induction k with
    | zero => intro _; rfl
    | succ k ih =>
      intro hk'
      unfold csum
      have hcb : cbad (cA.getD k 0) ≠ true := fun h => by
        rw [cA_at (by omega)] at h
        unfold cbad at h
        split at h
        · simp at h
        · split at h <;> simp at h
      rw [if_neg hcb, ih (by omega), cA_at (by omega)]
      by_cases h1 : k = 97
      · subst h1; rw [e1]; simp
      · by_cases h2 : k = 98
        · subst h2; rw [e2]; simp
        · rw [if_neg h1, if_neg h2]
          by_cases h3 : 97 < k
          · rw [if_pos h3, if_pos (show 97 < k + 1 by omega)]
            by_cases h4 : 98 < k
            · rw [if_pos h4, if_pos (show 98 < k + 1 by omega)]; omega
            · omega
          · rw [if_neg h3, if_neg (show ¬ 97 < k + 1 by omega), if_neg (show ¬ 98 < k by omega), if_neg (show ¬ 98 < k + 1 by omega)]; omega
  have := e 256 (Nat.le_refl _)
  rw [this]; rfl
end

end Go.Proofs.Ytnkgcibdibgmjaa
