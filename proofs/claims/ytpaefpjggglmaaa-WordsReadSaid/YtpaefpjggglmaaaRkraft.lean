/- Arrays of 256 ints by value; the document's Kraft. -/
import Derived.Test.YtpaefpjggglmaaaBy
import Derived.Test.YtpaefpjggglmaaaCells
namespace Go.Proofs.Ytpaefpjggglmaaa
open Go.RowKit

/-- Ints as cells. -/
def ints (l : List Int) : Array Value := (l.map (Value.int .i64)).toArray
theorem ints_size (l : List Int) : (ints l).size = l.length := by simp [ints]
theorem ints_one (l : List Int) : (ints l).all Value.oneCell' = true := by
  rw [Array.all_eq_true_iff_forall_mem]
  intro u hu
  have : u ∈ l.map (Value.int .i64) := by simpa [ints] using hu
  obtain ⟨z, _, rfl⟩ := List.mem_map.1 this
  rfl
theorem ints_at {l : List Int} {i : Nat} (h : i < l.length) : (ints l)[i]? = some (.int .i64 (l.getD i 0)) := by
  simp [ints, List.getD_eq_getElem?_getD, List.getElem?_eq_getElem h]
theorem index256 (kd : IntKind) {k : Nat} (hk : k < 256) (g : Nat) (w : World) : (Instr.indexAt 32 (.pointer (some ⟨g, 0, none⟩)) (.int kd (k : Int))).run Try.prog w = .ok (.pointer (some ⟨g, k, none⟩)) w := by
  have h1 : 0 ≤ (k : Int) ∧ (k : Int) < 256 := by omega
  have := Try.underlying32
  go_simp
/-- The type of an array of 256 ints, its number and its size hidden, and what the walks ask of it. -/
structure T256 (t : TypeId) (N : Nat) : Prop where
  ht : t = 32
  hN : N = 256
  agg : ∀ w, (isAgg t).run Try.prog w = .ok true w
  ix : ∀ (kd : IntKind) (k : Nat), k < 256 → ∀ (g : Nat) (w : World), (Instr.indexAt t (.pointer (some ⟨g, 0, none⟩)) (.int kd (k : Int))).run Try.prog w = .ok (.pointer (some ⟨g, k, none⟩)) w
  und : ∀ w, (underlying t).run Try.prog w = .ok (.array 256 3) w
  sz : ∀ w, (sizeOf t).run Try.prog w = .ok N w
  zero : ∀ w, (zeroValue t).run Try.prog w = .ok (.agg (ints (List.replicate 256 0))) w
theorem t256 : ∃ t N, T256 t N := ⟨_, _, rfl, rfl, fun w => by kernel_rfl, fun kd _ hk => index256 kd hk, fun w => by kernel_rfl, fun w => by kernel_rfl, fun w => by kernel_rfl⟩

/-- Kraft. -/
def kbad (x : Int) : Bool := decide (x < 0) || decide (11 < x)
def kterm (x : Int) : Nat := if 0 < x then 2 ^ (11 - x.toNat) else 0
def ksum (l : List Int) : Nat := (l.map kterm).sum
def kraftV (l : List Int) : Nat × Bool := if l.any kbad then (0, false) else (ksum l, true)
theorem kterm_le (x : Int) : kterm x ≤ 2048 := by
  unfold kterm
  split
  · exact Nat.pow_le_pow_right (n := 2) (show 0 < 2 by decide) (show 11 - x.toNat ≤ 11 by omega)
  · decide
theorem ksum_le : ∀ l : List Int, ksum l ≤ 2048 * l.length
  | [] => by simp [ksum]
  | x :: l => by
    have := ksum_le l
    have := kterm_le x
    unfold ksum at *
    rw [List.map_cons, List.sum_cons, List.length_cons]
    omega
theorem take_snoc {l : List Int} {i : Nat} (h : i < l.length) : l.take (i + 1) = l.take i ++ [l.getD i 0] := by
  rw [List.take_add_one, List.getElem?_eq_getElem h, List.getD_eq_getElem?_getD, List.getElem?_eq_getElem h]; rfl
theorem ksum_next {l : List Int} {i : Nat} (h : i < l.length) : ksum (l.take (i + 1)) = ksum (l.take i) + kterm (l.getD i 0) := by
  unfold ksum
  rw [take_snoc h, List.map_append, List.sum_append]
  simp
theorem kbad_next {l : List Int} {i : Nat} (h : i < l.length) : (l.take (i + 1)).any kbad = ((l.take i).any kbad || kbad (l.getD i 0)) := by
  rw [take_snoc h, List.any_append]; simp
theorem kbad_one {l : List Int} {i : Nat} (h : i < l.length) (hb : kbad (l.getD i 0) = true) : l.any kbad = true := by
  rw [List.any_eq_true]
  rw [List.getD_eq_getElem?_getD, List.getElem?_eq_getElem h] at hb
  exact ⟨l[i], List.getElem_mem h, hb⟩

set_option maxRecDepth 4000 in
set_option maxHeartbeats 4000000 in
theorem rkraft_any (l : List Int) (hl : l.length = 256) (w : World) :
    Calls Try.prog 27 #[.agg (ints l)] w fun e w' => e = .returned (.tuple #[.int .i64 ((kraftV l).1 : Int), .bool (kraftV l).2]) ∧ Below w.heap.size w w' := by
  obtain ⟨t, N, ht, -, hagg, hix, hund, -, -⟩ := t256
  have Hix := Lib.hid hix
  obtain ⟨C, hC⟩ : ∃ C, C = ints l := ⟨_, rfl⟩
  rw [← hC]
  have HC := Lib.hid hC
  clear hC
  have E1 : ∀ a, Op.box 32 a = Op.box t a := by rw [ht]; exact fun _ => rfl
  have E3 : ∀ a b, Op.indexAddr 32 a b = Op.indexAddr t a b := by rw [ht]; exact fun _ _ => rfl
  clear ht hix
  go_enter Try.func27, Try.ntmps27
  simp only [E1, E3]
  clear E1 E3
  go_wp2_with fail
  have Cx := Lib.hid (fun (W : World) (hb : Below (w.alloc (.cells C t)).heap.size (w.alloc (.cells C t)) W) (k : Nat) (hk : k < 256) => show W.cell? ⟨w.heap.size, k, none⟩ = some (.int .i64 (l.getD k 0)) from by
    rw [hb.cell (p := ⟨w.heap.size, k, none⟩) (by simp), cell_fresh rfl, HC.out, ints_at (by omega)])
  have HB := Lib.hid (show Below w.heap.size w (w.alloc (.cells C t)) from (Below.refl _ _).alloc (Nat.le_refl _) _)
  have Hw := Lib.hid (show Below (w.alloc (.cells C t)).heap.size (w.alloc (.cells C t)) (w.alloc (.cells C t)) from Below.refl _ _)
  have Hl := Lib.hid hl
  generalize w.alloc (.cells C t) = W at *
  generalize hg : w.heap.size = g at *
  go_loop [4, 5] (fun v i => ∃ k : Nat, k ≤ 256 ∧ i = .int .i64 k ∧ v = .int .i64 ((ksum (l.take k) : Nat) : Int) ∧ (l.take k).any kbad = false) (fun _ i => 256 - (intOf i).toNat)
  case atStart => exact ⟨0, by decide, rfl, rfl, rfl⟩
  case round =>
    obtain ⟨k, hk, rfl, rfl, hb⟩ := hrel
    have Hb := Lib.hid hb
    have hks := ksum_le (l.take k)
    rw [List.length_take] at hks
    clear hb
    by_cases hlt : k < 256
    · have q0 : decide ((k : Int) < 256) = true := by rw [decide_eq_true_eq]; omega
      have q0' : decide (k < 256) = true := by rw [decide_eq_true_eq]; omega
      have cx := Cx.out _ Hw.out k hlt
      have ix := Hix.out .i64 k hlt g
      have hkl : k < l.length := by omega
      have Kn := Lib.hid (ksum_next hkl)
      have Kb := Lib.hid (kbad_next hkl)
      have Ko := Lib.hid (kbad_one hkl)
      generalize l.getD k 0 = x at *
      generalize hS : ksum (l.take k) = S at *
      have hSb : S ≤ 524288 := by omega
      clear hks hS hkl Cx
      by_cases hx : kbad x = true
      · have hv : kraftV l = (0, false) := by unfold kraftV; rw [if_pos (Ko.out hx)]
        have Hv := Lib.hid hv
        have early : x < 0 ∨ 11 < x := by unfold kbad at hx; simpa using hx
        clear hv hx Ko Kn Kb
        by_cases h0 : x < 0
        · have p1 : decide (x < 0) = true := by simpa using h0
          clear early h0
          go_wp2_with fail
          go_returns
          exact ⟨by rw [Hv.out]; rfl, HB.out⟩
        · have p1 : decide (x < 0) = false := by simpa using h0
          have p2 : decide (11 < x) = true := by simp; omega
          clear early h0
          go_wp2_with fail
          go_returns
          exact ⟨by rw [Hv.out]; rfl, HB.out⟩
      · have hx' : 0 ≤ x ∧ x ≤ 11 := by unfold kbad at hx; simp at hx; omega
        obtain ⟨n, rfl⟩ : ∃ n : Nat, x = n := ⟨x.toNat, by omega⟩
        have hkb : kbad (n : Int) = false := by simpa using hx
        have p1 : decide ((n : Int) < 0) = false := by simp
        have p2 : decide (11 < (n : Int)) = false := by rw [decide_eq_false_iff_not]; omega
        have p2' : decide (11 < n) = false := by rw [decide_eq_false_iff_not]; omega
        have hn : n ≤ 11 := by omega
        have Kb2 := Lib.hid (show (l.take (k + 1)).any kbad = false by rw [Kb.out, Hb.out, hkb]; rfl)
        clear hx hx' hkb Ko Kb
        by_cases h0 : n = 0
        · subst h0
          have Kn2 := Lib.hid (show ksum (l.take (k + 1)) = S by rw [Kn.out]; rfl)
          clear Kn
          go_wp2_with fail
          go_round
          case rel => exact ⟨k + 1, by omega, by go_num, by rw [Kn2.out], Kb2.out⟩
          case measure => simp [intOf]; omega
        · have p3 : decide (0 < (n : Int)) = true := by rw [decide_eq_true_eq]; omega
          have p3' : decide (0 < n) = true := by rw [decide_eq_true_eq]; omega
          obtain ⟨s, hs⟩ : ∃ s : Nat, s = 11 - n := ⟨_, rfl⟩
          have hsi : (11 : Int) - (n : Int) = (s : Int) := by omega
          have hsb : s ≤ 10 := by omega
          have hp : 2 ^ s ≤ 1024 := Nat.pow_le_pow_right (n := 2) (by decide) (show s ≤ 10 from hsb)
          obtain ⟨Q, hQ⟩ : ∃ Q : Nat, Q = 2 ^ s := ⟨_, rfl⟩
          have hQi : (2 : Int) ^ s = (Q : Int) := by rw [hQ]; simp
          have hQb : Q ≤ 1024 := by omega
          have Kn2 := Lib.hid (show ksum (l.take (k + 1)) = S + Q by rw [Kn.out]; unfold kterm; rw [if_pos (by omega), Int.toNat_natCast, hQ, hs])
          clear Kn h0 hs hQ hp
          set_option maxRecDepth 4000 in
          go_wp2_with fail
          go_round
          case rel => exact ⟨k + 1, by omega, by go_num, by rw [Kn2.out]; go_num, Kb2.out⟩
          case measure => simp [intOf]; omega
    · have hk6 : k = 256 := by omega
      subst hk6
      have hv : kraftV l = (ksum l, true) := by
        have := Hb.out
        rw [List.take_of_length_le (by omega)] at this
        unfold kraftV; rw [if_neg (by rw [this]; decide)]
      have hS2 : ksum (l.take 256) = ksum l := by rw [List.take_of_length_le (by omega)]
      have Hv := Lib.hid hv
      have HS2 := Lib.hid hS2
      clear hv hS2 Cx hks
      generalize ksum (l.take 256) = S at *
      go_wp2_with fail
      go_returns
      exact ⟨by rw [Hv.out, ← HS2.out]; rfl, HB.out⟩
end Go.Proofs.Ytpaefpjggglmaaa
