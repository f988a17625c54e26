/- The document's Unpack: its lengths. -/
import Derived.Test.YtpfhkbagapodoaaBy
import Derived.Test.YtpfhkbagapodoaaLz
namespace Go.Proofs.Ytpfhkbagapodoaa
open Go.RowKit

/-- How added ends. -/
def AddedV (l : List Nat) (at_ n : Nat) : Value → Prop := fun v =>
  (Lz.added (l.drop at_) n = none ∧ ∃ z : Int, v = .tuple #[.int .i64 (-1), .int .i64 z]) ∨
  (∃ m q, Lz.added (l.drop at_) n = some (m, q) ∧ v = .tuple #[.int .i64 (m : Int), .int .i64 ((l.length - q.length : Nat) : Int)])
set_option maxHeartbeats 2000000 in
theorem radded_any (A : Option Addr) (cap : Nat) (l : List Nat) (hl : ∀ x ∈ l, x < 256) (hlen : l.length ≤ 1000000) (k n : Nat) (hk : k ≤ l.length) (hn : n < 16) (N : Nat) (hN : N = l.length) {w : World} {B : Nat} (hsl : Sl w B A (byts l)) :
    Calls Try.prog 18 #[.slice A N cap, .int .i64 (k : Int), .int .i64 (n : Int)] w fun e w' => ∃ v, e = .returned v ∧ AddedV l k n v ∧ w' = w := by
  by_cases h15 : n < 15
  · have q1 : decide ((n : Int) < 15) = true := by rw [decide_eq_true_eq]; omega
    have q2 : decide (n < 15) = true := by simpa using h15
    have e : Lz.added (l.drop k) n = some (n, l.drop k) := by unfold Lz.added; rw [if_pos h15]
    have hq : l.length - (l.drop k).length = k := by rw [List.length_drop]; omega
    have fin : AddedV l k n (.tuple #[.int .i64 (n : Int), .int .i64 (k : Int)]) := .inr ⟨n, l.drop k, e, by rw [hq]⟩
    have F := Lib.hid fin
    clear fin e hq hsl hl hlen hk hN h15 hn
    go_enter Try.func18, Try.ntmps18
    go_wp2_with fail
    go_returns
    exact ⟨_, rfl, F.out, rfl⟩
  · have q1 : decide ((n : Int) < 15) = false := by rw [decide_eq_false_iff_not]; omega
    have q2 : decide (n < 15) = false := by simpa using h15
    have he : Lz.added (l.drop k) n = Lz.go (l.drop k) n := by unfold Lz.added; rw [if_neg h15]
    have HE := Lib.hid he
    have HN := Lib.hid hN
    have Hc := Lib.hid (fun i (hi : i < l.length) => sl_cell hsl hi)
    have hn15 : n ≤ 15 := by omega
    have hNb : N ≤ 1000000 := by omega
    have hkN : k ≤ N := by omega
    clear he hsl hN h15 hn hlen hk
    go_enter Try.func18, Try.ntmps18
    go_wp2_with fail
    go_loop [1, 2] (fun a s => ∃ i t : Nat, k ≤ i ∧ i ≤ N ∧ a = .int .i64 i ∧ s = .int .i64 t ∧ t ≤ 15 + 255 * i ∧ Lz.go (l.drop i) t = Lz.go (l.drop k) n) (fun a _ => N - (intOf a).toNat)
    case atStart => exact ⟨k, n, Nat.le_refl _, hkN, rfl, rfl, by omega, rfl⟩
    case round =>
      obtain ⟨i, t, hi1, hi2, rfl, rfl, ht, hg⟩ := hrel
      have HG := Lib.hid hg
      clear hg
      by_cases hlt : i < N
      · have q3 : decide (N ≤ i) = false := by simp; omega
        have q3' : decide ((N : Int) ≤ (i : Int)) = false := by rw [decide_eq_false_iff_not]; omega
        have hil : i < l.length := by rw [← HN.out]; exact hlt
        obtain ⟨b, o, rfl, cx⟩ := Hc.out i hil
        have hx := getB_lt hl i
        have hd : l.drop i = l.getD i 0 :: l.drop (i + 1) := by
          rw [List.drop_eq_getElem_cons hil, List.getD_eq_getElem?_getD, List.getElem?_eq_getElem hil]; rfl
        have hgo := HG.out
        rw [hd, Lz.go] at hgo
        have Hgo := Lib.hid hgo
        have Hil := Lib.hid hil
        clear hd hgo HG hl Hc hil
        generalize l.getD i 0 = x at *
        by_cases h255 : x < 255
        · have p1 : decide ((x : Int) < 255) = true := by rw [decide_eq_true_eq]; omega
          have p2 : decide (x < 255) = true := by simpa using h255
          have fin : AddedV l k n (.tuple #[.int .i64 ((t + x : Nat) : Int), .int .i64 ((i + 1 : Nat) : Int)]) := by
            refine .inr ⟨t + x, l.drop (i + 1), ?_, ?_⟩
            · have := Hgo.out
              rw [if_pos h255] at this
              rw [HE.out, ← this]
            · have := Hil.out
              rw [show l.length - (l.drop (i + 1)).length = i + 1 by rw [List.length_drop]; omega]
          have F := Lib.hid fin
          clear fin Hgo h255 HE
          go_wp2_with fail
          go_returns
          exact ⟨_, rfl, F.out, rfl⟩
        · have p1 : decide ((x : Int) < 255) = false := by rw [decide_eq_false_iff_not]; omega
          have p2 : decide (x < 255) = false := by simpa using h255
          have hx5 : x = 255 := by omega
          subst hx5
          have hg2 : Lz.go (l.drop (i + 1)) (t + 255) = Lz.go (l.drop k) n := by
            have := Hgo.out
            rwa [if_neg h255] at this
          have Hg2 := Lib.hid hg2
          clear hg2 Hgo h255 HE
          go_wp2_with fail
          go_round
          case rel => exact ⟨i + 1, t + 255, by omega, by omega, by go_num, by go_num, by omega, Hg2.out⟩
          case measure => simp [intOf]; omega
      · have hiN : i = N := by omega
        subst hiN
        have q3 : decide (i ≤ i) = true := by simp
        have q3' : decide ((i : Int) ≤ (i : Int)) = true := by simp
        have fin : AddedV l k n (.tuple #[.int .i64 (-1), .int .i64 (i : Int)]) := by
          refine .inl ⟨?_, _, rfl⟩
          have := HG.out
          rw [HN.out, List.drop_length, Lz.go] at this
          rw [HE.out, ← this]
        have F := Lib.hid fin
        clear fin HG HE Hc hl
        go_wp2_with fail
        go_returns
        exact ⟨_, rfl, F.out, rfl⟩
end Go.Proofs.Ytpfhkbagapodoaa
