/- What SharesBack wants of the state (plain), and the statements' list. -/
import Derived.Test.YtfiafgmlbejboaaShf
import Derived.Test.YtfiafgmlbejboaaRsam
namespace Go.Proofs.Ytfiafgmlbejboaa
open Go.RowKit

namespace Sh
theorem mem_ins {l : List U} {a n : Nat} (u : U) : u ∈ ins l a n ↔ u ∈ l ∨ u = (a, n, 1) := by
  unfold ins
  rw [List.mem_append, List.mem_append, List.mem_singleton]
  constructor
  · rintro ((hu | hu) | hu)
    · exact .inl (List.mem_of_mem_take hu)
    · exact .inr hu
    · exact .inl (List.mem_of_mem_drop hu)
  · rintro (hu | hu)
    · rw [← List.take_append_drop (below l a) l, List.mem_append] at hu
      rcases hu with hu | hu
      · exact .inl (.inl hu)
      · exact .inr hu
    · exact .inl (.inr hu)
theorem mem_news {l was : List U} {u : U} : u ∈ news l was ↔ u ∈ l ∧ ∀ o ∈ was, o.1 ≠ u.1 := by
  unfold news
  rw [List.mem_filter]
  refine and_congr_right fun _ => ?_
  constructor
  · intro h o ho e
    have : (was.any fun o => decide (o.1 = u.1)) = true := List.any_eq_true.2 ⟨o, ho, by simp [e]⟩
    rw [this] at h
    cases h
  · intro h
    cases hb : was.any fun o => decide (o.1 = u.1) with
    | false => rfl
    | true =>
      obtain ⟨o, ho, e⟩ := List.any_eq_true.1 hb
      exact absurd (by simpa using e) (h o ho)
/-- Given back, what was added since, all is as it was. -/
theorem back_taken {F F0 : List Bool} {now was : List U} (h : StOk F now was) (hj : giveAll F (news now was) = F0) {a k : Nat} (hk : 1 ≤ k) (hf : a + k ≤ F.length) (hfree : ∀ j, a ≤ j → j < a + k → F.getD j false = true) :
    giveAll (Rn.setN F a false k) (news (ins now a k) was) = F0 := by
  obtain ⟨t1, t2, t3⟩ := h.taken hk hf hfree
  have hat := fun j => Rn.setN_at F a false j k hf
  have hl := Rn.setN_len F a false k
  obtain ⟨g1, g2⟩ := giveAll_at (h.heldL (l := news now was) List.filter_sublist)
  obtain ⟨k1, k2⟩ := giveAll_at (t3.heldL (l := news (ins now a k) was) List.filter_sublist)
  have hwa : ∀ o ∈ was, o.1 ≠ a := fun o ho e => by
    obtain ⟨m, hm⟩ := h.old o ho
    obtain ⟨p1, p2, p3⟩ := h.held _ hm
    dsimp only at p1 p2 p3
    have q1 := p3 a (by omega) (by omega)
    have q2 := hfree a (Nat.le_refl a) (by omega)
    rw [q1] at q2
    cases q2
  have hdis : ∀ u ∈ now, ∀ j, u.1 ≤ j → j < u.1 + u.2.1 → ¬ (a ≤ j ∧ j < a + k) := fun u hu j j1 j2 hj => by
    have q1 := (h.held u hu).2.2 j j1 j2
    have q2 := hfree j hj.1 hj.2
    rw [q1] at q2
    cases q2
  rw [← hj]
  refine Rn.ext (by rw [k1, g1, hl]) fun j _ => ?_
  by_cases ha : a ≤ j ∧ j < a + k
  · rw [(k2 j).1 ⟨(a, k, 1), mem_news.2 ⟨(mem_ins _).2 (.inr rfl), hwa⟩, ha.1, ha.2⟩]
    rw [(g2 j).2 fun ⟨u, hu, u1, u2⟩ => hdis u (mem_news.1 hu).1 j u1 u2 ha]
    exact (hfree j ha.1 ha.2).symm
  · by_cases hn : ∃ u ∈ news now was, u.1 ≤ j ∧ j < u.1 + u.2.1
    · obtain ⟨u, hu, u1, u2⟩ := hn
      rw [(g2 j).1 ⟨u, hu, u1, u2⟩]
      exact (k2 j).1 ⟨u, mem_news.2 ⟨(mem_ins u).2 (.inl (mem_news.1 hu).1), (mem_news.1 hu).2⟩, u1, u2⟩
    · rw [(g2 j).2 hn, (k2 j).2 fun ⟨u, hu, u1, u2⟩ => ?_, hat, if_neg ha]
      obtain ⟨m1, m2⟩ := mem_news.1 hu
      rcases (mem_ins u).1 m1 with m1 | rfl
      · exact hn ⟨u, mem_news.2 ⟨m1, m2⟩, u1, u2⟩
      · exact ha ⟨u1, u2⟩
/-- Uses do not matter for what is given back. -/
theorem giveAll_runs : ∀ {l l' : List U} {F : List Bool}, l'.map (fun u => (u.1, u.2.1)) = l.map (fun u => (u.1, u.2.1)) → giveAll F l' = giveAll F l
  | [], [], _, _ => rfl
  | [], _ :: _, _, h => by simp at h
  | _ :: _, [], _, h => by simp at h
  | u :: l, u' :: l', F, h => by
    rw [List.map_cons, List.map_cons] at h
    injection h with h1 h2
    injection h1 with e1 e2
    unfold giveAll
    rw [List.foldl_cons, List.foldl_cons, e1, e2]
    exact giveAll_runs h2
theorem news_runs {l l' was : List U} (h : l'.map (fun u => (u.1, u.2.1)) = l.map (fun u => (u.1, u.2.1))) : (news l' was).map (fun u => (u.1, u.2.1)) = (news l was).map (fun u => (u.1, u.2.1)) := by
  have key : ∀ l : List U, (news l was).map (fun u => (u.1, u.2.1)) = (l.map fun u => (u.1, u.2.1)).filter fun r => !was.any fun o => decide (o.1 = r.1) := fun l => by
    unfold news
    rw [List.filter_map]
    rfl
  rw [key, key, h]
theorem back_change {F F0 : List Bool} {now was : List U} (hj : giveAll F (news now was) = F0) (a : Int) (more : Bool) : giveAll F (news (change now a more).2 was) = F0 := by
  rw [giveAll_runs (news_runs (change_runs now a more)), hj]
theorem news_same (l : List U) : news l l = [] := by
  unfold news
  refine List.filter_eq_nil_iff.2 fun u hu => ?_
  have : (l.any fun o => decide (o.1 = u.1)) = true := List.any_eq_true.2 ⟨u, hu, by simp⟩
  rw [this]
  decide
end Sh

set_option maxRecDepth 8000 in
set_option maxHeartbeats 8000000 in
/-- Two rows that say the same are the same to the statements. -/
theorem runlist_any {w : World} {A1 A2 : Option Addr} {c1 c2 : Nat} {L : List (Nat × Nat)} (k1 : RunCells w A1 L) (k2 : RunCells w A2 L) (hL : L.length ≤ 100000) :
    Calls Try.prog 43 #[.slice A1 L.length c1, .slice A2 L.length c2] w fun e w' => e = .returned (.bool true) ∧ ∃ n, w' = w.drewN n := by
  have kt := run_two_neq
  have K1 := Lib.hid k1
  have K2 := Lib.hid k2
  obtain ⟨q, hq⟩ : ∃ q, q = L.length := ⟨_, rfl⟩
  have Hq := Lib.hid hq
  rw [← hq] at hL ⊢
  clear k1 k2 hq
  go_enter Try.func43, Try.ntmps43
  go_wp2_with fail
  go_loopw [5] (fun v wr => ∃ i : Nat, v = .int .i64 (i : Int) ∧ i ≤ q ∧ ∃ n, wr = w.drewN n) (fun v _ => q - (intOf v).toNat)
  case atStart => exact ⟨0, rfl, Nat.zero_le _, 0, (drewN_zero _).symm⟩
  case round =>
    obtain ⟨i, rfl, hi, n, rfl⟩ := hrel
    by_cases hiq : i < q
    · have z0 : decide ((i : Int) < (q : Int)) = true := by rw [decide_eq_true_eq]; omega
      have z0' : decide (i < q) = true := by rw [decide_eq_true_eq]; exact hiq
      have zi2 : (0 : Int) ≤ (i : Int) ∧ (i : Int) < (q : Int) := by omega
      obtain ⟨g1, rfl, hg1, a1, a2⟩ := K1.out i (by rw [← Hq.out]; exact hiq)
      obtain ⟨g2, rfl, hg2, b1, b2⟩ := K2.out i (by rw [← Hq.out]; exact hiq)
      generalize (L.getD i (0, 0)).1 = x at *
      generalize (L.getD i (0, 0)).2 = y at *
      go_wp2_with fail
      go_quiet (fail)
      all_goals
        go_wp2_with fail
        go_roundw
        case rel => exact ⟨i + 1, by go_num, by omega, n + nq, rfl⟩
        case measure => simp [intOf]; omega
    · have hiq' : i = q := by omega
      have z0 : decide ((i : Int) < (q : Int)) = false := by rw [decide_eq_false_iff_not]; omega
      have z0' : decide (i < q) = false := by rw [decide_eq_false_iff_not]; exact hiq
      clear hiq'
      go_wp2_with fail
      go_ret
      exact ⟨rfl, n, rfl⟩
end Go.Proofs.Ytfiafgmlbejboaa
