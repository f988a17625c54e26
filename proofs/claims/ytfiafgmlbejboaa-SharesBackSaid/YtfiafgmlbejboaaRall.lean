/- The program's map of free blocks: Give; all that is asked of it. -/
import Derived.Test.YtfiafgmlbejboaaRgb1
import Derived.Test.YtfiafgmlbejboaaRgb2
import Derived.Test.YtfiafgmlbejboaaRgb3
namespace Go.Proofs.Ytfiafgmlbejboaa
open Go.RowKit

section
variable {w : World} {g gb N c a n q : Nat} {X : Nat → Prop} {F : List Bool}
/-- What Give promises. -/
def GvP (w : World) (g : Nat) (X : Nat → Prop) (F : List Bool) (a n : Int) (e : Ending) (w' : World) : Prop := e = .returned (.bool (Rn.give F a n).1) ∧ OpR RepP g X (Rn.give F a n).2 w w'
theorem GvS.nr (h : GvS w g gb N c X F a n q) {i j s e l : Nat} (hiq : i ≤ q) (hqj : q ≤ j) (hjN : j ≤ N) (hi : i = q ∨ i + 1 = q) (hj : j = q ∨ j = q + 1)
    (h1 : ∀ t, t < i → ((Rn.list F).getD t (0, 0)).1 + ((Rn.list F).getD t (0, 0)).2 < s) (h2 : ∀ t, j ≤ t → t < N → e < ((Rn.list F).getD t (0, 0)).1)
    (hs : if i = q then s = a else s = ((Rn.list F).getD i (0, 0)).1 ∧ ((Rn.list F).getD i (0, 0)).1 + ((Rn.list F).getD i (0, 0)).2 = a)
    (he : if j = q then e = a + n else ((Rn.list F).getD q (0, 0)).1 = a + n ∧ e = ((Rn.list F).getD q (0, 0)).1 + ((Rn.list F).getD q (0, 0)).2) (hl : l = e - s) :
    Hid (∀ Wc : World, Below w.heap.size w Wc → Calls Try.prog 50 #[.slice (some ⟨gb, 0, none⟩) N c, .int .i64 (i : Int), .int .i64 (j : Int), .slice (some ⟨Wc.heap.size, 0, none⟩) 1 1] (Wc.drew.alloc (.cells #[.int .i64 (s : Int), .int .i64 (l : Int)] 39)) fun e w' =>
      ∃ A' p' c', e = .returned (.slice A' p' c') ∧ w'.cell? ⟨g, 1, none⟩ = some (.slice (some ⟨gb, 0, none⟩) N c) ∧ w'.frozen? ⟨g, 1, none⟩ = false ∧ GvP w g X F (a : Int) (n : Int) (.returned (.bool true)) (w'.setCell ⟨g, 1, none⟩ (.slice A' p' c'))) := by
  obtain ⟨d1, d2⟩ := h.done hiq hqj hjN hi hj h1 h2 hs he
  subst hl
  refine Lib.hid fun Wc hb => (h.rep20 hb i j s (e - s) (by omega) hjN).mono ?_
  rintro x w' ⟨A', p, c', rfl, k1, k2, k3⟩
  refine ⟨A', p, c', rfl, k1, k2, ?_⟩
  unfold GvP
  rw [d1]
  exact ⟨rfl, k3 _ d2 (Rn.setN_len _ _ _ _)⟩
theorem GvS.no (h : GvS w g gb N c X F a n q) (hR : Rn.give F (a : Int) (n : Int) = (false, F)) : Hid (∀ W : World, Below w.heap.size w W → GvP w g X F (a : Int) (n : Int) (.returned (.bool false)) W) :=
  Lib.hid fun W hb => by
    unfold GvP
    rw [hR]
    exact ⟨rfl, opR_same h.rep hb⟩

theorem GvS.give (h : GvS w g gb N c X F a n q) : Calls Try.prog 19 #[.pointer (some ⟨g, 0, none⟩), .int .i64 (a : Int), .int .i64 (n : Int)] w (GvP w g X F (a : Int) (n : Int)) := by
  have hfew := h.few
  have hfit := h.fit
  have hn := h.nb
  have hlen := h.len
  have c0 : w.cell? ⟨g, 0, none⟩ = some (.int .i64 (F.length : Int)) := h.rep.blk.cell 0
  have NB := Lib.hid (behind_any h.rep (a : Int))
  rw [← h.pos] at NB
  have Cg := Lib.hid (fun (W : World) (hb : Below w.heap.size w W) => show W.cell? ⟨g, 1, none⟩ = some (.slice (some ⟨gb, 0, none⟩) N c) from (hb.cell (p := ⟨g, 1, none⟩) h.rep.blk.lt).trans (h.rep.blk.cell 1))
  have srt := fun i j (hij : i < j) (hj : j < N) => h.sorted hij hj
  have ct := h.cut
  have Cc := fun i (hi : i < N) => Lib.hid (fun (W : World) (hb : Below w.heap.size w W) => (h.cells W hb hi).2)
  have spl := fun i (hi : i < N) => list_split (L := Rn.list F) (k := i) (by rw [← hlen]; exact hi)
  have hbs := fun i (hi : i < N) => h.run hi
  obtain ⟨t, ht⟩ : ∃ t, t = a + n := ⟨_, rfl⟩
  -- what lies behind
  rcases Nat.eq_zero_or_pos q with hq0 | hq0
  · rcases Nat.lt_or_ge q N with hqN | hqN
    · obtain ⟨az, haz⟩ : ∃ x, x = ((Rn.list F).getD q (0, 0)).1 := ⟨_, rfl⟩
      obtain ⟨al, hal⟩ : ∃ x, x = ((Rn.list F).getD q (0, 0)).2 := ⟨_, rfl⟩
      have hsp := spl q hqN
      have hr := hbs q hqN
      have hc := ct.2 q (Nat.le_refl _) hqN
      have Cq := Cc q hqN
      rw [show (Rn.list F).getD q (0, 0) = (az, al) by rw [haz, hal]] at hsp
      rw [← haz, ← hal] at hr Cq
      rw [← haz] at hc
      rcases Nat.lt_trichotomy az t with h8 | h8 | h8
      · exact gw_none_bad hn hfit hfew.1 hfew.2.1 hfew.2.2 hq0 hqN hr.2 ht h8 c0 NB Cg Cq (h.no (Rn.give_post hsp (by omega) (by omega)))
      · exact gw_none_eq (q1 := q + 1) (l2 := n + al) hn hfit hfew.1 hfew.2.1 hfew.2.2 hq0 hqN hr.2 ht h8 rfl rfl c0 NB Cg Cq
          (h.nr (e := az + al) (Nat.le_refl _) (by omega) (by omega) (.inl rfl) (.inr rfl) (fun x hx => by omega) (fun x h1 h2 => by have := srt q x (by omega) h2; omega) (by rw [if_pos rfl]) (by rw [if_neg (by omega)]; omega) (by omega))
      · exact gw_none_gt hn hfit hfew.1 hfew.2.1 hfew.2.2 hq0 hqN hr.2 ht h8 c0 NB Cg Cq
          (h.nr (e := a + n) (Nat.le_refl _) (Nat.le_refl _) (by omega) (.inl rfl) (.inl rfl) (fun x hx => by omega) (fun x h1 h2 => by
            rcases Nat.lt_or_ge q x with hx | hx
            · have := srt q x hx h2; omega
            · have : x = q := by omega
              rw [this]; omega) (by rw [if_pos rfl]) (by rw [if_pos rfl]) (by omega))
    · have hqN : q = N := by omega
      exact gw_none_none hn hfit hfew.1 hfew.2.1 hfew.2.2 hq0 hqN c0 NB Cg
        (h.nr (e := a + n) (Nat.le_refl _) (Nat.le_refl _) (by omega) (.inl rfl) (.inl rfl) (fun x hx => by omega) (fun x h1 h2 => by omega) (by rw [if_pos rfl]) (by rw [if_pos rfl]) (by omega))
  · obtain ⟨p, hp⟩ : ∃ p, q = p + 1 := ⟨q - 1, by omega⟩
    have hpN : p < N := by omega
    obtain ⟨bs, hbs1⟩ : ∃ x, x = ((Rn.list F).getD p (0, 0)).1 := ⟨_, rfl⟩
    obtain ⟨bl, hbl1⟩ : ∃ x, x = ((Rn.list F).getD p (0, 0)).2 := ⟨_, rfl⟩
    have hspp := spl p hpN
    have hrp := hbs p hpN
    have hcp := ct.1 p (by omega)
    have Cp := Cc p hpN
    rw [show (Rn.list F).getD p (0, 0) = (bs, bl) by rw [hbs1, hbl1]] at hspp
    rw [← hbs1, ← hbl1] at hrp Cp
    rw [← hbs1] at hcp
    have before : ∀ x, x < p → ((Rn.list F).getD x (0, 0)).1 + ((Rn.list F).getD x (0, 0)).2 < bs := fun x hx => by have := srt x p hx hpN; omega
    rcases Nat.lt_trichotomy (bs + bl) a with h5 | h5 | h5
    · have before2 : ∀ x, x < q → ((Rn.list F).getD x (0, 0)).1 + ((Rn.list F).getD x (0, 0)).2 < a := fun x hx => by
        rcases Nat.lt_or_ge x p with hx' | hx'
        · have := before x hx'; omega
        · have : x = p := by omega
          rw [this]; omega
      rcases Nat.lt_or_ge q N with hqN | hqN
      · obtain ⟨az, haz⟩ : ∃ x, x = ((Rn.list F).getD q (0, 0)).1 := ⟨_, rfl⟩
        obtain ⟨al, hal⟩ : ∃ x, x = ((Rn.list F).getD q (0, 0)).2 := ⟨_, rfl⟩
        have hsp := spl q hqN
        have hr := hbs q hqN
        have hc := ct.2 q (Nat.le_refl _) hqN
        have Cq := Cc q hqN
        rw [show (Rn.list F).getD q (0, 0) = (az, al) by rw [haz, hal]] at hsp
        rw [← haz, ← hal] at hr Cq
        rw [← haz] at hc
        rcases Nat.lt_trichotomy az t with h8 | h8 | h8
        · exact gw_lt_bad hn hfit hfew.1 hfew.2.1 hfew.2.2 hp hrp.2 rfl h5 hqN hr.2 ht h8 c0 NB Cg Cp Cq (h.no (Rn.give_post hsp (by omega) (by omega)))
        · exact gw_lt_eq (q1 := q + 1) (l2 := n + al) hn hfit hfew.1 hfew.2.1 hfew.2.2 hp hrp.2 rfl h5 hqN hr.2 ht h8 rfl rfl c0 NB Cg Cp Cq
            (h.nr (e := az + al) (Nat.le_refl _) (by omega) (by omega) (.inl rfl) (.inr rfl) before2 (fun x h1 h2 => by have := srt q x (by omega) h2; omega) (by rw [if_pos rfl]) (by rw [if_neg (by omega)]; omega) (by omega))
        · exact gw_lt_gt hn hfit hfew.1 hfew.2.1 hfew.2.2 hp hrp.2 rfl h5 hqN hr.2 ht h8 c0 NB Cg Cp Cq
            (h.nr (e := a + n) (Nat.le_refl _) (Nat.le_refl _) (by omega) (.inl rfl) (.inl rfl) before2 (fun x h1 h2 => by
              rcases Nat.lt_or_ge q x with hx | hx
              · have := srt q x hx h2; omega
              · have : x = q := by omega
                rw [this]; omega) (by rw [if_pos rfl]) (by rw [if_pos rfl]) (by omega))
      · have hqN : q = N := by omega
        exact gw_lt_none hn hfit hfew.1 hfew.2.1 hfew.2.2 hp hrp.2 rfl h5 hqN c0 NB Cg Cp
          (h.nr (e := a + n) (Nat.le_refl _) (Nat.le_refl _) (by omega) (.inl rfl) (.inl rfl) before2 (fun x h1 h2 => by omega) (by rw [if_pos rfl]) (by rw [if_pos rfl]) (by omega))
    · rcases Nat.lt_or_ge q N with hqN | hqN
      · obtain ⟨az, haz⟩ : ∃ x, x = ((Rn.list F).getD q (0, 0)).1 := ⟨_, rfl⟩
        obtain ⟨al, hal⟩ : ∃ x, x = ((Rn.list F).getD q (0, 0)).2 := ⟨_, rfl⟩
        have hsp := spl q hqN
        have hr := hbs q hqN
        have hc := ct.2 q (Nat.le_refl _) hqN
        have Cq := Cc q hqN
        rw [show (Rn.list F).getD q (0, 0) = (az, al) by rw [haz, hal]] at hsp
        rw [← haz, ← hal] at hr Cq
        rw [← haz] at hc
        rcases Nat.lt_trichotomy az t with h8 | h8 | h8
        · exact gw_eq_bad (l1 := bl + n) hn hfit hfew.1 hfew.2.1 hfew.2.2 hp hrp.2 rfl h5 rfl hqN hr.2 ht h8 c0 NB Cg Cp Cq (h.no (Rn.give_post hsp (by omega) (by omega)))
        · exact gw_eq_eq (l1 := bl + n) (q1 := q + 1) (l2 := bl + n + al) hn hfit hfew.1 hfew.2.1 hfew.2.2 hp hrp.2 rfl h5 rfl hqN hr.2 ht h8 rfl rfl c0 NB Cg Cp Cq
            (h.nr (e := az + al) (by omega) (by omega) (by omega) (.inr (by omega)) (.inr rfl) before (fun x h1 h2 => by have := srt q x (by omega) h2; omega) (by rw [if_neg (by omega)]; omega) (by rw [if_neg (by omega)]; omega) (by omega))
        · exact gw_eq_gt (l1 := bl + n) hn hfit hfew.1 hfew.2.1 hfew.2.2 hp hrp.2 rfl h5 rfl hqN hr.2 ht h8 c0 NB Cg Cp Cq
            (h.nr (e := a + n) (by omega) (Nat.le_refl _) (by omega) (.inr (by omega)) (.inl rfl) before (fun x h1 h2 => by
              rcases Nat.lt_or_ge q x with hx | hx
              · have := srt q x hx h2; omega
              · have : x = q := by omega
                rw [this]; omega) (by rw [if_neg (by omega)]; omega) (by rw [if_pos rfl]) (by omega))
      · have hqN : q = N := by omega
        exact gw_eq_none (l1 := bl + n) hn hfit hfew.1 hfew.2.1 hfew.2.2 hp hrp.2 rfl h5 rfl hqN c0 NB Cg Cp
          (h.nr (e := a + n) (by omega) (Nat.le_refl _) (by omega) (.inr (by omega)) (.inl rfl) before (fun x h1 h2 => by omega) (by rw [if_neg (by omega)]; omega) (by rw [if_pos rfl]) (by omega))
    · exact gw_bad_none hn hfit hfew.1 hfew.2.1 hfew.2.2 hp hrp.2 rfl h5 c0 NB Cg Cp (h.no (Rn.give_pre hspp (by omega) (by omega)))

set_option maxHeartbeats 2000000 in
theorem give_any' (h : RepP w g X F) (a n : Int) (ha : I64 a) (hn : I64 n) : Calls Try.prog 19 #[.pointer (some ⟨g, 0, none⟩), .int .i64 a, .int .i64 n] w (GvP w g X F a n) := by
  obtain ⟨v, hV⟩ := h
  have few := hV.few
  by_cases hout : a < 0 ∨ n < 1 ∨ (F.length : Int) - a < n
  · have c0 : w.cell? ⟨g, 0, none⟩ = some (.int .i64 (F.length : Int)) := hV.blk.cell 0
    obtain ⟨M, hM⟩ : ∃ M, M = F.length := ⟨_, rfl⟩
    have Fin := Lib.hid (show GvP w g X F a n (.returned (.bool false)) w from by
      unfold GvP
      rw [Rn.give_out hout]
      exact ⟨rfl, opR_same hV (Below.refl _ _)⟩)
    rw [← hM] at c0 hout few
    have ha2 := ha.2
    have hn2 := hn.2
    clear hV hM hn ha
    by_cases h1 : a < 0
    · have z1 : decide (a < 0) = true := by rw [decide_eq_true_eq]; exact h1
      clear hout
      go_enter Try.func19, Try.ntmps19
      go_wp2_with fail
      go_ret
      exact Fin.out
    have z1 : decide (a < 0) = false := by rw [decide_eq_false_iff_not]; exact h1
    by_cases h2 : n < 1
    · have z2 : decide (n < 1) = true := by rw [decide_eq_true_eq]; exact h2
      clear hout
      go_enter Try.func19, Try.ntmps19
      go_wp2_with fail
      go_ret
      exact Fin.out
    have z2 : decide (n < 1) = false := by rw [decide_eq_false_iff_not]; exact h2
    have z3 : decide ((M : Int) - a < n) = true := by rw [decide_eq_true_eq]; omega
    have ha0 : 0 ≤ a := by omega
    clear hout
    go_enter Try.func19, Try.ntmps19
    go_wp2_with fail
    go_ret
    exact Fin.out
  · obtain ⟨p, rfl⟩ : ∃ p : Nat, a = (p : Int) := ⟨a.toNat, by omega⟩
    obtain ⟨m, rfl⟩ : ∃ m : Nat, n = (m : Int) := ⟨n.toNat, by omega⟩
    obtain ⟨gb, c, rfl, -⟩ := hV.form (fun e => by rw [e] at hout; simp at hout; omega)
    exact GvS.give (N := (Rn.list F).length) ⟨hV, rfl, by omega, by omega, rfl⟩
end

/-- All that is asked of the program's map. -/
theorem runs_are : RunsC RepP where
  keep := fun ⟨v, h⟩ hk => ⟨v, h.keep hk⟩
  lt := fun ⟨_, h⟩ _ hb => h.lt hb
  few := fun ⟨_, h⟩ => h.few
  new := new_any
  take := take_any'
  mark := mark_any'
  give := give_any'
  copy := copy_any'
  free := free_any
  greatest := greatest_any
  list := list_any
end Go.Proofs.Ytfiafgmlbejboaa
