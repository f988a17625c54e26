/- The document's Shares: List. -/
import Derived.Test.YtfiafgmlbejboaaSref
namespace Go.Proofs.Ytfiafgmlbejboaa
open Go.RowKit

theorem Sh.lst_next {l : List Sh.U} {i : Nat} (late : Bool) (h : i < l.length) : Sh.lst late (l.take (i + 1)) = Sh.lst late (l.take i) ++ if (Sh.isLate (Sh.at_ l i) == late) = true then [((Sh.at_ l i).1, (Sh.at_ l i).2.1)] else [] := by
  have hg : l[i]? = some (Sh.at_ l i) := by unfold Sh.at_; rw [List.getD_eq_getElem?_getD, List.getElem?_eq_getElem h]; rfl
  unfold Sh.lst
  rw [List.take_add_one, hg, List.filter_append, List.map_append]
  congr 1
  by_cases c : (Sh.isLate (Sh.at_ l i) == late) = true
  · rw [if_pos c]; simp [List.filter, c]
  · rw [if_neg c]; simp [List.filter, c]
theorem Sh.lst_few (late : Bool) (l : List Sh.U) : (Sh.lst late l).length ≤ l.length := by
  unfold Sh.lst; rw [List.length_map]; exact List.length_filter_le _ _

set_option maxRecDepth 8000 in
set_option maxHeartbeats 8000000 in
theorem slst_any {w : World} {B gs gm gb : Nat} {F : List Bool} {now was : List Sh.U} (h : SRef w B gs gm gb F now was) (late : Bool) :
    Calls Try.prog 62 #[.pointer (some ⟨gs, 0, none⟩), .bool late] w fun e w' => ∃ v, e = .returned v ∧ OwnR w' w.heap.size v (Sh.lst late now) ∧ Below w.heap.size w w' := by
  obtain ⟨i0, hi0, hz0, hs0, hb0⟩ := run_parts
  obtain ⟨v1, v2, hbk, hu1, hu2⟩ := h.sh
  obtain ⟨A, c, rfl, -, -⟩ := ownU_slice hu1
  obtain ⟨q, hq⟩ : ∃ q, q = now.length := ⟨_, rfl⟩
  have hq5 : q ≤ 100000 := by rw [hq]; exact h.ok.1
  have OK := Lib.hid h.ok
  have OU := Lib.hid (fun W (hb : Below w.heap.size w W) => (own_keep hu1 fun b _ hlt => hb.block b hlt : OwnU W B (.slice A now.length c) now))
  have CN := Lib.hid (fun W (hb : Below w.heap.size w W) => (show W.cell? ⟨gs, 1, none⟩ = some (.slice A q c) by rw [hq]; exact (hbk.keep (hb.block _ hbk.lt)).cell 1))
  have Hq := Lib.hid hq
  clear hbk hu1 hu2 h hq
  go_enter Try.func62, Try.ntmps62
  go_wp2_with fail
  go_loopw [5, 6] (fun v5 v6 wr => ∃ i : Nat, v6 = .int .i64 (i : Int) ∧ i ≤ q ∧ OwnR wr w.heap.size v5 (Sh.lst late (now.take i)) ∧ Below w.heap.size w wr) (fun _ v6 _ => q - (intOf v6).toNat)
  case atStart => exact ⟨0, rfl, Nat.zero_le _, World.ownsRow_nil _ _ _ _, Below.refl _ _⟩
  case round =>
    obtain ⟨i, rfl, hi, own, hb⟩ := hrel
    have HB := Lib.hid hb
    have cn := CN.out wr hb
    by_cases hiq : i < q
    · have z0 : decide ((i : Int) < (q : Int)) = true := by rw [decide_eq_true_eq]; omega
      have z0' : decide (i < q) = true := by rw [decide_eq_true_eq]; exact hiq
      obtain ⟨g, c', hv, -, -, hcell⟩ := ownU_at (OU.out wr hb) (by rw [← Hq.out]; omega)
      injection hv with hA hw1 hw2
      subst hA
      obtain ⟨e1, e2, -, e4⟩ := hcell i (by rw [← Hq.out]; exact hiq)
      have nx := Sh.lst_next (l := now) late (show i < now.length by rw [← Hq.out]; exact hiq)
      have fw := Sh.lst_few late (now.take i)
      rw [List.length_take] at fw
      obtain ⟨x1, x2, -⟩ := OK.out.at_ i
      obtain ⟨L, hL⟩ : ∃ L, L = Sh.lst late (now.take i) := ⟨_, rfl⟩
      rw [← hL] at nx fw own
      clear hw1 hw2 hcell hb
      generalize (Sh.at_ now i).1 = x at *
      generalize (Sh.at_ now i).2.1 = y at *
      generalize Sh.isLate (Sh.at_ now i) = b at *
      have Own := Lib.hid own
      obtain ⟨k, hk⟩ : ∃ k, k = L.length := ⟨_, rfl⟩
      have Hk := Lib.hid hk
      have hk5 : k ≤ 100000 := by omega
      obtain ⟨A5, c5, rfl⟩ := ownR_slice own
      by_cases hbl : (b == late) = true
      · rw [if_pos hbl] at nx
        have Nx := Lib.hid nx
        clear nx own hL hk fw
        have hal : Below w.heap.size wr (wr.alloc (.cells #[.int .i64 (x : Int), .int .i64 (y : Int)] 39)) := (Below.refl _ _).alloc HB.out.size _
        have Oz := Lib.hid (own_keep Own.out fun b _ hlt => Below.heap_alloc wr (.cells #[.int .i64 (x : Int), .int .i64 (y : Int)] 39) b hlt)
        have Bz := Lib.hid (HB.out.trans hal)
        clear hal
        go_wp2_with (at_builtin; refine wpList_append_sls (base := w.heap.size) _ rfl (.tmp 26) (.tmp 35) _ rfl Try.underlying37 hi0 hz0 hs0 hb0 rfl (by decide) rfl Oz.out (m := 1) (news := [.int .i64 (x : Int), .int .i64 (y : Int)]) rfl rfl (by simp) (Nat.le_refl _) sl_two (by simp [Value.oneCell']) (by unfold maxLen; rw [← Hk.out]; omega) (by rw [← Hk.out]; omega) Bz.out.size ?_; intro v8 w8 k1 k2 _; have K1 := Lib.hid k1; have B8 := Lib.hid (Bz.out.grown k2 Bz.out.size fun g hg => (Oz.out.lt g hg).1); clear k1 k2)
        go_roundw
        case rel => exact ⟨i + 1, by go_num, by omega, by rw [Nx.out]; unfold OwnR; rw [List.length_append, rcs_app]; exact K1.out, B8.out⟩
        case measure => simp [intOf]; omega
      · rw [if_neg hbl, List.append_nil] at nx
        have hbf : (b == late) = false := by simpa using hbl
        have Nx := Lib.hid nx
        clear nx own hL hk fw hbl
        go_wp2_with fail
        go_roundw
        case rel => exact ⟨i + 1, by go_num, by omega, by rw [Nx.out]; exact Own.out, HB.out⟩
        case measure => simp [intOf]; omega
    · have hiq' : i = q := by omega
      subst hiq'
      have z0 : decide ((i : Int) < (i : Int)) = false := by simp
      have z0' : decide (i < i) = false := by simp
      have Own := Lib.hid own
      clear own hb
      go_wp2_with fail
      go_ret
      exact ⟨_, rfl, by have := Own.out; rw [Hq.out, List.take_length] at this; exact this, HB.out⟩
end Go.Proofs.Ytfiafgmlbejboaa
