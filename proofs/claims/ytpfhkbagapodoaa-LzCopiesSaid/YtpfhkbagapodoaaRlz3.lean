/- The document's Unpack, walked. -/
import Derived.Test.YtpfhkbagapodoaaRlz2
namespace Go.Proofs.Ytpfhkbagapodoaa
open Go.RowKit

/-- Between two sequences. -/
def Unp (w wr : World) (n N : Nat) (l : List Nat) (R : List Nat × Nat) (j : Nat) (A : Option Addr) (m c : Nat) : Prop :=
  ∃ (f : Nat) (o : List Nat), j ≤ N ∧ Mine w wr A m c o ∧ (∀ x ∈ o, x < 256) ∧ m ≤ n ∧ N - j ≤ f ∧ Lz.unp n f (l.drop j) o = R
set_option maxRecDepth 8000 in
set_option maxHeartbeats 8000000 in
theorem runpack_good (A : Option Addr) (cap : Nat) (l : List Nat) (hl : ∀ x ∈ l, x < 256) (hlen : l.length ≤ 100000) (hcap : l.length ≤ cap) (hA : A = none → cap = 0) (n : Nat) (hn : n ≤ 4096) {w : World} (hsl : Sl w w.heap.size A (byts l)) :
    Calls Try.prog 12 #[.slice A l.length cap, .int .i64 (n : Int)] w (UnpR (Lz.unpack l n) w) := by
  obtain ⟨i0, hi0, hz0, hs0, hb0⟩ := byte_parts (P := Try.prog) (e := 5) (by kernel_rfl)
  obtain ⟨N, hN⟩ : ∃ N, N = l.length := ⟨_, rfl⟩
  obtain ⟨R, hR⟩ : ∃ R, R = Lz.unpack l n := ⟨_, rfl⟩
  have q1 : decide ((n : Int) < 0) = false := by rw [decide_eq_false_iff_not]; omega
  have q2 : decide (4096 < (n : Int)) = false := by rw [decide_eq_false_iff_not]; omega
  have q2' : decide (4096 < n) = false := by rw [decide_eq_false_iff_not]; omega
  have h0 : Lz.unp n N (l.drop 0) [] = R := by
    rw [hR, hN]; unfold Lz.unpack; rw [if_neg (by omega), Int.toNat_natCast]; rfl
  have H0 := Lib.hid (show Unp w w n N l R 0 none 0 0 from ⟨N, [], Nat.zero_le _, ⟨World.ownsRow_nil _ _ _ _, Below.refl _ _⟩, by simp, Nat.zero_le _, Nat.le_refl _, h0⟩)
  have hNb : N ≤ 100000 := by omega
  have hcN : N ≤ cap := by omega
  have HN := Lib.hid hN
  have HA := Lib.hid hA
  have Hl := Lib.hid hl
  have Hlen := Lib.hid (show l.length ≤ 1000000 by omega)
  have Sw := Lib.hid (fun wr (hb : Below w.heap.size w wr) => hsl.below hb)
  rw [← hR, ← hN]
  clear hR h0 hN hsl hA hl hlen hcap
  go_enter Try.func12, Try.ntmps12
  go_wp2_with fail
  go_loopw [6, 7] (fun v a wr => ∃ (j : Nat) (A' : Option Addr) (m c' : Nat), a = .int .i64 j ∧ v = .slice A' m c' ∧ Unp w wr n N l R j A' m c') (fun _ a _ => N - (intOf a).toNat)
  case atStart => exact ⟨0, none, 0, 0, rfl, rfl, H0.out⟩
  case round =>
    obtain ⟨j, Ao, m, co, rfl, rfl, f, o, hj, hm, hob, hmn, hf, hu⟩ := hrel
    have HM := Lib.hid hm
    have Hob := Lib.hid hob
    have hlo := hm.len
    have Hlo := Lib.hid hlo
    clear hm hob hlo H0
    by_cases hjN : N ≤ j
    · have e : j = N := by omega
      subst e
      have hr : R = ([], 2) := by rw [← hu, HN.out, List.drop_length, Lz.unp_nil]
      have HR := Lib.hid hr
      have p1 : decide ((j : Int) ≤ (j : Int)) = true := by simp
      have p1' : decide (j ≤ j) = true := by simp
      clear hu hr
      go_wp2_with fail
      go_returns
      exact unpR_no HR.out HM.out.bel
    have p1 : decide ((N : Int) ≤ (j : Int)) = false := by rw [decide_eq_false_iff_not]; omega
    have p1' : decide (N ≤ j) = false := by rw [decide_eq_false_iff_not]; omega
    have hjl : j < l.length := by rw [← HN.out]; exact Nat.lt_of_not_le hjN
    obtain ⟨f, rfl⟩ : ∃ g, f = g + 1 := ⟨f - 1, by omega⟩
    have hd : l.drop j = l.getD j 0 :: l.drop (j + 1) := by
      rw [List.drop_eq_getElem_cons hjl, List.getD_eq_getElem?_getD, List.getElem?_eq_getElem hjl]; rfl
    rw [hd] at hu
    obtain ⟨b, ob, eA, ct⟩ := sl_cell (Sw.out wr HM.out.bel) hjl
    subst eA
    have ht := getB_lt Hl.out j
    generalize l.getD j 0 = t at *
    have HU := Lib.hid hu
    clear hu hd
    cases had : Lz.added (l.drop (j + 1)) (t / 16) with
    | none =>
      have C := Lib.hid (radded_none (A := some ⟨b, ob, none⟩) (cap := cap) Hl.out Hlen.out (j + 1) (t / 16) ((j : Int) + 1) ((t : Int) / 16) (by omega) (by omega) (by omega) (by omega) N HN.out (Sw.out wr HM.out.bel) had)
      have hr : R = ([], 2) := by rw [← HU.out, Lz.unp_none had]
      have HR := Lib.hid hr
      clear HU hr had
      go_wp2_with fail
      refine C.out.mono ?_
      rintro e w1 ⟨⟨u, rfl⟩, rfl⟩
      go_wp2_with fail
      go_returns
      exact unpR_no HR.out HM.out.bel
    | some pr =>
    obtain ⟨lits, q⟩ := pr
    obtain ⟨hq1, hq2⟩ := added_pos (by omega) had
    obtain ⟨p, hp⟩ : ∃ p, p = l.length - q.length := ⟨_, rfl⟩
    have C := Lib.hid (radded_some (A := some ⟨b, ob, none⟩) (cap := cap) Hl.out Hlen.out (j + 1) (t / 16) ((j : Int) + 1) ((t : Int) / 16) (by omega) (by omega) (by omega) (by omega) N HN.out (Sw.out wr HM.out.bel) had hp)
    have hpN : p ≤ N := by rw [HN.out]; omega
    have hjp : j + 1 ≤ p := by omega
    have hql : q.length = N - p := by rw [HN.out]; omega
    rw [← hp] at hq2
    have hlb : lits ≤ 15 + 255 * l.length := by
      have := Lz.added_bound (fun x hx => Hl.out x (List.mem_of_mem_drop hx)) had
      rw [List.length_drop] at this
      omega
    rw [← HN.out] at hlb
    by_cases hs1 : N - p < lits
    · have hr : R = ([], 2) := by rw [← HU.out, Lz.unp_short had (by omega)]
      have HR := Lib.hid hr
      have p2 : decide ((N : Int) - (p : Int) < (lits : Int)) = true := by rw [decide_eq_true_eq]; omega
      clear HU hr had hp hq1 hq2 hql
      go_wp2_with fail
      refine C.out.mono ?_
      rintro e w1 ⟨rfl, rfl⟩
      go_wp2_with fail
      go_returns
      exact unpR_no HR.out HM.out.bel
    have p2 : decide ((N : Int) - (p : Int) < (lits : Int)) = false := by rw [decide_eq_false_iff_not]; omega
    obtain ⟨P, hP⟩ : ∃ P : Nat, P = p + lits := ⟨_, rfl⟩
    have hPi : (p : Int) + (lits : Int) = (P : Int) := by omega
    have hPN : P ≤ N := by omega
    have hcut : ∀ w, (Instr.slice 22 (.slice (some ⟨b, ob, none⟩) N cap) (some (.int .i64 (p : Int))) (some (.int .i64 (P : Int))) none).run Try.prog w = .ok (.slice (cutA (some ⟨b, ob, none⟩) cap p) lits (cap - p)) w := fun w => by
      have := run_slice_mid (P := Try.prog) Try.underlying22 hi0 hs0 (some ⟨b, ob, none⟩) N cap p P (by omega) (by omega) w
      rwa [show P - p = lits by omega] at this
    have hcutn : cutA (some ⟨b, ob, none⟩) cap p = none → cap - p = 0 := by
      unfold cutA
      by_cases hck : cap = p
      · omega
      · rw [if_neg hck]; intro hh; simp at hh
    have Sl1 := Lib.hid (fun wr' (hb : Below w.heap.size w wr') => show Sl wr' w.heap.size (cutA (some ⟨b, ob, none⟩) cap p) (byts (q.take lits)) by
      rw [hq2, ← byts_take, ← byts_drop]
      exact ((Sw.out wr' hb).from (by rw [byts_length, ← HN.out]; exact hcN)).to _)
    have Lq := Lib.hid (show (byts (q.take lits)).length = lits by rw [byts_length, List.length_take, hql]; omega)
    have Lq' := Lib.hid (show (q.take lits).length = lits by rw [List.length_take, hql]; omega)
    have Bq := Lib.hid (show ∀ x ∈ o ++ q.take lits, x < 256 from fun x hx => by
      rcases List.mem_append.1 hx with h | h
      · exact Hob.out x h
      · rw [hq2] at h; exact Hl.out x (List.mem_of_mem_drop (List.mem_of_mem_take h)))
    have HP := Lib.hid hP
    have Hcutn := Lib.hid hcutn
    have Hq2 := Lib.hid hq2
    have Had := Lib.hid had
    have Hql := Lib.hid hql
    clear had hp hq1 hq2 hql hcutn hP
    by_cases hlast : P = N
    · -- the last sequence
      have hr0 : R = if n - m < lits then ([], 3) else if m + lits < n then ([], 2) else (o ++ q, 0) := by
        rw [← HU.out, Lz.unp_last Had.out (by rw [Hql.out]; have := HP.out; omega), Hlo.out]
      have Hr0 := Lib.hid hr0
      have p3 : ((P : Int) == (N : Int)) = true := by rw [beq_iff_eq]; omega
      have Hqe := Lib.hid (show q.take lits = q from List.take_of_length_le (by rw [Hql.out]; have := HP.out; omega))
      clear hr0 HU hlast
      by_cases hlong : n - m < lits
      · have hr : R = ([], 3) := by rw [Hr0.out, if_pos hlong]
        have HR := Lib.hid hr
        have p4 : decide ((n : Int) - (m : Int) < (lits : Int)) = true := by rw [decide_eq_true_eq]; omega
        clear hr Hr0
        go_wp2_with fail
        refine C.out.mono ?_
        rintro e w1 ⟨rfl, rfl⟩
        go_wp2_with fail
        go_returns
        exact unpR_no HR.out HM.out.bel
      have p4 : decide ((n : Int) - (m : Int) < (lits : Int)) = false := by rw [decide_eq_false_iff_not]; omega
      go_wp2_with fail
      refine C.out.mono ?_
      rintro e w1 ⟨rfl, rfl⟩
      by_cases hsh : m + lits < n
      · have hr : R = ([], 2) := by rw [Hr0.out, if_neg hlong, if_pos hsh]
        have HR := Lib.hid hr
        have p5 : decide (((m + lits : Nat) : Int) < (n : Int)) = true := by rw [decide_eq_true_eq]; omega
        have p5' : decide (m + lits < n) = true := by simpa using hsh
        have p5'' : decide ((m : Int) + (lits : Int) < (n : Int)) = true := by rw [decide_eq_true_eq]; omega
        clear hr Hr0
        go_wp2_with (at_builtin; refine wpList_append_sl (base := w.heap.size) _ rfl (.tmp 93) (.tmp 99) _ rfl Try.underlying22 hi0 hz0 hs0 hb0 rfl rfl HM.out.own rfl Lq.out.symm Hcutn.out (Sl1.out _ HM.out.bel) (byts_one _) (by rw [Lq.out]; omega) (by rw [Lq.out]; unfold maxLen; omega) (by rw [Lq.out]; omega) HM.out.bel.size ?_; intro v2 w2 h1 h2 _; obtain ⟨A2, c2, rfl, m2⟩ := HM.out.app Lq'.out rfl h1 h2; have M2 := Lib.hid m2; clear h1 h2 m2)
        go_returns
        exact unpR_no HR.out M2.out.bel
      · have hr : R = (o ++ q, 0) := by rw [Hr0.out, if_neg hlong, if_neg hsh]
        have HR := Lib.hid hr
        have p5 : decide (((m + lits : Nat) : Int) < (n : Int)) = false := by rw [decide_eq_false_iff_not]; omega
        have p5' : decide (m + lits < n) = false := by simpa using hsh
        have p5'' : decide ((m : Int) + (lits : Int) < (n : Int)) = false := by rw [decide_eq_false_iff_not]; omega
        clear hr Hr0
        go_wp2_with (at_builtin; refine wpList_append_sl (base := w.heap.size) _ rfl (.tmp 93) (.tmp 99) _ rfl Try.underlying22 hi0 hz0 hs0 hb0 rfl rfl HM.out.own rfl Lq.out.symm Hcutn.out (Sl1.out _ HM.out.bel) (byts_one _) (by rw [Lq.out]; omega) (by rw [Lq.out]; unfold maxLen; omega) (by rw [Lq.out]; omega) HM.out.bel.size ?_; intro v2 w2 h1 h2 _; obtain ⟨A2, c2, rfl, m2⟩ := HM.out.app Lq'.out rfl h1 h2; have M2 := Lib.hid m2; clear h1 h2 m2)
        go_returns
        exact unpR_ok HR.out (by rw [← Hqe.out]; exact M2.out) (by rw [← Hqe.out]; exact Bq.out) (by omega)
    have p3 : ((P : Int) == (N : Int)) = false := by rw [beq_eq_false_iff_ne]; omega
    have hql2 : lits + 1 ≤ q.length := by rw [Hql.out]; have := HP.out; omega
    by_cases hone : q.length = lits + 1
    · have hr : R = ([], 2) := by rw [← HU.out, Lz.unp_one Had.out hone]
      have HR := Lib.hid hr
      have p4 : decide ((N : Int) - (P : Int) < 2) = true := by rw [decide_eq_true_eq]; have := HP.out; have := Hql.out; omega
      clear hr HU hlast hone hql2
      go_wp2_with fail
      refine C.out.mono ?_
      rintro e w1 ⟨rfl, rfl⟩
      go_wp2_with fail
      go_returns
      exact unpR_no HR.out HM.out.bel
    have hP2 : P + 2 ≤ N := by have := HP.out; have := Hql.out; omega
    have p4 : decide ((N : Int) - (P : Int) < 2) = false := by rw [decide_eq_false_iff_not]; omega
    have hPl : P + 1 < l.length := by rw [← HN.out]; omega
    have hqg : ∀ i, q.getD (lits + i) 0 = l.getD (P + i) 0 := fun i => by
      rw [Hq2.out, List.getD_eq_getElem?_getD, List.getElem?_drop, ← List.getD_eq_getElem?_getD, HP.out]; congr 1; omega
    have hqd : q.drop (lits + 2) = l.drop (P + 2) := by rw [Hq2.out, List.drop_drop, HP.out, Nat.add_assoc]
    obtain ⟨b', ob', e', cb0⟩ := sl_cell (Sw.out wr HM.out.bel) (k := P) (by omega)
    obtain ⟨rfl, rfl⟩ : b' = b ∧ ob' = ob := by simpa using e'.symm
    obtain ⟨b2, ob2, e', cb1⟩ := sl_cell (Sw.out wr HM.out.bel) (k := P + 1) hPl
    obtain ⟨rfl, rfl⟩ : b2 = b' ∧ ob2 = ob' := by simpa using e'.symm
    have hx0 := getB_lt Hl.out P
    have hx1 := getB_lt Hl.out (P + 1)
    have hg0 := hqg 0
    have hg1 := hqg 1
    rw [Nat.add_zero, Nat.add_zero] at hg0
    generalize l.getD P 0 = x0 at *
    generalize l.getD (P + 1) 0 = x1 at *
    have o8 := or8 hx0 hx1
    have and_ := and15 ht
    have Hg0 := Lib.hid hg0
    have Hg1 := Lib.hid hg1
    have Hqd := Lib.hid hqd
    obtain ⟨back, hback⟩ : ∃ back : Nat, back = x0 + x1 * 256 := ⟨_, rfl⟩
    have hbi : (x0 : Int) + (x1 : Int) * 256 = (back : Int) := by omega
    have hbb : back ≤ 65535 := by omega
    have Hback := Lib.hid hback
    have hql3 : lits + 2 ≤ q.length := by omega
    have Hql3 := Lib.hid hql3
    rw [hbi] at o8
    clear hqg hqd hg0 hg1 hback hone hql2 hql3 hlast e' hPl hbi
    go_wp2_with fail
    refine C.out.mono ?_
    rintro e w1 ⟨rfl, rfl⟩
    clear C ct
    go_wp2_with fail
    go_quiet (fail)
    have hbq : Below w1.heap.size w1 (w1.drewN nq) := drewN_below nq
    have HM2 := Lib.hid (HM.out.below hbq)
    clear hbq cb0 cb1 HM
    generalize w1.drewN nq = w2 at *
    clear o8
    cases had2 : Lz.added (l.drop (P + 2)) (t % 16) with
    | none =>
      have C2 := Lib.hid (radded_none (A := some ⟨b2, ob2, none⟩) (cap := cap) Hl.out Hlen.out (P + 2) (t % 16) ((P : Int) + 2) ((t % 16 : Nat) : Int) (by omega) rfl (by rw [← HN.out]; omega) (by omega) N HN.out (Sw.out w2 HM2.out.bel) had2)
      have hr : R = ([], 2) := by rw [← HU.out, Lz.unp_more_none Had.out Hql3.out (by rw [Hqd.out]; exact had2)]
      have HR := Lib.hid hr
      clear HU hr had2
      go_wp2_with fail
      refine C2.out.mono ?_
      rintro e w3 ⟨⟨u, rfl⟩, rfl⟩
      go_wp2_with fail
      go_returns
      exact unpR_no HR.out HM2.out.bel
    | some pr2 =>
    obtain ⟨many, q2⟩ := pr2
    obtain ⟨hq3, hq4⟩ := added_pos (by rw [← HN.out]; omega) had2
    obtain ⟨P2, hP2e⟩ : ∃ P2, P2 = l.length - q2.length := ⟨_, rfl⟩
    have C2 := Lib.hid (radded_some (A := some ⟨b2, ob2, none⟩) (cap := cap) Hl.out Hlen.out (P + 2) (t % 16) ((P : Int) + 2) ((t % 16 : Nat) : Int) (by omega) rfl (by rw [← HN.out]; omega) (by omega) N HN.out (Sw.out w2 HM2.out.bel) had2 hP2e)
    have hP2N : P2 ≤ N := by rw [HN.out]; omega
    have hP2P : P + 2 ≤ P2 := by rw [hP2e]; have := HN.out; omega
    have hmb : many ≤ 15 + 255 * N := by
      have := Lz.added_bound (fun x hx => Hl.out x (List.mem_of_mem_drop hx)) had2
      rw [List.length_drop, ← HN.out] at this
      omega
    rw [← hP2e] at hq4
    have hu2 : R = if n - m < lits then ([], 3) else if back = 0 ∨ m + lits < back then ([], 4) else if n - (m + lits) < many + 4 then ([], 3) else Lz.unp n f (l.drop P2) (Lz.copyB (o ++ q.take lits) back (many + 4)) := by
      rw [← HU.out, Lz.unp_more Had.out Hql3.out (by rw [Hqd.out]; exact had2), Hg0.out, Hg1.out, ← Hback.out, Hlo.out, ← hq4]
    have Hu2 := Lib.hid hu2
    clear hu2 hq3 hq4 hP2e had2 HU
    by_cases hlong : n - m < lits
    · have hr : R = ([], 3) := by rw [Hu2.out, if_pos hlong]
      have HR := Lib.hid hr
      have p5 : decide ((n : Int) - (m : Int) < (lits : Int)) = true := by rw [decide_eq_true_eq]; omega
      clear hr Hu2
      go_wp2_with fail
      refine C2.out.mono ?_
      rintro e w3 ⟨rfl, rfl⟩
      go_wp2_with fail
      go_returns
      exact unpR_no HR.out HM2.out.bel
    have p5 : decide ((n : Int) - (m : Int) < (lits : Int)) = false := by rw [decide_eq_false_iff_not]; omega
    obtain ⟨K, hK⟩ : ∃ K : Nat, K = m + lits := ⟨_, rfl⟩
    have HK := Lib.hid hK
    have hKn : K ≤ n := by omega
    by_cases hform : back = 0 ∨ m + lits < back
    · have hr : R = ([], 4) := by rw [Hu2.out, if_neg hlong, if_pos hform]
      have HR := Lib.hid hr
      rw [← hK] at hform
      clear hr Hu2 hK
      rcases hform with h0 | h1
      · have p6 : ((back : Int) == 0) = true := by rw [beq_iff_eq]; omega
        have p6' : (back == 0) = true := by rw [beq_iff_eq]; omega
        clear h0 hlong
        go_wp2_with fail
        refine C2.out.mono ?_
        rintro e w3 ⟨rfl, rfl⟩
        go_wp2_with (at_builtin; refine wpList_append_sl (base := w.heap.size) _ rfl (.tmp 93) (.tmp 99) _ rfl Try.underlying22 hi0 hz0 hs0 hb0 rfl rfl HM2.out.own rfl Lq.out.symm Hcutn.out (Sl1.out _ HM2.out.bel) (byts_one _) (by rw [Lq.out]; omega) (by rw [Lq.out]; unfold maxLen; omega) (by rw [Lq.out]; omega) HM2.out.bel.size ?_; intro v4 w4 h1 h2 _; obtain ⟨A4, c4, rfl, m4⟩ := HM2.out.app Lq'.out HK.out.symm h1 h2; have M4 := Lib.hid m4; clear h1 h2 m4)
        go_returns
        exact unpR_no HR.out M4.out.bel
      · have p6 : ((back : Int) == 0) = false := by rw [beq_eq_false_iff_ne]; omega
        have p6' : (back == 0) = false := by rw [beq_eq_false_iff_ne]; omega
        have p7 : decide ((K : Int) < (back : Int)) = true := by rw [decide_eq_true_eq]; omega
        have p7' : decide (K < back) = true := by rw [decide_eq_true_eq]; omega
        clear h1 hlong
        go_wp2_with fail
        refine C2.out.mono ?_
        rintro e w3 ⟨rfl, rfl⟩
        go_wp2_with (at_builtin; refine wpList_append_sl (base := w.heap.size) _ rfl (.tmp 93) (.tmp 99) _ rfl Try.underlying22 hi0 hz0 hs0 hb0 rfl rfl HM2.out.own rfl Lq.out.symm Hcutn.out (Sl1.out _ HM2.out.bel) (byts_one _) (by rw [Lq.out]; omega) (by rw [Lq.out]; unfold maxLen; omega) (by rw [Lq.out]; omega) HM2.out.bel.size ?_; intro v4 w4 h1 h2 _; obtain ⟨A4, c4, rfl, m4⟩ := HM2.out.app Lq'.out HK.out.symm h1 h2; have M4 := Lib.hid m4; clear h1 h2 m4)
        go_returns
        exact unpR_no HR.out M4.out.bel
    have hback0 : 0 < back := by omega
    have hbackK : back ≤ K := by omega
    have p6 : ((back : Int) == 0) = false := by rw [beq_eq_false_iff_ne]; omega
    have p6' : (back == 0) = false := by rw [beq_eq_false_iff_ne]; omega
    have p7 : decide ((K : Int) < (back : Int)) = false := by rw [decide_eq_false_iff_not]; omega
    have p7' : decide (K < back) = false := by rw [decide_eq_false_iff_not]; omega
    by_cases hlong2 : n - (m + lits) < many + 4
    · have hr : R = ([], 3) := by rw [Hu2.out, if_neg hlong, if_neg hform, if_pos hlong2]
      have HR := Lib.hid hr
      have p8 : decide ((n : Int) - (K : Int) < (many : Int) + 4) = true := by rw [decide_eq_true_eq]; omega
      clear hr Hu2 hK hform hlong hlong2
      go_wp2_with fail
      refine C2.out.mono ?_
      rintro e w3 ⟨rfl, rfl⟩
      go_wp2_with (at_builtin; refine wpList_append_sl (base := w.heap.size) _ rfl (.tmp 93) (.tmp 99) _ rfl Try.underlying22 hi0 hz0 hs0 hb0 rfl rfl HM2.out.own rfl Lq.out.symm Hcutn.out (Sl1.out _ HM2.out.bel) (byts_one _) (by rw [Lq.out]; omega) (by rw [Lq.out]; unfold maxLen; omega) (by rw [Lq.out]; omega) HM2.out.bel.size ?_; intro v4 w4 h1 h2 _; obtain ⟨A4, c4, rfl, m4⟩ := HM2.out.app Lq'.out HK.out.symm h1 h2; have M4 := Lib.hid m4; clear h1 h2 m4)
      go_returns
      exact unpR_no HR.out M4.out.bel
    have p8 : decide ((n : Int) - (K : Int) < (many : Int) + 4) = false := by rw [decide_eq_false_iff_not]; omega
    have hu3 : Lz.unp n f (l.drop P2) (Lz.copyB (o ++ q.take lits) back (many + 4)) = R := by rw [Hu2.out, if_neg hlong, if_neg hform, if_neg hlong2]
    have Hu3 := Lib.hid hu3
    have hKm : K + (many + 4) ≤ n := by omega
    clear hu3 Hu2 hK hform hlong hlong2
    go_wp2_with fail
    refine C2.out.mono ?_
    rintro e w3 ⟨rfl, rfl⟩
    go_wp2_with (at_builtin; refine wpList_append_sl (base := w.heap.size) _ rfl (.tmp 93) (.tmp 99) _ rfl Try.underlying22 hi0 hz0 hs0 hb0 rfl rfl HM2.out.own rfl Lq.out.symm Hcutn.out (Sl1.out _ HM2.out.bel) (byts_one _) (by rw [Lq.out]; omega) (by rw [Lq.out]; unfold maxLen; omega) (by rw [Lq.out]; omega) HM2.out.bel.size ?_; intro v4 w4 h1 h2 _; obtain ⟨A4, c4, rfl, m4⟩ := HM2.out.app Lq'.out HK.out.symm h1 h2; have M4 := Lib.hid m4; clear h1 h2 m4)
    clear Sl1 Lq Lq' Hcutn Had Hql Hq2 HM2 C2 Hqd Hg0 Hg1 Hql3 hcut HP
    go_loopw [6, 14] (fun v i wr => ∃ (k : Nat) (A' : Option Addr) (c' : Nat), k ≤ many + 4 ∧ i = .int .i64 k ∧ v = .slice A' (K + k) c' ∧ Mine w wr A' (K + k) c' (Lz.copyB (o ++ q.take lits) back k)) (fun _ i _ => many + 4 - (intOf i).toNat)
    case atStart => exact ⟨0, A4, c4, Nat.zero_le _, rfl, rfl, M4.out⟩
    case round =>
      obtain ⟨k, A5, c5, hk, rfl, rfl, hm5⟩ := hrel
      have M5 := Lib.hid hm5
      by_cases hkm : k < many + 4
      · have q9 : decide ((k : Int) < (many : Int) + 4) = true := by rw [decide_eq_true_eq]; omega
        have hlen5 := hm5.len
        obtain ⟨ix, hix⟩ : ∃ ix : Nat, ix = K + k - back := ⟨_, rfl⟩
        have hixi : (K : Int) + (k : Int) - (back : Int) = (ix : Int) := by omega
        have hixb : ix < K + k := by omega
        obtain ⟨b5, o5, rfl, c5x⟩ := sl_cell hm5.sl (k := ix) (by omega)
        have hn5 := Lib.hid (Lz.copyB_next back k (o ++ q.take lits))
        rw [hlen5, ← hix] at hn5
        have hx5 := getB_lt (Lz.copyB_lt (back := back) (k := k) Bq.out) ix
        obtain ⟨X, hX⟩ : ∃ X, X = Lz.copyB (o ++ q.take lits) back k := ⟨_, rfl⟩
        rw [← hX] at hn5 M5 c5x hx5
        have HX := Lib.hid hX
        clear hX hm5 hlen5
        generalize hy : X.getD ix 0 = y at *
        have Mz := Lib.hid (M5.out.below (w' := wr.alloc (.cells #[.int .u8 (y : Int)] 5)) ((Below.refl _ _).alloc (Nat.le_refl _) _))
        have Sz := Lib.hid (sl_cells (w := wr) (cs := #[.int .u8 (y : Int)]) (l := [y]) rfl)
        have Hix := Lib.hid hix
        clear hy M5 hix
        go_wp2_with (at_builtin; refine wpList_append_sl (base := w.heap.size) _ rfl (.tmp 123) (.tmp 131) _ rfl Try.underlying22 hi0 hz0 hs0 hb0 rfl rfl Mz.out.own rfl (byts_length [y]).symm (by simp) Sz.out (byts_one _) (by rw [byts_length]; exact Nat.le_refl _) (by rw [byts_length]; unfold maxLen; simp; omega) (by rw [byts_length]; simp; omega) Mz.out.bel.size ?_; intro v6 w6 h1 h2 _; obtain ⟨A6, c6, rfl, m6⟩ := Mz.out.app (r := [y]) rfl (show K + k + 1 = K + (k + 1) from rfl) h1 h2; have M6 := Lib.hid m6; clear h1 h2 m6)
        go_roundw
        case rel => exact ⟨k + 1, A6, c6, by omega, by go_num, rfl, by rw [hn5.out]; exact M6.out⟩
        case measure => simp [intOf]; omega
      · have hkm4 : k = many + 4 := by omega
        have q9 : decide ((k : Int) < (many : Int) + 4) = false := by rw [decide_eq_false_iff_not]; omega
        have Hkm := Lib.hid hkm4
        clear hm5 hkm4
        go_wp2_with fail
        go_roundw
        case rel =>
          refine ⟨P2, A5, K + k, c5, rfl, rfl, f, Lz.copyB (o ++ q.take lits) back k, hP2N, M5.out, fun x hx => Lz.copyB_lt Bq.out x hx, by have := Hkm.out; omega, by omega, by rw [Hkm.out]; exact Hu3.out⟩
        case measure => simp [intOf]; omega
end Go.Proofs.Ytpfhkbagapodoaa
