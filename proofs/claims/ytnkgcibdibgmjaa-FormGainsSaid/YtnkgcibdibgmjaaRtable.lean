/- The document's table of lengths. -/
import Derived.Test.YtnkgcibdibgmjaaRwords
import Derived.Test.YtnkgcibdibgmjaaBy
import Derived.Deep.QuietTactic
import Derived.Deep.LoopGhost
namespace Go.Proofs.Ytnkgcibdibgmjaa
open Go.RowKit

theorem and15w {t : Nat} (ht : t < 256) : bits BinOp.and IntKind.u8 (t : Int) 15 = ((t % 16 : Nat) : Int) := by
  have h' : ∀ z : Nat, z < 256 → bits BinOp.and IntKind.u8 (z : Int) 15 = ((z % 16 : Nat) : Int) := by decide +kernel
  exact h' t ht
/-- Lengths that are there so far, and noughts. -/
def pad (acc : List Int) : List Int := acc ++ List.replicate (256 - acc.length) 0
theorem pad_len {acc : List Int} (h : acc.length ≤ 256) : (pad acc).length = 256 := by unfold pad; rw [List.length_append, List.length_replicate]; omega
theorem pad_nil : pad [] = List.replicate 256 0 := rfl
theorem pad_full {acc : List Int} (h : acc.length = 256) : pad acc = acc := by unfold pad; rw [h]; simp
theorem pad_set {acc : List Int} (h : acc.length < 256) (v : Int) : (pad acc).set acc.length v = pad (acc ++ [v]) := by
  unfold pad
  rw [List.set_append_right _ _ (Nat.le_refl _), Nat.sub_self, List.length_append, List.length_singleton]
  obtain ⟨m, hm⟩ : ∃ m, 256 - acc.length = m + 1 := ⟨255 - acc.length, by omega⟩
  rw [hm, List.replicate_succ, List.set_cons_zero, List.append_assoc, List.singleton_append, show 256 - (acc.length + 1) = m by omega]
theorem kraft_ok {l : List Int} (h : ∀ x ∈ l, 0 ≤ x ∧ x ≤ 11) : kraftV l = (ksum l, true) := by
  unfold kraftV
  rw [if_neg]
  intro hb
  rw [List.any_eq_true] at hb
  obtain ⟨x, hx, hk⟩ := hb
  have := h x hx
  unfold kbad at hk
  simp at hk
  omega
theorem usedN_le (l : List Int) : ∀ k, Wd.usedN l k ≤ k
  | 0 => Nat.le_refl _
  | k + 1 => by
    have := usedN_le l k
    unfold Wd.usedN
    split <;> omega
/-- How ReadTable ends. -/
def ReadR (b : List Nat) (w : World) (e : Ending) (w' : World) : Prop :=
  ∃ (L : List Int) (a : Nat), e = .returned (.tuple #[.agg (ints L), .int .i64 (a : Int), .int .i64 (((Wd.table b).1 : Nat) : Int)]) ∧ L.length = 256 ∧
    ((Wd.table b).1 = 0 → L = (Wd.table b).2.1 ∧ a ≤ b.length ∧ (Wd.table b).2.2 = b.drop a ∧ ∀ x ∈ L, 0 ≤ x ∧ x ≤ 11) ∧ Below w.heap.size w w'

set_option maxRecDepth 8000 in
set_option maxHeartbeats 8000000 in
theorem rtable_any (A : Option Addr) (cap : Nat) (b : List Nat) (hbl : ∀ x ∈ b, x < 256) (hlen : b.length ≤ 100000) (n : Nat) (hn : n = b.length) {w : World} (hsl : Sl w w.heap.size A (byts b)) :
    Calls Try.prog 36 #[.slice A n cap] w (ReadR b w) := by
  obtain ⟨t, N, ht, hN, hagg, hix, hund, hsz, hz0⟩ := t256
  obtain ⟨Z, hZ⟩ : ∃ Z, Z = ints (List.replicate 256 0) := ⟨_, rfl⟩
  rw [← hZ] at hz0
  have hZs : Z.size = 256 := by rw [hZ, ints_size, List.length_replicate]
  obtain ⟨R, hR⟩ : ∃ R, R = Wd.rdT b [] := ⟨_, rfl⟩
  have HR := Lib.hid (show Wd.rdT (b.drop 0) [] = R from hR.symm)
  have HT := Lib.hid (show Wd.table b = if R.1 = 0 then if Wd.badT R.2.1 then (4, [], []) else R else (R.1, [], []) by rw [hR]; rfl)
  have HZ := Lib.hid hZ
  have HN := Lib.hid hN
  have Hn := Lib.hid hn
  have Hix := Lib.hid hix
  have Ht := Lib.hid ht
  have Hbl := Lib.hid hbl
  have hnb : n ≤ 100000 := by omega
  have Sw := Lib.hid (fun wr (h : Below w.heap.size w wr) => hsl.below h)
  have E1 : Op.alloc 50 = Op.alloc t := by rw [ht]
  have E2 : ∀ a b, Op.store 50 a b = Op.store t a b := by rw [ht]; exact fun _ _ => rfl
  have E3 : ∀ a b, Op.indexAddr 50 a b = Op.indexAddr t a b := by rw [ht]; exact fun _ _ => rfl
  have E4 : ∀ a, Op.load 50 a = Op.load t a := by rw [ht]; exact fun _ => rfl
  obtain ⟨W1, hW1⟩ : ∃ x, x = w.alloc (.cells Z t) := ⟨_, rfl⟩
  obtain ⟨W2, hW2⟩ : ∃ x, x = W1.alloc (.cells Z t) := ⟨_, rfl⟩
  obtain ⟨g1, hg1⟩ : ∃ g, w.heap.size = g := ⟨_, rfl⟩
  obtain ⟨G, hG⟩ : ∃ g, W1.heap.size = g := ⟨_, rfl⟩
  have h12 : G = g1 + 1 := by rw [← hG, hW1, ← hg1]; simp
  have B1 := Lib.hid (show Blk W2 g1 t Z by
    have := (Blk.new w t Z).alloc (.cells Z t)
    rw [hW2, hW1, ← hg1]; exact this)
  have B2 := Lib.hid (show Blk W2 G t (ints (pad [])) by
    rw [pad_nil, ← HZ.out, hW2, ← hG]; exact Blk.new _ _ _)
  have HB := Lib.hid (show Below w.heap.size w W2 by
    rw [hW2, hW1]; exact ((Below.refl _ _).alloc (Nat.le_refl _) _).alloc (by simp) _)
  have e1 : w.alloc (.cells Z t) = W1 := hW1.symm
  have e2 : W1.alloc (.cells Z t) = W2 := hW2.symm
  have hd12 : g1 ≠ G := by omega
  have hgw : w.heap.size ≤ g1 := by omega
  have hgw2 : w.heap.size ≤ G := by omega
  clear ht hZ hix hN hW1 hW2 h12 hbl hsl hR hn
  go_enter Try.func36, Try.ntmps36
  simp only [E1, E2, E3, E4]
  clear E1 E2 E3 E4
  go_wp2_with fail
  go_loopg [6, 7] n (fun d a k wr => ∃ (j : Nat) (acc : List Int), d = n - j ∧ j ≤ n ∧ a = .int .i64 j ∧ k = .int .i64 ((acc.length : Nat) : Int) ∧ acc.length ≤ 256 ∧ (∀ x ∈ acc, 0 ≤ x ∧ x ≤ 11) ∧ Wd.rdT (b.drop j) acc = R ∧ Blk wr g1 t Z ∧ Blk wr G t (ints (pad acc)) ∧ Below w.heap.size w wr)
  case atStart => exact ⟨0, [], rfl, Nat.zero_le _, rfl, rfl, by simp, by simp, HR.out, B1.out, B2.out, HB.out⟩
  case round =>
    obtain ⟨j, acc, rfl, hj, rfl, rfl, hac, hrng, hrd, b1, b2, hb⟩ := hrel
    clear B1 B2 HB e1 e2 hg1 hG HR
    have Hrng := Lib.hid hrng
    clear hrng
    by_cases h256 : acc.length < 256
    · have p0 : decide (((acc.length : Nat) : Int) < 256) = true := by rw [decide_eq_true_eq]; omega
      have p0' : decide (acc.length < 256) = true := by rw [decide_eq_true_eq]; omega
      by_cases hjn : n ≤ j
      · have p1 : decide ((n : Int) ≤ (j : Int)) = true := by rw [decide_eq_true_eq]; omega
        have p1' : decide (n ≤ j) = true := by rw [decide_eq_true_eq]; omega
        have hrd' : (2, [], []) = R := by
          rw [← hrd, List.drop_eq_nil_of_le (by rw [← Hn.out]; exact hjn), Wd.rdT, if_neg (by omega)]
        clear hrd
        have hL : (pad acc).length = 256 := pad_len hac
        have l1 := load_blk (N := N) (by rw [ints_size, HN.out]; exact hL) b2
        obtain ⟨s1, hb2⟩ := store_blk (ds := ints (pad acc)) (by rw [HZ.out, ints_size, ints_size, List.length_replicate]; exact hL) b1 (fun u hu => by
          have := ints_one (pad acc)
          rw [Array.all_eq_true_iff_forall_mem] at this
          exact this u (by simpa using hu))
        have l2 := load_blk (N := N) (by rw [ints_size, HN.out]; exact hL) hb2
        have hbl2 := hb.trans (below_cells (w := wr) (ints (pad acc)).toList g1 0 hgw)
        obtain ⟨T, hT⟩ : ∃ T, T = ints (pad acc) := ⟨_, rfl⟩
        have hTs : T.size = N := by rw [hT, ints_size, HN.out]; exact hL
        rw [← hT] at l1 s1 l2 hbl2
        obtain ⟨W3, hW3⟩ : ∃ W3, W3 = wr.setCells g1 0 T.toList := ⟨_, rfl⟩
        rw [← hW3] at s1 l2 hbl2
        have hTb : (Wd.table b).1 = 2 := by rw [HT.out, ← hrd']; rfl
        have Fin := Lib.hid (show ReadR b w (.returned (.tuple #[.agg T, .int .i64 0, .int .i64 2])) W3 from ⟨pad acc, 0, by rw [hTb, ← hT]; rfl, hL, (fun h => by rw [hTb] at h; cases h), hbl2⟩)
        clear b1 b2 hb hb2 hbl2 hT hW3 hL
        go_wp2_with fail
        refine bodyPost_ret (v := .tuple #[.agg T, .int .i64 0, .int .i64 2]) ?_ rfl Fin.out
        simp [results, Try.results36]
        rw [← Ht.out]
        go_simp
      have p1 : decide ((n : Int) ≤ (j : Int)) = false := by rw [decide_eq_false_iff_not]; omega
      have p1' : decide (n ≤ j) = false := by rw [decide_eq_false_iff_not]; omega
      have hjl : j < b.length := by rw [← Hn.out]; omega
      obtain ⟨bb, ob, eA, cx⟩ := sl_cell (Sw.out wr hb) hjl
      subst eA
      have hx := getB_lt Hbl.out j
      have hd : b.drop j = b.getD j 0 :: b.drop (j + 1) := by
        rw [List.drop_eq_getElem_cons hjl, List.getD_eq_getElem?_getD, List.getElem?_eq_getElem hjl]; rfl
      rw [hd, Wd.rdT, if_neg (by omega)] at hrd
      generalize b.getD j 0 = x at *
      have a15 := and15w hx
      have HS := Lib.hid b1
      have HG2 := Lib.hid b2
      have HBw := Lib.hid hb
      have Hrd := Lib.hid hrd
      clear hd hrd
      have xw : IntKind.i64.wrap ((x : Int) / 16) = (x : Int) / 16 := by rw [IntKind.wrap_i64]; omega
      have xw2 : IntKind.i64.wrap ((x % 16 : Nat) : Int) = ((x % 16 : Nat) : Int) := by rw [IntKind.wrap_i64]; omega
      obtain ⟨M, hM⟩ : ∃ M : Nat, M = x % 16 + 1 := ⟨_, rfl⟩
      have xw3 : IntKind.i64.wrap (((x % 16 : Nat) : Int) + 1) = (M : Int) := by rw [IntKind.wrap_i64]; omega
      have hM1 : M ≤ 16 := by omega
      have HM := Lib.hid hM
      obtain ⟨q, hq⟩ : ∃ q : Nat, q = x / 16 := ⟨_, rfl⟩
      obtain ⟨r, hr⟩ : ∃ r : Nat, r = x % 16 := ⟨_, rfl⟩
      have hqI : (x : Int) / 16 = (q : Int) := by omega
      rw [hqI] at xw
      rw [← hr] at xw2 xw3 a15
      have hq16 : q < 16 := by omega
      have hr16 : r < 16 := by omega
      have Hq := Lib.hid hq
      have Hr := Lib.hid hr
      clear hq hr hM
      go_wp2_with fail
      go_quiet (fail)
      have c1 : Blk (wr.drewN nq) g1 t Z := HS.out
      have c2 : Blk (wr.drewN nq) G t (ints (pad acc)) := HG2.out
      have cb : Below w.heap.size w (wr.drewN nq) := HBw.out.trans ((drewN_below nq).mono HBw.out.size)
      clear HS HG2 HBw b1 b2 hb cx xw xw2 xw3 a15
      generalize wr.drewN nq = wv at *
      by_cases h11 : 11 < q
      · have p2 : decide (11 < (q : Int)) = true := by rw [decide_eq_true_eq]; omega
        have p2' : decide (11 < q) = true := by rw [decide_eq_true_eq]; omega
        have hbad : 11 < x / 16 ∨ 256 < acc.length + (x % 16 + 1) := .inl (by rw [← Hq.out]; exact h11)
        have hL : (pad acc).length = 256 := pad_len hac
        have l1 := load_blk (N := N) (by rw [ints_size, HN.out]; exact hL) c2
        obtain ⟨s1, hb2⟩ := store_blk (ds := ints (pad acc)) (by rw [HZ.out, ints_size, ints_size, List.length_replicate]; exact hL) c1 (fun u hu => by
          have := ints_one (pad acc)
          rw [Array.all_eq_true_iff_forall_mem] at this
          exact this u (by simpa using hu))
        have l2 := load_blk (N := N) (by rw [ints_size, HN.out]; exact hL) hb2
        have hbl2 := cb.trans (below_cells (w := wv) (ints (pad acc)).toList g1 0 hgw)
        obtain ⟨T, hT⟩ : ∃ T, T = ints (pad acc) := ⟨_, rfl⟩
        have hTs : T.size = N := by rw [hT, ints_size, HN.out]; exact hL
        rw [← hT] at l1 s1 l2 hbl2
        obtain ⟨W3, hW3⟩ : ∃ W3, W3 = wv.setCells g1 0 T.toList := ⟨_, rfl⟩
        rw [← hW3] at s1 l2 hbl2
        have hTb : (Wd.table b).1 = 4 := by
          have h := Hrd.out
          rw [if_pos hbad] at h
          rw [HT.out, ← h]; rfl
        have Fin := Lib.hid (show ReadR b w (.returned (.tuple #[.agg T, .int .i64 0, .int .i64 4])) W3 from ⟨pad acc, 0, by rw [hTb, ← hT]; rfl, hL, (fun h => by rw [hTb] at h; cases h), hbl2⟩)
        clear c1 c2 cb hb2 hbl2 hT hW3 hL
        go_wp2_with fail
        refine bodyPost_ret (v := .tuple #[.agg T, .int .i64 0, .int .i64 4]) ?_ rfl Fin.out
        simp [results, Try.results36]
        rw [← Ht.out]
        go_simp
      have p2 : decide (11 < (q : Int)) = false := by rw [decide_eq_false_iff_not]; omega
      have p2' : decide (11 < q) = false := by rw [decide_eq_false_iff_not]; omega
      by_cases hov : 256 < acc.length + M
      · have p3 : decide (256 < ((acc.length : Nat) : Int) + (M : Int)) = true := by rw [decide_eq_true_eq]; omega
        have p3' : decide (256 < acc.length + M) = true := by rw [decide_eq_true_eq]; omega
        have hbad : 11 < x / 16 ∨ 256 < acc.length + (x % 16 + 1) := .inr (by rw [← HM.out]; exact hov)
        have hL : (pad acc).length = 256 := pad_len hac
        have l1 := load_blk (N := N) (by rw [ints_size, HN.out]; exact hL) c2
        obtain ⟨s1, hb2⟩ := store_blk (ds := ints (pad acc)) (by rw [HZ.out, ints_size, ints_size, List.length_replicate]; exact hL) c1 (fun u hu => by
          have := ints_one (pad acc)
          rw [Array.all_eq_true_iff_forall_mem] at this
          exact this u (by simpa using hu))
        have l2 := load_blk (N := N) (by rw [ints_size, HN.out]; exact hL) hb2
        have hbl2 := cb.trans (below_cells (w := wv) (ints (pad acc)).toList g1 0 hgw)
        obtain ⟨T, hT⟩ : ∃ T, T = ints (pad acc) := ⟨_, rfl⟩
        have hTs : T.size = N := by rw [hT, ints_size, HN.out]; exact hL
        rw [← hT] at l1 s1 l2 hbl2
        obtain ⟨W3, hW3⟩ : ∃ W3, W3 = wv.setCells g1 0 T.toList := ⟨_, rfl⟩
        rw [← hW3] at s1 l2 hbl2
        have hTb : (Wd.table b).1 = 4 := by
          have h := Hrd.out
          rw [if_pos hbad] at h
          rw [HT.out, ← h]; rfl
        have Fin := Lib.hid (show ReadR b w (.returned (.tuple #[.agg T, .int .i64 0, .int .i64 4])) W3 from ⟨pad acc, 0, by rw [hTb, ← hT]; rfl, hL, (fun h => by rw [hTb] at h; cases h), hbl2⟩)
        clear c1 c2 cb hb2 hbl2 hT hW3 hL
        go_wp2_with fail
        refine bodyPost_ret (v := .tuple #[.agg T, .int .i64 0, .int .i64 4]) ?_ rfl Fin.out
        simp [results, Try.results36]
        rw [← Ht.out]
        go_simp
      have p3 : decide (256 < ((acc.length : Nat) : Int) + (M : Int)) = false := by rw [decide_eq_false_iff_not]; omega
      have p3' : decide (256 < acc.length + M) = false := by rw [decide_eq_false_iff_not]; omega
      have hgood := Hrd.out
      rw [if_neg (by rw [← Hq.out, ← HM.out]; omega), ← HM.out, ← Hq.out] at hgood
      have Hgd := Lib.hid hgood
      have C1 := Lib.hid c1
      have C2 := Lib.hid c2
      have CB := Lib.hid cb
      obtain ⟨lk, hlk⟩ : ∃ lk, lk = acc.length := ⟨_, rfl⟩
      have Hlk := Lib.hid hlk
      rw [← hlk] at p0 p0' p3 p3' hov h256 hac ⊢
      clear hgood c1 c2 cb Hrd hlk
      go_wp2_with fail
      go_loopw [10] (fun i wr => ∃ m : Nat, m ≤ M ∧ i = .int .i64 m ∧ Blk wr g1 t Z ∧ Blk wr G t (ints (pad (acc ++ List.replicate m ((q : Nat) : Int)))) ∧ Below w.heap.size w wr) (fun i _ => M - (intOf i).toNat)
      case atStart => exact ⟨0, Nat.zero_le _, rfl, C1.out, by rw [List.replicate_zero, List.append_nil]; exact C2.out, CB.out⟩
      case round =>
        obtain ⟨m, hm, rfl, d1, d2, db⟩ := hrel
        clear C1 C2 CB
        by_cases hmM : m < M
        · have p4 : decide ((m : Int) < (M : Int)) = true := by rw [decide_eq_true_eq]; omega
          have p4' : decide (m < M) = true := by rw [decide_eq_true_eq]; omega
          obtain ⟨k, hk⟩ : ∃ k : Nat, (lk : Int) + (m : Int) = (k : Int) := ⟨lk + m, by omega⟩
          have hk6 : k < 256 := by omega
          have hal : (acc ++ List.replicate m ((q : Nat) : Int)).length = k := by rw [List.length_append, List.length_replicate, ← Hlk.out]; omega
          have ixk := Hix.out .i64 k hk6 G
          have ck : wr.cell? ⟨G, k, none⟩ = some (.int .i64 ((pad (acc ++ List.replicate m ((q : Nat) : Int))).getD k 0)) := by rw [d2.cell, ints_at (by rw [pad_len (by omega)]; exact hk6)]
          have fk := d2.frozen k
          have st := d2.set_ k (.int .i64 (q : Int))
          have hps := pad_set (acc := acc ++ List.replicate m ((q : Nat) : Int)) (by omega) (q : Int)
          rw [hal] at hps
          rw [ints_set, hps, List.append_assoc, ← List.replicate_succ'] at st
          have St := Lib.hid st
          have D1 := Lib.hid (d1.far (p := ⟨G, k, none⟩) (Ne.symm hd12) (.int .i64 (q : Int)))
          have Db := Lib.hid (db.setCell (p := ⟨G, k, none⟩) hgw2 (.int .i64 (q : Int)))
          clear d1 d2 db st hps hal
          generalize (pad (acc ++ List.replicate m ((q : Nat) : Int))).getD k 0 = y at *
          go_wp2_with fail
          go_roundw
          case rel => exact ⟨m + 1, by omega, by go_num, D1.out, St.out, Db.out⟩
          case measure => simp [intOf]; omega
        · have hmM' : M = m := by omega
          subst hmM'
          have p4 : decide ((M : Int) < (M : Int)) = false := by simp
          have p4' : decide (M < M) = false := by simp
          have D1 := Lib.hid d1
          have D2 := Lib.hid d2
          have Db := Lib.hid db
          clear d1 d2 db
          go_wp2_with fail
          go_roundg (n - (j + 1))
          case rel =>
            refine ⟨j + 1, acc ++ List.replicate M ((q : Nat) : Int), rfl, by omega, by go_num, ?_, ?_, fun x hx => ?_, Hgd.out, D1.out, D2.out, Db.out⟩
            · rw [List.length_append, List.length_replicate, ← Hlk.out]; go_num
            · rw [List.length_append, List.length_replicate, ← Hlk.out]; omega
            · rcases List.mem_append.1 hx with h | h
              · exact Hrng.out x h
              · rw [List.eq_of_mem_replicate h]; omega
          case measure => omega
    · have hac6 : acc.length = 256 := by omega
      have hR := hrd
      have hrd0 : Wd.rdT (b.drop j) acc = (0, acc, b.drop j) := by
        cases hbd : b.drop j with
        | nil => rw [Wd.rdT, if_pos hac6]
        | cons y r => rw [Wd.rdT, if_pos hac6]
      rw [hrd0] at hR
      have hTb : Wd.table b = if Wd.badT acc then (4, [], []) else (0, acc, b.drop j) := by rw [HT.out, ← hR]; rfl
      have HTb := Lib.hid hTb
      have p0 : decide (((acc.length : Nat) : Int) < 256) = false := by rw [decide_eq_false_iff_not]; omega
      have p0' : decide (acc.length < 256) = false := by rw [decide_eq_false_iff_not]; omega
      rw [pad_full hac6] at b2
      have K := Lib.hid (rkraft_any acc hac6 wr)
      rw [kraft_ok Hrng.out] at K
      have hks : ksum acc ≤ 524288 := by have := ksum_le acc; omega
      have ldA := load_blk (N := N) (by rw [ints_size, HN.out]; exact hac6) b2
      have C1 := Lib.hid b1
      have C2 := Lib.hid b2
      have CB := Lib.hid hb
      have Hac := Lib.hid hac6
      clear hrd hR hrd0 hTb b1 b2 hb h256 hac6 hac
      obtain ⟨XA, hXA⟩ : ∃ X, X = ints acc := ⟨_, rfl⟩
      have HXA := Lib.hid hXA
      have hAN : XA.size = N := by rw [hXA, ints_size, HN.out]; exact Hac.out
      rw [← hXA] at ldA K C2
      clear hXA
      go_wp2_with fail
      refine K.out.mono ?_
      rintro e w4 ⟨rfl, h4⟩
      have D1 := Lib.hid (C1.out.keep (h4.block _ C1.out.lt))
      have D2 := Lib.hid (C2.out.keep (h4.block _ C2.out.lt))
      have DB := Lib.hid (CB.out.trans (h4.mono CB.out.size))
      have Cx := Lib.hid (fun k (hk : k < 256) => show w4.cell? ⟨G, k, none⟩ = some (.int .i64 (acc.getD k 0)) by rw [D2.out.cell, HXA.out, ints_at (by rw [Hac.out]; exact hk)])
      clear h4 C1 C2 CB K ldA
      go_wp2_with fail
      go_loopw [13, 14, 15] (fun u o i wr => ∃ k m : Nat, k ≤ 256 ∧ i = .int .i64 k ∧ u = .int .i64 ((Wd.usedN acc k : Nat) : Int) ∧ o = .bool (Wd.oneK acc k) ∧ wr = w4.drewN m) (fun _ _ i _ => 256 - (intOf i).toNat)
      case atStart => exact ⟨0, 0, by decide, rfl, rfl, rfl, rfl⟩
      case round =>
        obtain ⟨k, m, hk, rfl, rfl, rfl, rfl⟩ := hrel
        have hul := usedN_le acc k
        by_cases hlt : k < 256
        · have p5 : decide ((k : Int) < 256) = true := by rw [decide_eq_true_eq]; omega
          have p5' : decide (k < 256) = true := by rw [decide_eq_true_eq]; omega
          have ixk := Hix.out .i64 k hlt G
          have ck := Cx.out k hlt
          have Hu := Lib.hid (show Wd.usedN acc (k + 1) = if 0 < acc.getD k 0 then Wd.usedN acc k + 1 else Wd.usedN acc k from rfl)
          have Ho := Lib.hid (show Wd.oneK acc (k + 1) = if 0 < acc.getD k 0 then acc.getD k 0 == 1 else Wd.oneK acc k from rfl)
          generalize acc.getD k 0 = y at *
          generalize Wd.usedN acc k = u at *
          generalize Wd.oneK acc k = o at *
          by_cases hy : 0 < y
          · have p6 : decide (0 < y) = true := by rw [decide_eq_true_eq]; exact hy
            have Hu2 := Lib.hid (show Wd.usedN acc (k + 1) = u + 1 by rw [Hu.out, if_pos hy])
            have Ho2 := Lib.hid (show Wd.oneK acc (k + 1) = (y == 1) by rw [Ho.out, if_pos hy])
            have wu : IntKind.i64.wrap ((u : Int) + 1) = (u : Int) + 1 := by rw [IntKind.wrap_i64]; omega
            clear hy Hu Ho
            go_wp2_with fail
            go_quiet (fail)
            go_wp2_with fail
            go_roundw
            case rel => exact ⟨k + 1, m + nq, by omega, by go_num, by rw [Hu2.out]; go_num, by rw [Ho2.out], by simp⟩
            case measure => simp [intOf]; omega
          · have p6 : decide (0 < y) = false := by rw [decide_eq_false_iff_not]; exact hy
            have Hu2 := Lib.hid (show Wd.usedN acc (k + 1) = u by rw [Hu.out, if_neg hy])
            have Ho2 := Lib.hid (show Wd.oneK acc (k + 1) = o by rw [Ho.out, if_neg hy])
            clear hy Hu Ho
            go_wp2_with fail
            go_roundw
            case rel => exact ⟨k + 1, m, by omega, by go_num, by rw [Hu2.out], by rw [Ho2.out], rfl⟩
            case measure => simp [intOf]; omega
        have hk6 : k = 256 := by omega
        subst hk6
        have p5 : decide ((256 : Int) < 256) = false := by simp
        have hbd : Below w4.heap.size w4 (w4.drewN m) := drewN_below m
        have c1 : Blk (w4.drewN m) g1 t Z := D1.out
        have c2 : Blk (w4.drewN m) G t XA := D2.out
        have cb : Below w.heap.size w (w4.drewN m) := DB.out.trans (hbd.mono DB.out.size)
        have Hbt := Lib.hid (show Wd.badT acc = (decide (2048 < ksum acc) || (decide (ksum acc < 2048) && !(Wd.usedN acc 256 == 0 || (Wd.usedN acc 256 == 1 && Wd.oneK acc 256)))) from rfl)
        clear Cx D1 D2 DB hbd hlt hk
        generalize w4.drewN m = wv at *
        rw [HXA.out] at c2
        generalize hU : Wd.usedN acc 256 = U at *
        generalize hO : Wd.oneK acc 256 = O at *
        generalize hS : ksum acc = S at *
        clear hU hO hS
        by_cases hgt : 2048 < S
        · skip
          have z1 : decide (2048 < (S : Int)) = true := by rw [decide_eq_true_eq]; omega
          have z1' : decide (2048 < S) = true := by rw [decide_eq_true_eq]; omega
          have hbt : (decide (2048 < S) || (decide (S < 2048) && !(U == 0 || (U == 1 && O)))) = true := by rw [z1']; rfl
          have hL : (acc).length = 256 := Hac.out
          have l1 := load_blk (N := N) (by rw [ints_size, HN.out]; exact hL) c2
          obtain ⟨s1, hb2⟩ := store_blk (ds := ints (acc)) (by rw [HZ.out, ints_size, ints_size, List.length_replicate]; exact hL) c1 (fun u hu => by
            have := ints_one (acc)
            rw [Array.all_eq_true_iff_forall_mem] at this
            exact this u (by simpa using hu))
          have l2 := load_blk (N := N) (by rw [ints_size, HN.out]; exact hL) hb2
          have hbl2 := cb.trans (below_cells (w := wv) (ints (acc)).toList g1 0 hgw)
          obtain ⟨T, hT⟩ : ∃ T, T = ints (acc) := ⟨_, rfl⟩
          have hTs : T.size = N := by rw [hT, ints_size, HN.out]; exact hL
          rw [← hT] at l1 s1 l2 hbl2
          obtain ⟨W3, hW3⟩ : ∃ W3, W3 = wv.setCells g1 0 T.toList := ⟨_, rfl⟩
          rw [← hW3] at s1 l2 hbl2
          have hTb : (Wd.table b).1 = 4 := by
            rw [HTb.out, Hbt.out, hbt, if_pos rfl]
          have Fin := Lib.hid (show ReadR b w (.returned (.tuple #[.agg T, .int .i64 0, .int .i64 4])) W3 from ⟨acc, 0, by rw [hTb, ← hT]; rfl, hL, (fun h => by rw [hTb] at h; cases h), hbl2⟩)
          clear c1 c2 cb hb2 hbl2 hT hW3 hL
          go_wp2_with fail
          refine bodyPost_ret (v := .tuple #[.agg T, .int .i64 0, .int .i64 4]) ?_ rfl Fin.out
          simp [results, Try.results36]
          rw [← Ht.out]
          go_simp
        by_cases hlt2 : S < 2048
        · skip
          have z1 : decide (2048 < (S : Int)) = false := by rw [decide_eq_false_iff_not]; omega
          have z1' : decide (2048 < S) = false := by rw [decide_eq_false_iff_not]; omega
          have z2 : decide ((S : Int) < 2048) = true := by rw [decide_eq_true_eq]; omega
          have z2' : decide (S < 2048) = true := by rw [decide_eq_true_eq]; omega
          by_cases hU0 : U = 0
          · skip
            have z3 : ((U : Int) == 0) = true := by rw [beq_iff_eq]; omega
            have z3' : (U == 0) = true := by rw [beq_iff_eq]; omega
            have hbt : (decide (2048 < S) || (decide (S < 2048) && !(U == 0 || (U == 1 && O)))) = false := by rw [z1', z2', z3']; rfl
            have hL : (acc).length = 256 := Hac.out
            have l1 := load_blk (N := N) (by rw [ints_size, HN.out]; exact hL) c2
            obtain ⟨s1, hb2⟩ := store_blk (ds := ints (acc)) (by rw [HZ.out, ints_size, ints_size, List.length_replicate]; exact hL) c1 (fun u hu => by
              have := ints_one (acc)
              rw [Array.all_eq_true_iff_forall_mem] at this
              exact this u (by simpa using hu))
            have l2 := load_blk (N := N) (by rw [ints_size, HN.out]; exact hL) hb2
            have hbl2 := cb.trans (below_cells (w := wv) (ints (acc)).toList g1 0 hgw)
            obtain ⟨T, hT⟩ : ∃ T, T = ints (acc) := ⟨_, rfl⟩
            have hTs : T.size = N := by rw [hT, ints_size, HN.out]; exact hL
            rw [← hT] at l1 s1 l2 hbl2
            obtain ⟨W3, hW3⟩ : ∃ W3, W3 = wv.setCells g1 0 T.toList := ⟨_, rfl⟩
            rw [← hW3] at s1 l2 hbl2
            have hTb : Wd.table b = (0, acc, b.drop j) := by
              rw [HTb.out, Hbt.out, hbt, if_neg (by decide)]
            have Fin := Lib.hid (show ReadR b w (.returned (.tuple #[.agg T, .int .i64 (j : Int), .int .i64 0])) W3 from ⟨acc, j, by rw [hTb, ← hT]; rfl, hL, (fun _ => by rw [hTb]; exact ⟨rfl, by rw [← Hn.out]; exact hj, rfl, Hrng.out⟩), hbl2⟩)
            clear c1 c2 cb hb2 hbl2 hT hW3 hL
            go_wp2_with fail
            refine bodyPost_ret (v := .tuple #[.agg T, .int .i64 (j : Int), .int .i64 0]) ?_ rfl Fin.out
            simp [results, Try.results36]
            rw [← Ht.out]
            go_simp
          by_cases hU1 : U = 1
          · skip
            have z3 : ((U : Int) == 0) = false := by rw [beq_eq_false_iff_ne]; omega
            have z3' : (U == 0) = false := by rw [beq_eq_false_iff_ne]; omega
            have z4 : ((U : Int) == 1) = true := by rw [beq_iff_eq]; omega
            have z4' : (U == 1) = true := by rw [beq_iff_eq]; omega
            cases O
            · skip
              have hbt : (decide (2048 < S) || (decide (S < 2048) && !(U == 0 || (U == 1 && false)))) = true := by rw [z1', z2', z3', z4']; rfl
              have hL : (acc).length = 256 := Hac.out
              have l1 := load_blk (N := N) (by rw [ints_size, HN.out]; exact hL) c2
              obtain ⟨s1, hb2⟩ := store_blk (ds := ints (acc)) (by rw [HZ.out, ints_size, ints_size, List.length_replicate]; exact hL) c1 (fun u hu => by
                have := ints_one (acc)
                rw [Array.all_eq_true_iff_forall_mem] at this
                exact this u (by simpa using hu))
              have l2 := load_blk (N := N) (by rw [ints_size, HN.out]; exact hL) hb2
              have hbl2 := cb.trans (below_cells (w := wv) (ints (acc)).toList g1 0 hgw)
              obtain ⟨T, hT⟩ : ∃ T, T = ints (acc) := ⟨_, rfl⟩
              have hTs : T.size = N := by rw [hT, ints_size, HN.out]; exact hL
              rw [← hT] at l1 s1 l2 hbl2
              obtain ⟨W3, hW3⟩ : ∃ W3, W3 = wv.setCells g1 0 T.toList := ⟨_, rfl⟩
              rw [← hW3] at s1 l2 hbl2
              have hTb : (Wd.table b).1 = 4 := by
                rw [HTb.out, Hbt.out, hbt, if_pos rfl]
              have Fin := Lib.hid (show ReadR b w (.returned (.tuple #[.agg T, .int .i64 0, .int .i64 4])) W3 from ⟨acc, 0, by rw [hTb, ← hT]; rfl, hL, (fun h => by rw [hTb] at h; cases h), hbl2⟩)
              clear c1 c2 cb hb2 hbl2 hT hW3 hL
              go_wp2_with fail
              refine bodyPost_ret (v := .tuple #[.agg T, .int .i64 0, .int .i64 4]) ?_ rfl Fin.out
              simp [results, Try.results36]
              rw [← Ht.out]
              go_simp
            · skip
              have hbt : (decide (2048 < S) || (decide (S < 2048) && !(U == 0 || (U == 1 && true)))) = false := by rw [z1', z2', z3', z4']; rfl
              have hL : (acc).length = 256 := Hac.out
              have l1 := load_blk (N := N) (by rw [ints_size, HN.out]; exact hL) c2
              obtain ⟨s1, hb2⟩ := store_blk (ds := ints (acc)) (by rw [HZ.out, ints_size, ints_size, List.length_replicate]; exact hL) c1 (fun u hu => by
                have := ints_one (acc)
                rw [Array.all_eq_true_iff_forall_mem] at this
                exact this u (by simpa using hu))
              have l2 := load_blk (N := N) (by rw [ints_size, HN.out]; exact hL) hb2
              have hbl2 := cb.trans (below_cells (w := wv) (ints (acc)).toList g1 0 hgw)
              obtain ⟨T, hT⟩ : ∃ T, T = ints (acc) := ⟨_, rfl⟩
              have hTs : T.size = N := by rw [hT, ints_size, HN.out]; exact hL
              rw [← hT] at l1 s1 l2 hbl2
              obtain ⟨W3, hW3⟩ : ∃ W3, W3 = wv.setCells g1 0 T.toList := ⟨_, rfl⟩
              rw [← hW3] at s1 l2 hbl2
              have hTb : Wd.table b = (0, acc, b.drop j) := by
                rw [HTb.out, Hbt.out, hbt, if_neg (by decide)]
              have Fin := Lib.hid (show ReadR b w (.returned (.tuple #[.agg T, .int .i64 (j : Int), .int .i64 0])) W3 from ⟨acc, j, by rw [hTb, ← hT]; rfl, hL, (fun _ => by rw [hTb]; exact ⟨rfl, by rw [← Hn.out]; exact hj, rfl, Hrng.out⟩), hbl2⟩)
              clear c1 c2 cb hb2 hbl2 hT hW3 hL
              go_wp2_with fail
              refine bodyPost_ret (v := .tuple #[.agg T, .int .i64 (j : Int), .int .i64 0]) ?_ rfl Fin.out
              simp [results, Try.results36]
              rw [← Ht.out]
              go_simp
          · skip
            have z3 : ((U : Int) == 0) = false := by rw [beq_eq_false_iff_ne]; omega
            have z3' : (U == 0) = false := by rw [beq_eq_false_iff_ne]; omega
            have z4 : ((U : Int) == 1) = false := by rw [beq_eq_false_iff_ne]; omega
            have z4' : (U == 1) = false := by rw [beq_eq_false_iff_ne]; omega
            have hbt : (decide (2048 < S) || (decide (S < 2048) && !(U == 0 || (U == 1 && O)))) = true := by rw [z1', z2', z3', z4']; rfl
            have hL : (acc).length = 256 := Hac.out
            have l1 := load_blk (N := N) (by rw [ints_size, HN.out]; exact hL) c2
            obtain ⟨s1, hb2⟩ := store_blk (ds := ints (acc)) (by rw [HZ.out, ints_size, ints_size, List.length_replicate]; exact hL) c1 (fun u hu => by
              have := ints_one (acc)
              rw [Array.all_eq_true_iff_forall_mem] at this
              exact this u (by simpa using hu))
            have l2 := load_blk (N := N) (by rw [ints_size, HN.out]; exact hL) hb2
            have hbl2 := cb.trans (below_cells (w := wv) (ints (acc)).toList g1 0 hgw)
            obtain ⟨T, hT⟩ : ∃ T, T = ints (acc) := ⟨_, rfl⟩
            have hTs : T.size = N := by rw [hT, ints_size, HN.out]; exact hL
            rw [← hT] at l1 s1 l2 hbl2
            obtain ⟨W3, hW3⟩ : ∃ W3, W3 = wv.setCells g1 0 T.toList := ⟨_, rfl⟩
            rw [← hW3] at s1 l2 hbl2
            have hTb : (Wd.table b).1 = 4 := by
              rw [HTb.out, Hbt.out, hbt, if_pos rfl]
            have Fin := Lib.hid (show ReadR b w (.returned (.tuple #[.agg T, .int .i64 0, .int .i64 4])) W3 from ⟨acc, 0, by rw [hTb, ← hT]; rfl, hL, (fun h => by rw [hTb] at h; cases h), hbl2⟩)
            clear c1 c2 cb hb2 hbl2 hT hW3 hL
            go_wp2_with fail
            refine bodyPost_ret (v := .tuple #[.agg T, .int .i64 0, .int .i64 4]) ?_ rfl Fin.out
            simp [results, Try.results36]
            rw [← Ht.out]
            go_simp
        · skip
          have z1 : decide (2048 < (S : Int)) = false := by rw [decide_eq_false_iff_not]; omega
          have z1' : decide (2048 < S) = false := by rw [decide_eq_false_iff_not]; omega
          have z2 : decide ((S : Int) < 2048) = false := by rw [decide_eq_false_iff_not]; omega
          have z2' : decide (S < 2048) = false := by rw [decide_eq_false_iff_not]; omega
          have hbt : (decide (2048 < S) || (decide (S < 2048) && !(U == 0 || (U == 1 && O)))) = false := by rw [z1', z2']; rfl
          have hL : (acc).length = 256 := Hac.out
          have l1 := load_blk (N := N) (by rw [ints_size, HN.out]; exact hL) c2
          obtain ⟨s1, hb2⟩ := store_blk (ds := ints (acc)) (by rw [HZ.out, ints_size, ints_size, List.length_replicate]; exact hL) c1 (fun u hu => by
            have := ints_one (acc)
            rw [Array.all_eq_true_iff_forall_mem] at this
            exact this u (by simpa using hu))
          have l2 := load_blk (N := N) (by rw [ints_size, HN.out]; exact hL) hb2
          have hbl2 := cb.trans (below_cells (w := wv) (ints (acc)).toList g1 0 hgw)
          obtain ⟨T, hT⟩ : ∃ T, T = ints (acc) := ⟨_, rfl⟩
          have hTs : T.size = N := by rw [hT, ints_size, HN.out]; exact hL
          rw [← hT] at l1 s1 l2 hbl2
          obtain ⟨W3, hW3⟩ : ∃ W3, W3 = wv.setCells g1 0 T.toList := ⟨_, rfl⟩
          rw [← hW3] at s1 l2 hbl2
          have hTb : Wd.table b = (0, acc, b.drop j) := by
            rw [HTb.out, Hbt.out, hbt, if_neg (by decide)]
          have Fin := Lib.hid (show ReadR b w (.returned (.tuple #[.agg T, .int .i64 (j : Int), .int .i64 0])) W3 from ⟨acc, j, by rw [hTb, ← hT]; rfl, hL, (fun _ => by rw [hTb]; exact ⟨rfl, by rw [← Hn.out]; exact hj, rfl, Hrng.out⟩), hbl2⟩)
          clear c1 c2 cb hb2 hbl2 hT hW3 hL
          go_wp2_with fail
          refine bodyPost_ret (v := .tuple #[.agg T, .int .i64 (j : Int), .int .i64 0]) ?_ rfl Fin.out
          simp [results, Try.results36]
          rw [← Ht.out]
          go_simp
end Go.Proofs.Ytnkgcibdibgmjaa
