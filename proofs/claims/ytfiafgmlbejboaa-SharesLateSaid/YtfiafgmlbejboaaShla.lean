/- SharesLate under the contracts. -/
import Derived.Test.YtfiafgmlbejboaaShf
import Derived.Deep.RegionHeldLaw
namespace Go.Proofs.Ytfiafgmlbejboaa
open Go.RowKit

/-- Numbers as cells. -/
def lrow (l : List Nat) : Array Value := (l.map fun n : Nat => Value.int .i64 (n : Int)).toArray
theorem lrow_at {l : List Nat} {i : Nat} (h : i < l.length) : (lrow l)[i]? = some (.int .i64 ((l.getD i 0 : Nat) : Int)) := by
  unfold lrow
  rw [List.getElem?_toArray, List.getElem?_map, List.getElem?_eq_getElem h, List.getD_eq_getElem?_getD, List.getElem?_eq_getElem h]
  rfl
theorem lrow_set (l : List Nat) (i m : Nat) : (lrow l).setIfInBounds i (.int .i64 (m : Int)) = lrow (l.set i m) := by
  unfold lrow
  rw [List.setIfInBounds_toArray, List.map_set]
theorem lint_info : (Try.prog.info? 3).map (fun i => (i.zero, i.size, i.bytes)) = some (some (.int .i64 0), 1, 8) := by kernel_rfl
theorem lrow_zeros (n : Nat) : madeCells #[.int .i64 0] n = lrow (List.replicate n 0) := by
  apply Array.ext_getElem?
  intro i
  unfold lrow madeCells
  rcases Nat.lt_or_ge i n with h | h
  · simp [h, Nat.mod_one]
  · simp [h]
theorem make_left (n : Nat) (hn : n ≤ 1000000) (w : World) :
    (Instr.makeSlice 56 (.int .i64 (n : Int)) (.int .i64 (n : Int))).run Try.prog w = .ok (.slice (some ⟨w.heap.size, 0, none⟩) n n) (w.alloc (.cells (lrow (List.replicate n 0)) 3)) := by
  rw [← lrow_zeros]
  exact run_make_row' _ _ _ 8 Try.underlying56 lint_info rfl .i64 .i64 n (by omega) (by omega) w
theorem lrow_near (ms : List Nat) (m c : Nat) (rest : List Nat) : (ms ++ m :: rest).set ms.length c = ms ++ c :: rest := by
  rw [List.set_append_right _ _ (Nat.le_refl _), Nat.sub_self]
  rfl
theorem lrow_mid (ms : List Nat) (m : Nat) (rest : List Nat) : (ms ++ m :: rest).getD ms.length 0 = m := by
  rw [List.getD_eq_getElem?_getD, List.getElem?_append_right (Nat.le_refl _), Nat.sub_self]
  rfl
theorem set_last (ms : List Nat) (a b : Nat) : (ms ++ [a]).set ms.length b = ms ++ [b] := lrow_near ms a b []
theorem set_same {ms : List Nat} {k : Nat} (hk : k < ms.length) : ms.set k (ms.getD k 0) = ms := by
  refine List.ext_getElem? fun j => ?_
  rw [List.getElem?_set]
  split
  · next e => subst e; rw [List.getD_eq_getElem?_getD, List.getElem?_eq_getElem hk]; rfl
  · rfl
theorem thr_less {ms : List Nat} {k : Nat} (hk : k < ms.length) : Sh.change (Sh.thr 0 ms) ((3 * k : Nat) : Int) false = (decide (0 < ms.getD k 0), Sh.thr 0 (ms.set k (ms.getD k 0 - 1))) := by
  rw [Sh.thr_change hk]
  by_cases h : ms.getD k 0 = 0
  · rw [if_pos h, decide_eq_false (by omega)]
    have := set_same hk
    rw [h] at this ⊢
    rw [this]
  · rw [if_neg h, decide_eq_true (by omega), if_neg (by decide)]
theorem free_pre (s t : Nat) : Rn.freeN (Rn.pre s t) = t := by
  unfold Rn.freeN Rn.pre
  rw [List.countP_append, List.countP_replicate, List.countP_replicate]
  simp
theorem zeros_next {ms : List Nat} {i : Nat} (h : i < ms.length) : Sh.zeros (ms.take (i + 1)) = Sh.zeros (ms.take i) + if ms.getD i 0 = 0 then 1 else 0 := by
  have hg : ms[i]? = some (ms.getD i 0) := by rw [List.getD_eq_getElem?_getD, List.getElem?_eq_getElem h]; rfl
  unfold Sh.zeros
  rw [List.take_add_one, hg, List.countP_append]
  simp [List.countP_cons]
theorem zeros_few (ms : List Nat) : Sh.zeros ms ≤ ms.length := List.countP_le_length
/-- The first loop. -/
def La1 (RepB : World → Nat → Nat → (Nat → Prop) → List Bool → List Sh.U → List Sh.U → Prop) (B gl g gs q i : Nat) (w wr : World) : Prop :=
  ∃ ms : List Nat, ms.length = i ∧ (∀ x ∈ ms, x ≤ 4) ∧ FarS RepB B (fun b => b < B ∨ b = gl) g gs (Rn.pre (3 * i) (60 - 3 * i)) (Sh.thr 0 ms) [] w wr ∧ Blk wr gl 3 (lrow (ms ++ List.replicate (q - i) 0))
def La2 (RepB : World → Nat → Nat → (Nat → Prop) → List Bool → List Sh.U → List Sh.U → Prop) (B gl g gs q : Nat) (w wr : World) : Prop :=
  ∃ ms : List Nat, ms.length = q ∧ (∀ x ∈ ms, x ≤ 4) ∧ FarS RepB B (fun b => b < B ∨ b = gl) g gs (Rn.pre (3 * q) (60 - 3 * q)) (Sh.thr 0 ms) [] w wr ∧ Blk wr gl 3 (lrow ms)
theorem uok_thr {ms : List Nat} (h1 : ms.length ≤ 100) (h2 : ∀ x ∈ ms, x ≤ 1000) : UOk (Sh.thr 0 ms) := by
  refine ⟨by rw [Sh.thr_len]; omega, fun u hu => ?_⟩
  obtain ⟨i, hi, rfl⟩ := List.mem_iff_getElem.1 hu
  rw [Sh.thr_len] at hi
  have h := Sh.thr_at 0 ms i hi
  unfold Sh.at_ at h
  rw [List.getD_eq_getElem?_getD, List.getElem?_eq_getElem (by rw [Sh.thr_len]; exact hi)] at h
  have h : (Sh.thr 0 ms)[i] = (3 * (0 + i), 3, ms.getD i 0) := h
  rw [h]
  have hm : ms.getD i 0 ≤ 1000 := by
    rw [List.getD_eq_getElem?_getD, List.getElem?_eq_getElem hi]
    exact h2 _ (List.getElem_mem hi)
  exact ⟨by show 3 * (0 + i) ≤ _; omega, by show 3 ≤ 1000000; decide, by show ms.getD i 0 ≤ _; omega⟩

set_option maxRecDepth 8000 in
set_option maxHeartbeats 16000000 in
theorem late_any {Rep : World → Nat → (Nat → Prop) → List Bool → Prop} {RepB : World → Nat → Nat → (Nat → Prop) → List Bool → List Sh.U → List Sh.U → Prop} (hC : RunsC Rep) (hS : ShC Rep RepB) {w : World} {A1 A2 : Option Addr} {c1 c2 : Nat} {l m : List Nat} (s1 : Sl w w.heap.size A1 (byts l)) (s2 : Sl w w.heap.size A2 (byts m)) (hl : ∀ x ∈ l, x < 256) (hm : ∀ x ∈ m, x < 256) :
    Calls Try.prog 10 #[.slice A1 l.length c1, .slice A2 m.length c2] w fun e w' => e = .returned (.bool true) ∧ Below w.heap.size w w' := by
  have AW := Lib.hid (shawake_any hC hS w)
  obtain ⟨B, hB⟩ : ∃ B, B = w.heap.size := ⟨_, rfl⟩
  have HC := Lib.hid hC
  have HS := Lib.hid hS
  have HBw := Lib.hid (show B ≤ w.heap.size by omega)
  rw [← hB] at AW s1 s2 ⊢
  have S1 := Lib.hid s1
  have S2 := Lib.hid s2
  have HL := Lib.hid hl
  have HM := Lib.hid hm
  obtain ⟨q, hq⟩ : ∃ q, q = l.length := ⟨_, rfl⟩
  have Hq := Lib.hid hq
  rw [← hq]
  obtain ⟨p, hp⟩ : ∃ p, p = m.length := ⟨_, rfl⟩
  have Hp := Lib.hid hp
  rw [← hp]
  clear hC hS hB s1 s2 hl hm hp hq
  by_cases h60 : 12 < q ∨ 60 < p
  · by_cases h61 : 12 < q
    · have q1 : decide (12 < (q : Int)) = true := by rw [decide_eq_true_eq]; omega
      have q2 : decide (12 < q) = true := by rw [decide_eq_true_eq]; exact h61
      clear h60 h61
      go_enter Try.func10, Try.ntmps10
      go_wp2_with fail
      refine AW.out.mono ?_
      rintro e w0 ⟨rfl, hb0⟩
      go_wp2_with fail
      go_ret
      exact ⟨rfl, hb0⟩
    · have q1 : decide (12 < (q : Int)) = false := by rw [decide_eq_false_iff_not]; omega
      have q2 : decide (12 < q) = false := by rw [decide_eq_false_iff_not]; exact h61
      have q3 : decide (60 < (p : Int)) = true := by rw [decide_eq_true_eq]; omega
      have q4 : decide (60 < p) = true := by rw [decide_eq_true_eq]; omega
      clear h60 h61
      go_enter Try.func10, Try.ntmps10
      go_wp2_with fail
      refine AW.out.mono ?_
      rintro e w0 ⟨rfl, hb0⟩
      go_wp2_with fail
      go_ret
      exact ⟨rfl, hb0⟩
  have q1 : decide (12 < (q : Int)) = false := by rw [decide_eq_false_iff_not]; omega
  have q2 : decide (12 < q) = false := by rw [decide_eq_false_iff_not]; omega
  have q3 : decide (60 < (p : Int)) = false := by rw [decide_eq_false_iff_not]; omega
  have q4 : decide (60 < p) = false := by rw [decide_eq_false_iff_not]; omega
  have hq12 : q ≤ 12 := by omega
  have hp60 : p ≤ 60 := by omega
  clear h60
  go_enter Try.func10, Try.ntmps10
  go_wp2_with fail
  refine AW.out.mono ?_
  rintro e w0 ⟨rfl, hb0⟩
  have S0 := Lib.hid (Nat.le_trans HBw.out hb0.size)
  have H0 := Lib.hid hb0
  have N1 := Lib.hid (new_mine HC.out 60 w0 (by unfold I64; omega))
  clear AW hb0
  go_wp2_with fail
  refine N1.out.mono ?_
  rintro e w1 ⟨g, rfl, m1, hb1⟩
  have N2 := Lib.hid (MineS.new (w0 := w) HS.out (show MineR Rep w1 B g (Rn.new 60) from by obtain ⟨X, e1, e2⟩ := m1; exact ⟨X, e1, fun b hb => Nat.le_trans S0.out (e2 b hb)⟩) (Nat.le_trans S0.out hb1.size) (H0.out.trans (hb1.mono S0.out)))
  clear m1 hb1 N1
  go_wp2_with fail
  refine N2.out.mono ?_
  rintro e w2 ⟨gs, rfl, m2⟩
  have F2 := Lib.hid m2.far
  obtain ⟨gl, hgl⟩ : ∃ gl, w2.heap.size = gl := ⟨_, rfl⟩
  obtain ⟨W3, hW3⟩ : ∃ W, w2.alloc (.cells (lrow (List.replicate q 0)) 3) = W := ⟨_, rfl⟩
  have mk := make_left q (by omega) w2
  rw [hgl, hW3] at mk
  have L3 := Lib.hid (show La1 RepB B gl g gs q 0 w W3 from ⟨[], rfl, by simp, by
    have hal : Below w2.heap.size w2 W3 := by rw [← hW3]; exact (Below.refl _ _).alloc (Nat.le_refl _) _
    have h := F2.out
    rw [show Rn.new 60 = Rn.pre 0 60 by decide] at h
    refine h.step HS.out (Chg.of_below _ hal) ?_ (fun b hb => .inl hb) (h.bel.trans (hal.mono h.few))
    rintro b (hb | rfl)
    · exact ⟨.inl hb, Nat.lt_of_lt_of_le hb (Nat.le_trans h.few hal.size)⟩
    · exact ⟨.inr (Nat.le_of_eq hgl), by rw [← hW3, ← hgl]; simp⟩, by rw [← hW3, ← hgl]; exact Blk.new _ _ _⟩)
  have GLB := Lib.hid (show B ≤ gl by rw [← hgl]; exact F2.out.few)
  clear m2 N2 F2
  go_wp2_with fail
  clear mk hW3 hgl
  go_loopw [8] (fun v8 wr => ∃ i : Nat, v8 = .int .i64 (i : Int) ∧ i ≤ q ∧ La1 RepB B gl g gs q i w wr) (fun v8 _ => q - (intOf v8).toNat)
  case atStart => exact ⟨0, rfl, Nat.zero_le _, L3.out⟩
  case round =>
    obtain ⟨i, rfl, hi, ms, hms, hle, fs, bl⟩ := hrel
    clear L3
    by_cases hiq : i < q
    · have z0 : decide ((i : Int) < (q : Int)) = true := by rw [decide_eq_true_eq]; omega
      have z0' : decide (i < q) = true := by rw [decide_eq_true_eq]; exact hiq
      obtain ⟨s, hs⟩ : ∃ s, s = 3 * i := ⟨_, rfl⟩
      have hsi : (3 : Int) * (i : Int) = (s : Int) := by omega
      rw [← hs] at fs
      have ht : Rn.take (Rn.pre s (60 - s)) 3 = (s, true, Rn.pre (s + 3) (60 - (s + 3))) := by
        have h := Rn.take_pre (s := s) (t := 60 - s) (n := 3) (by decide)
        rw [if_pos (by omega), show 60 - s - 3 = 60 - (s + 3) by omega] at h
        exact h
      have hst := shst_taken (a := s) (k := 3) fs.st (by decide) (by rw [Rn.pre_len]; omega) (by rw [Rn.pre_len]; omega) (by rw [Sh.thr_len]; omega) (fun j j1 j2 => by rw [Rn.pre_at (by omega)]; simpa using j1)
      rw [Rn.setN_pre (by omega), show 60 - s - 3 = 60 - (s + 3) by omega, hs, ← hms, Sh.thr_ins, hms, ← hs] at hst
      have ST := Lib.hid hst
      have N := fs.take HC.out HS.out 3 (by unfold I64; omega) (by rw [ht]; exact hst.1)
      rw [ht] at N
      have N1 := Lib.hid N
      have BL := Lib.hid bl
      have HMS := Lib.hid hms
      have HLE := Lib.hid hle
      have HS3 := Lib.hid hs
      have hs33 : s ≤ 33 := by omega
      clear hst N fs bl ht hms hle hs
      go_wp2_with fail
      refine N1.out.mono ?_
      rintro e w4 ⟨rfl, f4, hc4⟩
      have bl4 := Lib.hid (BL.out.keep (hc4.block gl BL.out.lt fun h => h (.inr rfl)))
      have hadd : Sh.add (Sh.thr 0 ms) (s : Int) 3 = (true, Sh.thr 0 (ms ++ [1])) := ST.out.2.1
      have N := f4.add HS.out (s : Int) 3 (by unfold I64; omega) (by unfold I64; omega) (by rw [hadd]; exact ST.out.2.2)
      rw [hadd] at N
      clear hadd
      have N2 := Lib.hid N
      clear N f4 hc4 N1
      go_wp2_with fail
      refine N2.out.mono ?_
      rintro e w5 ⟨rfl, f5, hc5⟩
      have bl5 := Lib.hid (bl4.out.keep (hc5.block gl bl4.out.lt fun h => h (.inr rfl)))
      have hag : Sh.add (Sh.thr 0 (ms ++ [1])) (s : Int) 1 = (false, Sh.thr 0 (ms ++ [1])) := by
        have h := Sh.thr_again (ms := ms ++ [1]) (k := i) (by rw [List.length_append, List.length_singleton, HMS.out]; omega) 1
        rw [← HS3.out] at h
        exact h
      have N := f5.add HS.out (s : Int) 1 (by unfold I64; omega) (by unfold I64; omega) (by rw [hag]; exact ST.out.2.2)
      rw [hag] at N
      have N3 := Lib.hid N
      clear N f5 hc5 N2 hag
      go_wp2_with fail
      refine N3.out.mono ?_
      rintro e w6 ⟨rfl, f6, hc6⟩
      have bl6 := bl5.out.keep (hc6.block gl bl5.out.lt fun h => h (.inr rfl))
      clear hc6 N3 bl4 BL
      obtain ⟨bb, o, rfl, hcx⟩ := sl_cell (S1.out.below f6.bel) (k := i) (by rw [← Hq.out]; exact hiq)
      have hx := getB_lt HL.out i
      generalize l.getD i 0 = x at *
      obtain ⟨c, hc⟩ : ∃ c, c = 1 + x % 4 := ⟨_, rfl⟩
      have hc1 : (1 : Int) + (x : Int) % 4 = (c : Int) := by omega
      have hc4 : c ≤ 4 := by omega
      have hc0 : 1 ≤ c := by omega
      obtain ⟨r, hr⟩ : ∃ r, r = List.replicate (q - (i + 1)) 0 := ⟨_, rfl⟩
      rw [show q - i = q - (i + 1) + 1 by omega, List.replicate_succ, ← hr] at bl6
      have fz := bl6.frozen i
      have cz : w6.cell? ⟨gl, i, none⟩ = some (.int .i64 0) := by
        rw [bl6.cell, lrow_at (by rw [List.length_append, List.length_cons, HMS.out]; omega), ← HMS.out, lrow_mid]
        rfl
      have blS := bl6.set_ i (.int .i64 (c : Int))
      rw [lrow_set, ← HMS.out, lrow_near, HMS.out] at blS
      have fS := f6.step (O' := fun b => b < B ∨ b = gl) (w' := w6.setCell ⟨gl, i, none⟩ (.int .i64 (c : Int))) HS.out ((Chg.refl _ _).setCell (p := ⟨gl, i, none⟩) (.inl (.inr rfl)) _) (fun b hb => ⟨.inl hb, by simpa using f6.old b hb⟩) (fun b hb => .inl hb) (f6.bel.setCell (p := ⟨gl, i, none⟩) (by
        rcases Nat.lt_or_ge gl B with h | h
        · exact absurd h (Nat.not_lt.2 (GLB.out))
        · exact h) _)
      have Hr := Lib.hid hr
      clear hc bl6 f6 hr
      go_wp2_with fail
      generalize hw7 : w6.setCell ⟨gl, i, none⟩ (.int .i64 (c : Int)) = w7 at *
      clear hw7 cz fz hcx hx hc1
      have BS := Lib.hid blS
      have FS := Lib.hid fS
      clear blS fS
      go_loopw [11] (fun v11 wk => ∃ k : Nat, v11 = .int .i64 (k : Int) ∧ 1 ≤ k ∧ k ≤ c ∧ FarS RepB B (fun b => b < B ∨ b = gl) g gs (Rn.pre (s + 3) (60 - (s + 3))) (Sh.thr 0 (ms ++ [k])) [] w wk ∧ Blk wk gl 3 (lrow (ms ++ c :: r))) (fun v11 _ => c - (intOf v11).toNat)
      case atStart => exact ⟨1, rfl, Nat.le_refl _, hc0, FS.out, BS.out⟩
      case round =>
        obtain ⟨k, rfl, hk1, hkc, fk, bk⟩ := hrel
        have ck : wr.cell? ⟨gl, i, none⟩ = some (.int .i64 (c : Int)) := by
          rw [bk.cell, lrow_at (by rw [List.length_append, List.length_cons, HMS.out]; omega), ← HMS.out, lrow_mid]
        have BK := Lib.hid bk
        by_cases hkc' : k < c
        · have z1 : decide ((k : Int) < (c : Int)) = true := by rw [decide_eq_true_eq]; omega
          have z1' : decide (k < c) = true := by rw [decide_eq_true_eq]; exact hkc'
          have hch : Sh.change (Sh.thr 0 (ms ++ [k])) (s : Int) true = (true, Sh.thr 0 (ms ++ [k + 1])) := by
            have h := Sh.thr_change (ms := ms ++ [k]) (k := i) (by rw [List.length_append, List.length_singleton, HMS.out]; omega) true
            rw [← HS3.out] at h
            have hg : (ms ++ [k]).getD i 0 = k := by rw [← HMS.out]; exact lrow_mid ms k []
            rw [h, hg, if_neg (by omega), if_pos rfl, ← HMS.out, set_last]
          have N := fk.more HS.out (s : Int) (by unfold I64; omega) (by rw [hch]; exact uok_thr (by rw [List.length_append, List.length_singleton, HMS.out]; omega) (fun y hy => by
            rcases List.mem_append.1 hy with hy | hy
            · have := HLE.out y hy; omega
            · rw [List.mem_singleton.1 hy]; omega))
          rw [hch] at N
          have N4 := Lib.hid N
          clear N fk bk hch
          go_wp2_with fail
          refine N4.out.mono ?_
          rintro e w8 ⟨rfl, f8, hc8⟩
          have Nx := Lib.hid (⟨f8, BK.out.keep (hc8.block gl BK.out.lt fun h => h (.inr rfl))⟩ : FarS RepB B (fun b => b < B ∨ b = gl) g gs (Rn.pre (s + 3) (60 - (s + 3))) (Sh.thr 0 (ms ++ [k + 1])) [] w w8 ∧ Blk w8 gl 3 (lrow (ms ++ c :: r)))
          clear f8 hc8 N4
          go_wp2_with fail
          go_roundw
          case rel => exact ⟨k + 1, by go_num, by omega, by omega, Nx.out.1, Nx.out.2⟩
          case measure => simp [intOf]; omega
        · have hkc2 : k = c := by omega
          subst hkc2
          have z1 : decide ((k : Int) < (k : Int)) = false := by simp
          have z1' : decide (k < k) = false := by simp
          have Fn := Lib.hid (show La1 RepB B gl g gs q (i + 1) w wr from ⟨ms ++ [k], by rw [List.length_append, List.length_singleton, HMS.out], fun y hy => by
            rcases List.mem_append.1 hy with hy | hy
            · exact HLE.out y hy
            · rw [List.mem_singleton.1 hy]; exact hc4, by rw [show 3 * (i + 1) = s + 3 by rw [HS3.out]; omega]; exact fk, by rw [← Hr.out, List.append_assoc]; exact bk⟩)
          clear fk bk
          go_wp2_with fail
          go_roundw
          case rel => exact ⟨i + 1, by go_num, by omega, Fn.out⟩
          case measure => simp [intOf]; omega
    · have hiq' : i = q := by omega
      subst hiq'
      have z0 : decide ((i : Int) < (i : Int)) = false := by simp
      have z0' : decide (i < i) = false := by simp
      rw [Nat.sub_self, List.replicate_zero, List.append_nil] at bl
      have L2 := Lib.hid (show La2 RepB B gl g gs i w wr from ⟨ms, hms, hle, fs, bl⟩)
      clear hms hle fs bl
      clear ms
      go_wp2_with fail
      go_loopw [12] (fun v12 wr => ∃ j : Nat, v12 = .int .i64 (j : Int) ∧ j ≤ p ∧ La2 RepB B gl g gs i w wr) (fun v12 _ => p - (intOf v12).toNat)
      case atStart => exact ⟨0, rfl, Nat.zero_le _, L2.out⟩
      case round =>
        obtain ⟨j, rfl, hj, ms, hms, hle, fs, bl⟩ := hrel
        clear L2
        by_cases hgo : j < p ∧ 0 < i
        · obtain ⟨hjp, hi0⟩ := hgo
          have z1 : decide ((j : Int) < (p : Int)) = true := by rw [decide_eq_true_eq]; omega
          have z1' : decide (j < p) = true := by rw [decide_eq_true_eq]; exact hjp
          have z2 : decide ((0 : Int) < (i : Int)) = true := by rw [decide_eq_true_eq]; omega
          have z2' : decide (0 < i) = true := by rw [decide_eq_true_eq]; exact hi0
          obtain ⟨bb, o, rfl, hcx⟩ := sl_cell (S2.out.below fs.bel) (k := j) (by rw [← Hp.out]; exact hjp)
          have hx := getB_lt HM.out j
          generalize m.getD j 0 = x at *
          obtain ⟨k, hk⟩ : ∃ k, k = x % i := ⟨_, rfl⟩
          have hki : k < i := by rw [hk]; exact Nat.mod_lt _ hi0
          have HK := Lib.hid (show (x : Int) % (i : Int) = (k : Int) by rw [hk]; rfl)
          have hne : ((i : Int) == 0) = false := by rw [beq_eq_false_iff_ne]; omega
          have hne' : (i : Int) ≠ 0 := by omega
          obtain ⟨s, hs⟩ : ∃ s, s = 3 * k := ⟨_, rfl⟩
          have hsk : (3 : Int) * (k : Int) = (s : Int) := by omega
          have hs33 : s ≤ 33 := by omega
          have w1' : IntKind.i64.wrap ((3 : Int) * (k : Int)) = (s : Int) := by rw [hsk, IntKind.wrap_i64]; omega
          have w2' : IntKind.i64.wrap (s : Int) = (s : Int) := by rw [IntKind.wrap_i64]; omega
          have hkm : k < ms.length := by omega
          obtain ⟨v, hv⟩ : ∃ v, v = ms.getD k 0 := ⟨_, rfl⟩
          have hv4 : v ≤ 4 := by
            rw [hv, List.getD_eq_getElem?_getD, List.getElem?_eq_getElem hkm]
            exact hle _ (List.getElem_mem hkm)
          obtain ⟨y, hy⟩ : ∃ y, y = v - 1 := ⟨_, rfl⟩
          have hch := thr_less hkm
          rw [← hs, ← hv, ← hy] at hch
          have hle2 : ∀ u ∈ ms.set k y, u ≤ 4 := fun u hu => by
            rcases List.mem_or_eq_of_mem_set hu with h | h
            · exact hle u h
            · omega
          have hgy : (ms.set k y).getD k 0 = y := by rw [List.getD_eq_getElem?_getD, List.getElem?_set_self hkm]; rfl
          have hus : Sh.uses (Sh.thr 0 (ms.set k y)) (s : Int) = y := by
            have h := Sh.thr_uses (ms := ms.set k y) (k := k) (by rw [List.length_set]; exact hkm)
            rw [← hs, hgy] at h
            exact h
          have N := (fs.below HS.out (w' := wr.drew) (Below.refl _ _).drew).less HS.out (s : Int) (by unfold I64; omega) (by rw [hch]; exact uok_thr (by rw [List.length_set]; omega) (fun u hu => by have := hle2 u hu; omega))
          rw [hch] at N
          have N1 := Lib.hid N
          have BL := Lib.hid bl
          have cv : wr.cell? ⟨gl, k, none⟩ = some (.int .i64 (v : Int)) := by rw [bl.cell, lrow_at hkm, ← hv]
          have hmx : (if ((v : Int) - 1) > 0 then ((v : Int) - 1) else 0) = (y : Int) := by
            by_cases h : (v : Int) - 1 > 0
            · rw [if_pos h]; omega
            · rw [if_neg h]; omega
          have hmax : ∀ (ts : Array TypeId) (t : TypeId) (W : World), (Builtin.max_ ts t #[.int .i64 0, .int .i64 ((v : Int) - 1)]).run Try.prog W = .ok (.int .i64 (y : Int)) W := fun ts t W => by rw [run_max_int2, hmx]
          have HU := Lib.hid hus
          have HLE2 := Lib.hid hle2
          have HMS := Lib.hid (show (ms.set k y).length = i by rw [List.length_set]; exact hms)
          have hvb : decide ((0 : Int) < (v : Int)) = decide (0 < v) := by
            by_cases h : 0 < v
            · rw [decide_eq_true h, decide_eq_true_eq]; omega
            · rw [decide_eq_false h, decide_eq_false_iff_not]; omega
          have Kp := Lib.hid (fun X (hc : Chg (fun b => ¬ (b < B ∨ b = gl)) wr.drew X) => show X.cell? ⟨gl, k, none⟩ = some (.int .i64 (v : Int)) by
            have h : Blk X gl 3 (lrow ms) := (BL.out.keep (w' := wr.drew) rfl).keep (hc.block gl BL.out.lt fun h => h (.inr rfl))
            rw [h.cell, lrow_at hkm, ← hv])
          have BLX := Lib.hid (fun X (hc : Chg (fun b => ¬ (b < B ∨ b = gl)) wr.drew X) => ((BL.out.keep (w' := wr.drew) rfl).keep (hc.block gl BL.out.lt fun h => h (.inr rfl)) : Blk X gl 3 (lrow ms)))
          have hcg := Chg.refl (fun b => ¬ (b < B ∨ b = gl)) wr.drew
          have HKM := Lib.hid hkm
          have hkl : (0 : Int) ≤ (k : Int) ∧ (k : Int) < (i : Int) := by omega
          clear hk hs hv hch hmx hus hgy hle2 hle hms bl fs N hkm hy
          cases hvd : decide (0 < v)
          all_goals
            rw [hvd] at hvb N1
            go_upto_region 26 with fail
            rw [HK.out]
            clear hcx hx
            go_region_held_law (fun X => X.cell? ⟨gl, k, none⟩ = some (.int .i64 (v : Int))) (first | exact Kp.out _ hcg | exact cv) (first
              | (go_at_call 33; refine N1.out.mono ?_; rintro e w4 ⟨rfl, f4, hcg⟩))
            all_goals
              have c4 := Kp.out _ hcg
              have b4 := BLX.out _ hcg
              have fz4 := b4.frozen k
              have b5 := b4.set_ k (.int .i64 (y : Int))
              rw [lrow_set] at b5
              have f5 := f4.step (O' := fun b => b < B ∨ b = gl) (w' := w4.setCell ⟨gl, k, none⟩ (.int .i64 (y : Int))) HS.out ((Chg.refl _ _).setCell (p := ⟨gl, k, none⟩) (.inl (.inr rfl)) _) (fun b hb => ⟨.inl hb, by simpa using f4.old b hb⟩) (fun b hb => .inl hb) (f4.bel.setCell (p := ⟨gl, k, none⟩) GLB.out _)
              have B5 := Lib.hid b5
              have F5 := Lib.hid f5
              clear f4 b4 b5 f5 hcg
              go_upto_region 29 with fail
              generalize w4.setCell ⟨gl, k, none⟩ (.int .i64 (y : Int)) = w5 at *
              clear c4 fz4
              have N := (F5.out.below HS.out (w' := w5.drew) (Below.refl _ _).drew).uses HS.out (s : Int) (by unfold I64; omega)
              rw [HU.out] at N
              have N6 := Lib.hid N
              have BLY := Lib.hid (fun X (hc : Below w5.heap.size w5.drew X) => ((B5.out.keep (w' := w5.drew) rfl).keep (hc.block gl B5.out.lt) : Blk X gl 3 (lrow (ms.set k y))))
              have Kq := Lib.hid (fun X (hc : Below w5.heap.size w5.drew X) => show X.cell? ⟨gl, k, none⟩ = some (.int .i64 (y : Int)) by
                rw [(BLY.out X hc).cell, lrow_at (by rw [List.length_set]; exact HKM.out), List.getD_eq_getElem?_getD, List.getElem?_set_self HKM.out]
                rfl)
              obtain ⟨u, hu⟩ : ∃ u, u = 3 * i := ⟨_, rfl⟩
              obtain ⟨t, ht⟩ : ∃ t, t = 60 - 3 * i := ⟨_, rfl⟩
              have N7 := Lib.hid (fun X (h : FarS RepB B (fun b => b < B ∨ b = gl) g gs (Rn.pre (3 * i) (60 - 3 * i)) (Sh.thr 0 (ms.set k y)) [] w X) => show Calls Try.prog 23 #[.pointer (some ⟨g, 0, none⟩)] X fun e w' => e = .returned (.int .i64 (t : Int)) ∧ FarS RepB B (fun b => b < B ∨ b = gl) g gs (Rn.pre (3 * i) (60 - 3 * i)) (Sh.thr 0 (ms.set k y)) [] w w' ∧ Below X.heap.size X w' from
                (h.free HC.out HS.out).mono fun e w' ⟨h1, h2, h3⟩ => ⟨by rw [h1, free_pre, ht], h2, h3⟩)
              have y1 : (3 : Int) * (i : Int) = (u : Int) := by omega
              have y2 : (60 : Int) - (u : Int) = (t : Int) := by omega
              have y1w : IntKind.i64.wrap ((3 : Int) * (i : Int)) = (u : Int) := by rw [y1, IntKind.wrap_i64]; omega
              have y1v : IntKind.i64.wrap (u : Int) = (u : Int) := by rw [IntKind.wrap_i64]; omega
              have y2w : IntKind.i64.wrap ((60 : Int) - (u : Int)) = (t : Int) := by rw [y2, IntKind.wrap_i64]; omega
              have y2v : IntKind.i64.wrap (t : Int) = (t : Int) := by rw [IntKind.wrap_i64]; omega
              have hbc := Below.refl w5.heap.size w5.drew
              have cy : w5.cell? ⟨gl, k, none⟩ = some (.int .i64 (y : Int)) := by
                rw [B5.out.cell, lrow_at (by rw [List.length_set]; exact HKM.out), List.getD_eq_getElem?_getD, List.getElem?_set_self HKM.out]
                rfl
              clear N hu ht
              go_region_held_law (fun X => X.cell? ⟨gl, k, none⟩ = some (.int .i64 (y : Int))) (first | exact Kq.out _ hbc | exact cy) (first
                | (go_at_call 42; refine N6.out.mono ?_; rintro e w6 ⟨rfl, f6, hbc⟩)
                | (go_at_call 23; refine (N7.out _ f6).mono ?_; rintro e w7 ⟨rfl, f6, hb7⟩; have hbc := hbc.trans (hb7.mono hbc.size)))
              all_goals
                have Fn := Lib.hid (show La2 RepB B gl g gs i w _ from ⟨ms.set k y, HMS.out, HLE2.out, f6, BLY.out _ hbc⟩)
                clear f6 hbc hb7
                go_wp2_with fail
                go_roundw
                case rel => exact ⟨j + 1, by go_num, by omega, Fn.out⟩
                case measure => simp [intOf]; omega
        · by_cases hjp : j < p
          · have z1 : decide ((j : Int) < (p : Int)) = true := by rw [decide_eq_true_eq]; omega
            have z1' : decide (j < p) = true := by rw [decide_eq_true_eq]; exact hjp
            have z2 : decide ((0 : Int) < (i : Int)) = false := by rw [decide_eq_false_iff_not]; omega
            have z2' : decide (0 < i) = false := by rw [decide_eq_false_iff_not]; omega
            have BL := Lib.hid bl
            have HMS := Lib.hid hms
            have FS := Lib.hid fs
            clear hle hms fs bl
            go_wp2_with fail
            go_loop [14, 15] (fun v14 v15 => ∃ n : Nat, v15 = .int .i64 (n : Int) ∧ n ≤ i ∧ v14 = .int .i64 (Sh.zeros (ms.take n) : Int)) (fun _ v15 => i - (intOf v15).toNat)
            case atStart => exact ⟨0, rfl, Nat.zero_le _, rfl⟩
            case round =>
              obtain ⟨n, rfl, hn, rfl⟩ := hrel
              by_cases hni : n < i
              · have y0 : decide ((n : Int) < (i : Int)) = true := by rw [decide_eq_true_eq]; omega
                have y0' : decide (n < i) = true := by rw [decide_eq_true_eq]; exact hni
                have hnm : n < ms.length := by rw [HMS.out]; exact hni
                have cn : wr.cell? ⟨gl, n, none⟩ = some (.int .i64 ((ms.getD n 0 : Nat) : Int)) := by rw [BL.out.cell, lrow_at hnm]
                have nx := zeros_next hnm
                have fw := zeros_few (ms.take n)
                rw [List.length_take] at fw
                obtain ⟨v, hv⟩ : ∃ v, v = ms.getD n 0 := ⟨_, rfl⟩
                obtain ⟨zz, hzz⟩ : ∃ zz, zz = Sh.zeros (ms.take n) := ⟨_, rfl⟩
                rw [← hv] at cn nx
                rw [← hzz] at nx fw ⊢
                clear hv hzz hnm
                by_cases hv0 : v = 0
                · rw [if_pos hv0] at nx
                  have Nx := Lib.hid nx
                  have y1 : ((v : Int) == 0) = true := by rw [beq_iff_eq]; omega
                  have y1' : (v == 0) = true := by rw [beq_iff_eq]; exact hv0
                  have hz12 : zz ≤ 12 := by omega
                  clear nx hv0 fw
                  go_wp2_with fail
                  go_round
                  case rel => exact ⟨n + 1, by go_num, by omega, by rw [Nx.out]; go_num⟩
                  case measure => simp [intOf]; omega
                · rw [if_neg hv0] at nx
                  have Nx := Lib.hid nx
                  have y1 : ((v : Int) == 0) = false := by rw [beq_eq_false_iff_ne]; omega
                  have y1' : (v == 0) = false := by rw [beq_eq_false_iff_ne]; exact hv0
                  clear nx hv0 fw
                  go_wp2_with fail
                  go_round
                  case rel => exact ⟨n + 1, by go_num, by omega, by rw [Nx.out]; rfl⟩
                  case measure => simp [intOf]; omega
              · have hni' : n = i := by omega
                have y0 : decide ((n : Int) < (i : Int)) = false := by rw [decide_eq_false_iff_not]; omega
                have y0' : decide (n < i) = false := by rw [decide_eq_false_iff_not]; exact hni
                have htk : ms.take n = ms := by rw [hni', ← HMS.out, List.take_length]
                rw [htk]
                clear htk hni'
                obtain ⟨t1, t2, t3⟩ := Sh.thr_lates 0 ms
                obtain ⟨l1, l2⟩ := Sh.lst_len (Sh.thr 0 ms)
                have hheld := FS.out.st.ok.heldL (l := Sh.lates (Sh.thr 0 ms)) List.filter_sublist
                have hfr := Sh.free_giveAll hheld
                rw [free_pre, t2] at hfr
                have hnil := Sh.lates_used (Sh.thr 0 ms)
                have l3 := (Sh.lst_len (Sh.used (Sh.thr 0 ms))).1
                rw [hnil] at l3
                have N1 := Lib.hid (FS.out.late HS.out)
                obtain ⟨zz, hzz⟩ : ∃ zz, zz = Sh.zeros ms := ⟨_, rfl⟩
                rw [t1, ← hzz] at l1
                rw [← hzz] at t2 t3 hfr ⊢
                rw [HMS.out] at t3
                have L1 := Lib.hid l1
                have L2 := Lib.hid (show (Sh.lst false (Sh.thr 0 ms)).length = i - zz by rw [l2]; omega)
                have L3 := Lib.hid l3
                have T2 := Lib.hid t2
                have HF := Lib.hid hfr
                have HN := Lib.hid hnil
                have hzi : zz ≤ i := by omega
                obtain ⟨a, ha⟩ : ∃ a, a = i - zz := ⟨_, rfl⟩
                rw [← ha] at L2
                have a1 : (i : Int) - (zz : Int) = (a : Int) := by omega
                obtain ⟨b3, hb3⟩ : ∃ b, b = 3 * zz := ⟨_, rfl⟩
                rw [← hb3] at T2 HF
                have a2 : (3 : Int) * (zz : Int) = (b3 : Int) := by omega
                obtain ⟨c3, hc3⟩ : ∃ c, c = 3 * a := ⟨_, rfl⟩
                have a3 : (3 : Int) * (a : Int) = (c3 : Int) := by omega
                obtain ⟨d3, hd3⟩ : ∃ d, d = 60 - 3 * i + b3 := ⟨_, rfl⟩
                rw [← hd3] at HF
                have a4 : (60 : Int) - (c3 : Int) = (d3 : Int) := by omega
                have ha12 : a ≤ 12 := by omega
                have hb36 : b3 ≤ 36 := by omega
                have hc36 : c3 ≤ 36 := by omega
                have hd60 : d3 ≤ 60 := by omega
                have AA := Lib.hid a1
                clear t1 t2 t3 l1 l2 l3 hheld hfr hnil hzz ha hb3 hc3 hd3 a1
                go_wp2_with fail
                refine N1.out.mono ?_
                rintro e w6 ⟨v6, rfl, o6, f6, -⟩
                obtain ⟨A6, c6, rfl⟩ := ownR_slice o6
                have N2 := Lib.hid (f6.list HS.out)
                rw [L1.out]
                clear o6 f6 N1
                go_wp2_with fail
                refine N2.out.mono ?_
                rintro e w7 ⟨v7, rfl, o7, f7, -⟩
                obtain ⟨A7, c7, rfl⟩ := ownR_slice o7
                have N := f7.settle HS.out
                rw [T2.out] at N
                have N3 := Lib.hid N
                rw [L2.out]
                have a1 := AA.out
                clear o7 f7 N2 N
                go_wp2_with fail
                refine N3.out.mono ?_
                rintro e w8 ⟨rfl, f8, -⟩
                have N := f8.settle HS.out
                rw [HN.out] at N
                have N4 := Lib.hid N
                clear f8 N3 N
                go_wp2_with fail
                refine N4.out.mono ?_
                rintro e w9 ⟨rfl, f9, -⟩
                have N := f9.free HC.out HS.out
                rw [show Sh.giveAll (Sh.giveAll (Rn.pre (3 * i) (60 - 3 * i)) (Sh.lates (Sh.thr 0 ms))) [] = Sh.giveAll (Rn.pre (3 * i) (60 - 3 * i)) (Sh.lates (Sh.thr 0 ms)) from rfl, HF.out] at N
                have N5 := Lib.hid N
                clear f9 N4 N
                go_wp2_with fail
                refine N5.out.mono ?_
                rintro e w10 ⟨rfl, f10, -⟩
                have N6 := Lib.hid (f10.late HS.out)
                have L4 := Lib.hid (show (Sh.lst true (Sh.used (Sh.used (Sh.thr 0 ms)))).length = 0 by
                  rw [(Sh.lst_len _).1]
                  have h : Sh.lates (Sh.used (Sh.used (Sh.thr 0 ms))) = [] := Sh.lates_used _
                  rw [h]
                  rfl)
                clear f10 N5
                go_wp2_with fail
                refine N6.out.mono ?_
                rintro e w11 ⟨v11, rfl, o11, f11, -⟩
                obtain ⟨A11, c11, rfl⟩ := ownR_slice o11
                have Fin := Lib.hid f11.bel
                rw [L4.out]
                clear o11 f11 N6
                go_wp2_with fail
                go_ret
                exact ⟨rfl, Fin.out⟩
          · have z1 : decide ((j : Int) < (p : Int)) = false := by rw [decide_eq_false_iff_not]; omega
            have z1' : decide (j < p) = false := by rw [decide_eq_false_iff_not]; exact hjp
            have BL := Lib.hid bl
            have HMS := Lib.hid hms
            have FS := Lib.hid fs
            clear hle hms fs bl
            go_wp2_with fail
            go_loop [14, 15] (fun v14 v15 => ∃ n : Nat, v15 = .int .i64 (n : Int) ∧ n ≤ i ∧ v14 = .int .i64 (Sh.zeros (ms.take n) : Int)) (fun _ v15 => i - (intOf v15).toNat)
            case atStart => exact ⟨0, rfl, Nat.zero_le _, rfl⟩
            case round =>
              obtain ⟨n, rfl, hn, rfl⟩ := hrel
              by_cases hni : n < i
              · have y0 : decide ((n : Int) < (i : Int)) = true := by rw [decide_eq_true_eq]; omega
                have y0' : decide (n < i) = true := by rw [decide_eq_true_eq]; exact hni
                have hnm : n < ms.length := by rw [HMS.out]; exact hni
                have cn : wr.cell? ⟨gl, n, none⟩ = some (.int .i64 ((ms.getD n 0 : Nat) : Int)) := by rw [BL.out.cell, lrow_at hnm]
                have nx := zeros_next hnm
                have fw := zeros_few (ms.take n)
                rw [List.length_take] at fw
                obtain ⟨v, hv⟩ : ∃ v, v = ms.getD n 0 := ⟨_, rfl⟩
                obtain ⟨zz, hzz⟩ : ∃ zz, zz = Sh.zeros (ms.take n) := ⟨_, rfl⟩
                rw [← hv] at cn nx
                rw [← hzz] at nx fw ⊢
                clear hv hzz hnm
                by_cases hv0 : v = 0
                · rw [if_pos hv0] at nx
                  have Nx := Lib.hid nx
                  have y1 : ((v : Int) == 0) = true := by rw [beq_iff_eq]; omega
                  have y1' : (v == 0) = true := by rw [beq_iff_eq]; exact hv0
                  have hz12 : zz ≤ 12 := by omega
                  clear nx hv0 fw
                  go_wp2_with fail
                  go_round
                  case rel => exact ⟨n + 1, by go_num, by omega, by rw [Nx.out]; go_num⟩
                  case measure => simp [intOf]; omega
                · rw [if_neg hv0] at nx
                  have Nx := Lib.hid nx
                  have y1 : ((v : Int) == 0) = false := by rw [beq_eq_false_iff_ne]; omega
                  have y1' : (v == 0) = false := by rw [beq_eq_false_iff_ne]; exact hv0
                  clear nx hv0 fw
                  go_wp2_with fail
                  go_round
                  case rel => exact ⟨n + 1, by go_num, by omega, by rw [Nx.out]; rfl⟩
                  case measure => simp [intOf]; omega
              · have hni' : n = i := by omega
                have y0 : decide ((n : Int) < (i : Int)) = false := by rw [decide_eq_false_iff_not]; omega
                have y0' : decide (n < i) = false := by rw [decide_eq_false_iff_not]; exact hni
                have htk : ms.take n = ms := by rw [hni', ← HMS.out, List.take_length]
                rw [htk]
                clear htk hni'
                obtain ⟨t1, t2, t3⟩ := Sh.thr_lates 0 ms
                obtain ⟨l1, l2⟩ := Sh.lst_len (Sh.thr 0 ms)
                have hheld := FS.out.st.ok.heldL (l := Sh.lates (Sh.thr 0 ms)) List.filter_sublist
                have hfr := Sh.free_giveAll hheld
                rw [free_pre, t2] at hfr
                have hnil := Sh.lates_used (Sh.thr 0 ms)
                have l3 := (Sh.lst_len (Sh.used (Sh.thr 0 ms))).1
                rw [hnil] at l3
                have N1 := Lib.hid (FS.out.late HS.out)
                obtain ⟨zz, hzz⟩ : ∃ zz, zz = Sh.zeros ms := ⟨_, rfl⟩
                rw [t1, ← hzz] at l1
                rw [← hzz] at t2 t3 hfr ⊢
                rw [HMS.out] at t3
                have L1 := Lib.hid l1
                have L2 := Lib.hid (show (Sh.lst false (Sh.thr 0 ms)).length = i - zz by rw [l2]; omega)
                have L3 := Lib.hid l3
                have T2 := Lib.hid t2
                have HF := Lib.hid hfr
                have HN := Lib.hid hnil
                have hzi : zz ≤ i := by omega
                obtain ⟨a, ha⟩ : ∃ a, a = i - zz := ⟨_, rfl⟩
                rw [← ha] at L2
                have a1 : (i : Int) - (zz : Int) = (a : Int) := by omega
                obtain ⟨b3, hb3⟩ : ∃ b, b = 3 * zz := ⟨_, rfl⟩
                rw [← hb3] at T2 HF
                have a2 : (3 : Int) * (zz : Int) = (b3 : Int) := by omega
                obtain ⟨c3, hc3⟩ : ∃ c, c = 3 * a := ⟨_, rfl⟩
                have a3 : (3 : Int) * (a : Int) = (c3 : Int) := by omega
                obtain ⟨d3, hd3⟩ : ∃ d, d = 60 - 3 * i + b3 := ⟨_, rfl⟩
                rw [← hd3] at HF
                have a4 : (60 : Int) - (c3 : Int) = (d3 : Int) := by omega
                have ha12 : a ≤ 12 := by omega
                have hb36 : b3 ≤ 36 := by omega
                have hc36 : c3 ≤ 36 := by omega
                have hd60 : d3 ≤ 60 := by omega
                have AA := Lib.hid a1
                clear t1 t2 t3 l1 l2 l3 hheld hfr hnil hzz ha hb3 hc3 hd3 a1
                go_wp2_with fail
                refine N1.out.mono ?_
                rintro e w6 ⟨v6, rfl, o6, f6, -⟩
                obtain ⟨A6, c6, rfl⟩ := ownR_slice o6
                have N2 := Lib.hid (f6.list HS.out)
                rw [L1.out]
                clear o6 f6 N1
                go_wp2_with fail
                refine N2.out.mono ?_
                rintro e w7 ⟨v7, rfl, o7, f7, -⟩
                obtain ⟨A7, c7, rfl⟩ := ownR_slice o7
                have N := f7.settle HS.out
                rw [T2.out] at N
                have N3 := Lib.hid N
                rw [L2.out]
                have a1 := AA.out
                clear o7 f7 N2 N
                go_wp2_with fail
                refine N3.out.mono ?_
                rintro e w8 ⟨rfl, f8, -⟩
                have N := f8.settle HS.out
                rw [HN.out] at N
                have N4 := Lib.hid N
                clear f8 N3 N
                go_wp2_with fail
                refine N4.out.mono ?_
                rintro e w9 ⟨rfl, f9, -⟩
                have N := f9.free HC.out HS.out
                rw [show Sh.giveAll (Sh.giveAll (Rn.pre (3 * i) (60 - 3 * i)) (Sh.lates (Sh.thr 0 ms))) [] = Sh.giveAll (Rn.pre (3 * i) (60 - 3 * i)) (Sh.lates (Sh.thr 0 ms)) from rfl, HF.out] at N
                have N5 := Lib.hid N
                clear f9 N4 N
                go_wp2_with fail
                refine N5.out.mono ?_
                rintro e w10 ⟨rfl, f10, -⟩
                have N6 := Lib.hid (f10.late HS.out)
                have L4 := Lib.hid (show (Sh.lst true (Sh.used (Sh.used (Sh.thr 0 ms)))).length = 0 by
                  rw [(Sh.lst_len _).1]
                  have h : Sh.lates (Sh.used (Sh.used (Sh.thr 0 ms))) = [] := Sh.lates_used _
                  rw [h]
                  rfl)
                clear f10 N5
                go_wp2_with fail
                refine N6.out.mono ?_
                rintro e w11 ⟨v11, rfl, o11, f11, -⟩
                obtain ⟨A11, c11, rfl⟩ := ownR_slice o11
                have Fin := Lib.hid f11.bel
                rw [L4.out]
                clear o11 f11 N6
                go_wp2_with fail
                go_ret
                exact ⟨rfl, Fin.out⟩
end Go.Proofs.Ytfiafgmlbejboaa
