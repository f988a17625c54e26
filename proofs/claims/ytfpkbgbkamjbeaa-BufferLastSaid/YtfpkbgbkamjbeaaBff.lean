/- The program's buffer: Fits. -/
import Derived.Test.YtfpkbgbkamjbeaaBfr
namespace Go.Proofs.Ytfpkbgbkamjbeaa
open Go.RowKit Go.Maps

/-- Could all these be pending too? a: those that were counted, c of them. -/
def fitGo (s : Pend) (n k : Nat) : List Int → (Int → Bool) → Nat → Bool
  | [], _, _ => true
  | x :: r, a, c => if (s x).isSome then fitGo s n k r a c else if k < n + (if a x then c else c + 1) then false else fitGo s n k r (fun y => decide (y = x) || a y) (if a x then c else c + 1)
def ints (l : List Int) : List Value := l.map (Value.int .i64)
/-- A set of numbers as a map. -/
def setF (a : Int → Bool) : Int → Option Value := fun x => if a x then some (.agg #[]) else none
theorem setF_set (a : Int → Bool) (x : Int) : setI (setF a) x (.agg #[]) = setF (fun y => decide (y = x) || a y) := by
  funext y
  unfold setI setF
  by_cases e : y = x
  · simp [e]
  · simp [e]
theorem setF_some (a : Int → Bool) (x : Int) : (setF a x).isSome = a x := by unfold setF; split <;> simp_all

set_option maxHeartbeats 4000000 in
theorem bfits_any {w : World} {g : Nat} {X : Nat → Prop} {k n : Nat} {s : Pend} (h : BufR w g X k n s) {A : Option Addr} {cap B : Nat} {l : List Int} (hl : ∀ x ∈ l, (Lit.int .i64 x).wf = true) (hs : Sl w B A (ints l)) (hB : B ≤ w.heap.size) (hlen : l.length ≤ 1000000) :
    Calls Try.prog 14 #[.pointer (some ⟨g, 0, none⟩), .slice A l.length cap] w fun e w' => e = .returned (.bool (fitGo s n k l (fun _ => false) 0)) ∧ Below w.heap.size w w' := by
  have hmm := @run_makeMap Try.prog
  have H := Lib.hid h
  have HS := Lib.hid (hs.more hB)
  have HL := Lib.hid hl
  have hlt := h.lt g h.gin
  have hk := h.le
  obtain ⟨M, hM⟩ : ∃ M, M = w.heap.size := ⟨_, rfl⟩
  have HM := Lib.hid hM
  obtain ⟨q, hq⟩ : ∃ q, q = l.length := ⟨_, rfl⟩
  have HQ := Lib.hid hq
  rw [← hq] at hlen ⊢
  have hMw : w.heap.size = M := hM.symm
  obtain ⟨w0, hw0⟩ : ∃ w0, w.alloc (.map #[] 0) = w0 := ⟨_, rfl⟩
  have hm0 := MapI.made w
  have hb0 : Below w.heap.size w (w.alloc (.map #[] 0)) := (Below.refl _ _).alloc (Nat.le_refl _) _
  have hs0 : (w.alloc (.map #[] 0)).heap.size = w.heap.size + 1 := by simp
  rw [hw0, hMw] at hm0 hb0 hs0
  have M0 := Lib.hid hm0
  have B0 := Lib.hid hb0
  have S0 := Lib.hid hs0
  rw [hMw]
  clear h hs hl hM hq hm0 hb0 hs0
  go_enter Try.func14, Try.ntmps14
  go_wp2_with fail
  go_loopw [15] (fun v wr => ∃ (j : Nat) (a : Int → Bool) (c : Nat), v = .int .i64 (j : Int) ∧ j ≤ q ∧ fitGo s n k l (fun _ => false) 0 = fitGo s n k (l.drop j) a c ∧ n + c ≤ k ∧ MapI wr M c (setF a) ∧ Below M w wr ∧ M + 1 ≤ wr.heap.size) (fun v _ => q - (intOf v).toNat)
  case atStart =>
    have e0 : setF (fun _ => false) = fun _ => none := by funext x; rfl
    exact ⟨0, fun _ => false, 0, rfl, Nat.zero_le _, by rw [List.drop_zero], by omega, by rw [e0]; exact M0.out, B0.out, by have := S0.out; omega⟩
  case round =>
    obtain ⟨j, a, c, rfl, hj, hf, hc, hm, hb, hsz⟩ := hrel
    have HF0 := Lib.hid hf
    by_cases hjq : j < q
    · have hjl : j < l.length := by rw [← HQ.out]; exact hjq
      have hd : l.drop j = l[j] :: l.drop (j + 1) := List.drop_eq_getElem_cons hjl
      have hx := HL.out l[j] (List.getElem_mem _)
      obtain ⟨bx, ox, rfl, hcell⟩ : ∃ b o, A = some ⟨b, o, none⟩ ∧ wr.cell? ⟨b, o + j, none⟩ = some (.int .i64 l[j]) := by
        rcases HS.out.below (HM.out ▸ hb) with h0 | ⟨b, o, e, _, hi⟩
        · have h1 : (ints l).length = l.length := List.length_map ..
          rw [h0, List.length_nil] at h1
          omega
        · exact ⟨b, o, e, by rw [hi j (by simp [ints]; exact hjl)]; simp [ints]⟩
      rw [hd] at HF0
      generalize l[j] = x at *
      have HR := Lib.hid (H.out.below (HM.out ▸ hb))
      obtain ⟨_, _, _, m, vals, h3, h4, h5, h6⟩ := HR.out
      have hmlt : m < M := by have := H.out.lt m h3; rw [HM.out]; exact this
      have hglt : g < M := by rw [HM.out]; exact hlt
      have c0 : wr.cell? ⟨g, 0, none⟩ = some (.int .i64 k) := h4.cell 0
      have c1 : wr.cell? ⟨g, 1, none⟩ = some (.map (some m)) := h4.cell 1
      have hlk := h5.look hx
      have hss := (h6 x).isSome
      rw [hss] at hlk
      generalize (vals x).getD (.slice none 0 0) = v at *
      have z0 : decide ((j : Int) < (q : Int)) = true := by rw [decide_eq_true_eq]; omega
      have z0' : decide (j < q) = true := by rw [decide_eq_true_eq]; exact hjq
      cases hsx : (s x).isSome with
      | true =>
        rw [hsx] at hlk
        have hf1 : fitGo s n k (x :: l.drop (j + 1)) a c = fitGo s n k (l.drop (j + 1)) a c := by rw [fitGo, if_pos hsx]
        have HF := Lib.hid hf1
        have HMp := Lib.hid hm
        have HBb := Lib.hid hb
        clear h4 h5 h6 hf1 hm hb hf hd hss
        go_wp2_with fail
        go_roundw
        case rel => exact ⟨j + 1, a, c, by go_num, by omega, HF0.out.trans HF.out, hc, HMp.out, HBb.out, hsz⟩
        case measure => simp [intOf]; omega
      | false =>
        rw [hsx] at hlk
        obtain ⟨w1, hup, hm1, ht⟩ := hm.put Try.underlying51 hx (.agg #[]) (by unfold maxLen; omega)
        rw [setF_some, setF_set] at hm1
        have hgr := ht.grown
        have hb1 : Below M wr w1 := (Below.refl _ _).grown hgr (by omega) (fun i hi => by injection hi with hi; omega)
        have h51 := h5.keep (hb1.block m hmlt)
        have h41 := h4.keep (hb1.block g hglt)
        have d0 : w1.cell? ⟨g, 0, none⟩ = some (.int .i64 k) := h41.cell 0
        have d1 : w1.cell? ⟨g, 1, none⟩ = some (.map (some m)) := h41.cell 1
        have hl1 : ∀ ty, (Builtin.len_ #[41] ty #[.map (some m)]).run Try.prog w1.drew = .ok (.int .i64 n) w1.drew := fun ty => (h51.keep (w' := w1.drew) rfl).len Try.underlying41 ty
        obtain ⟨c', hc'⟩ : ∃ c', c' = if a x then c else c + 1 := ⟨_, rfl⟩
        rw [← hc'] at hm1
        have hcc : c' ≤ c + 1 := by rw [hc']; split <;> omega
        have hl2 : ∀ ty, (Builtin.len_ #[51] ty #[.map (some M)]).run Try.prog w1.drew = .ok (.int .i64 c') w1.drew := fun ty => (hm1.keep (w' := w1.drew) rfl).len Try.underlying51 ty
        have hwr : IntKind.i64.wrap ((n : Int) + (c' : Int)) = ((n + c' : Nat) : Int) := by rw [IntKind.wrap_i64]; omega
        have HMp := Lib.hid hm1
        have HBb := Lib.hid (hb.trans hb1)
        have hsz1 : M + 1 ≤ w1.heap.size := Nat.le_trans hsz hb1.size
        have hf1 : fitGo s n k (x :: l.drop (j + 1)) a c = if k < n + c' then false else fitGo s n k (l.drop (j + 1)) (fun y => decide (y = x) || a y) c' := by rw [fitGo, hsx, if_neg (by decide), ← hc']
        have HF := Lib.hid hf1
        clear h4 h5 h6 h51 h41 hm1 hb1 hgr ht hm hb hf hd hss hf1 hc'
        obtain ⟨nc, hnc⟩ : ∃ nc, nc = n + c' := ⟨_, rfl⟩
        have HNC := Lib.hid hnc
        rw [← hnc] at hwr HF
        clear hnc
        by_cases hlt2 : k < nc
        · have z1 : decide (((k : Nat) : Int) < ((nc : Nat) : Int)) = true := by rw [decide_eq_true_eq]; omega
          have z1' : decide (k < nc) = true := by rw [decide_eq_true_eq]; exact hlt2
          go_wp2_with fail
          go_region
          go_wp2_with fail
          go_returns
          refine ⟨?_, HBb.out.drew⟩
          rw [HF0.out, HF.out, if_pos hlt2]
          rfl
        · have z1 : decide (((k : Nat) : Int) < ((nc : Nat) : Int)) = false := by rw [decide_eq_false_iff_not]; omega
          have z1' : decide (k < nc) = false := by rw [decide_eq_false_iff_not]; exact hlt2
          have hle2 : nc ≤ k := by omega
          go_wp2_with fail
          go_region
          go_wp2_with fail
          go_roundw
          case rel => exact ⟨j + 1, _, c', by go_num, by omega, by rw [HF0.out, HF.out, if_neg hlt2], by have := HNC.out; omega, HMp.out.keep rfl, HBb.out.drew, hsz1⟩
          case measure => simp [intOf]; omega
    · have hjq' : j = q := by omega
      have z0 : decide ((j : Int) < (q : Int)) = false := by rw [decide_eq_false_iff_not]; omega
      have z0' : decide (j < q) = false := by rw [decide_eq_false_iff_not]; exact hjq
      have HBb := Lib.hid hb
      have hd : l.drop j = [] := List.drop_eq_nil_of_le (by rw [hjq', HQ.out]; exact Nat.le_refl _)
      rw [hd] at HF0
      clear hm hb hf hd
      go_wp2_with fail
      go_returns
      refine ⟨?_, HBb.out⟩
      rw [HF0.out, show fitGo s n k [] a c = true by simp [fitGo]]
      rfl
end Go.Proofs.Ytfpkbgbkamjbeaa
