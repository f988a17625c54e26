/- The statements' Few. do, at any deed. -/
import Derived.Test.YtlcchefiicalpaaZpdi
import Derived.Test.YtlcchefiicalpaaZpdj
namespace Go.Proofs.Ytlcchefiicalpaa
open Go.RowKit
set_option maxRecDepth 8000 in
set_option maxHeartbeats 8000000 in
theorem dfew_any {w : World} {A : Option Addr} {c : Nat} {l : List Tr.Dv} (h : DvsAt w w.heap.size A l) (hf : ∀ x ∈ l, x.few) (hml : l.length ≤ maxLen) :
    Calls Try.prog 31 #[.slice A l.length c] w fun e w' => e = .returned (.bool (decide (Tr.FewP l))) ∧ Below w.heap.size w w' := by
  obtain ⟨B, hB⟩ : ∃ B, w.heap.size = B := ⟨_, rfl⟩
  rw [hB] at h ⊢
  have HB := Lib.hid (show Below B w w from .refl _ _)
  have HD := Lib.hid h
  have HF := Lib.hid hf
  obtain ⟨q, hq⟩ : ∃ q, l.length = q := ⟨_, rfl⟩
  rw [hq] at hml ⊢
  have Hq := Lib.hid hq
  unfold maxLen at hml
  clear h hf hq hB
  go_enter Try.func31, Try.ntmps31
  by_cases h30 : q ≤ 30
  · go_wp2_with fail
    go_loopw [3, 4] (fun v3 v4 wr => ∃ i m : Nat, v4 = .int .i64 (i : Int) ∧ i ≤ q ∧ v3 = .int .i64 (Tr.sumD (l.take i) : Int) ∧ wr = w.drewN m) (fun _ v4 _ => q - (intOf v4).toNat)
    case atStart => exact ⟨0, 0, rfl, Nat.zero_le _, rfl, (drewN_zeroN w).symm⟩
    case round =>
      obtain ⟨i, m, rfl, hi, rfl, rfl⟩ := hrel
      by_cases hik : i < q
      · have z0 : decide ((i : Int) < (q : Int)) = true := by rw [decide_eq_true_eq]; omega
        have z0' : decide (i < q) = true := by rw [decide_eq_true_eq]; exact hik
        have hki : (i : Int) < (q : Int) := by omega
        have hil : i < l.length := by rw [Hq.out]; exact hik
        obtain ⟨g, o, rfl, -, c0, c1, c2⟩ := HD.out.at_ hil
        have hfx := HF.out _ (List.getElem_mem hil)
        have hsn := Tr.sum_next hil
        have hsl : Tr.sumD (l.take i) ≤ i * 281474976710656 := by
          have := Tr.sum_le (l := l.take i) fun x hx => HF.out x (List.mem_of_mem_take hx)
          rw [List.length_take, Nat.min_eq_left (by omega)] at this
          exact this
        unfold Tr.Dv.few at hfx
        unfold Tr.Dd.n at hsn
        obtain ⟨s, hs⟩ : ∃ s, Tr.sumD (l.take i) = s := ⟨_, rfl⟩
        obtain ⟨s', hs'⟩ : ∃ s, Tr.sumD (l.take (i + 1)) = s := ⟨_, rfl⟩
        rw [hs] at hsn hsl ⊢
        rw [hs'] at hsn
        have Hs' := Lib.hid hs'
        clear hs hs' c0
        generalize l[i].d.put.length = np at *
        generalize l[i].d.keys.length = nk at *
        generalize l[i].P = P0 at *
        generalize l[i].K = K0 at *
        generalize l[i].cp = cp at *
        generalize l[i].ck = ck at *
        have w1 : IntKind.i64.wrap ((s : Int) + (np : Int)) = (s : Int) + (np : Int) := IntWalk.i64_in _ (by omega)
        have w2 : IntKind.i64.wrap ((s : Int) + (np : Int) + (nk : Int)) = (s' : Int) := by rw [IntWalk.i64_in _ (by omega)]; omega
        clear hil hsn hsl
        go_wp2_with fail
        go_quiet (fail)
        go_wp2_with fail
        go_roundw
        case rel => exact ⟨i + 1, _, by go_num, by omega, by rw [Hs'.out], rfl⟩
        case measure => simp [intOf]; omega
      · have hik' : i = q := by omega
        have z0 : decide ((i : Int) < (q : Int)) = false := by rw [decide_eq_false_iff_not]; omega
        have z0' : decide (i < q) = false := by rw [decide_eq_false_iff_not]; exact hik
        have ht : l.take i = l := List.take_of_length_le (by rw [Hq.out]; omega)
        obtain ⟨s, hs⟩ : ∃ s, Tr.sumD (l.take i) = s := ⟨_, rfl⟩
        rw [hs]
        rw [ht] at hs
        have z1 : decide ((q : Int) ≤ 30) = true := by rw [decide_eq_true_eq]; omega
        have z1' : decide (q ≤ 30) = true := by rw [decide_eq_true_eq]; omega
        have Hfp := Lib.hid (show decide ((s : Int) ≤ 300) = decide (Tr.FewP l) from decide_eq_decide.2 ⟨fun h => ⟨by rw [Hq.out]; exact h30, by rw [hs]; omega⟩, fun h => by have := h.2; rw [hs] at this; omega⟩)
        clear hs ht
        go_wp2_with fail
        go_returns
        have := HB.out
        exact ⟨congrArg (fun b => Ending.returned (Value.bool b)) Hfp.out, ⟨this.os, this.tape, this.output, this.size, this.block⟩⟩
  · go_wp2_with fail
    go_loopw [3, 4] (fun v3 v4 wr => ∃ i m : Nat, ∃ z : Int, v4 = .int .i64 (i : Int) ∧ i ≤ q ∧ v3 = .int .i64 z ∧ wr = w.drewN m) (fun _ v4 _ => q - (intOf v4).toNat)
    case atStart => exact ⟨0, 0, 0, rfl, Nat.zero_le _, rfl, (drewN_zeroN w).symm⟩
    case round =>
      obtain ⟨i, m, z, rfl, hi, rfl, rfl⟩ := hrel
      by_cases hik : i < q
      · have z0 : decide ((i : Int) < (q : Int)) = true := by rw [decide_eq_true_eq]; omega
        have z0' : decide (i < q) = true := by rw [decide_eq_true_eq]; exact hik
        have hki : (i : Int) < (q : Int) := by omega
        have hil : i < l.length := by rw [Hq.out]; exact hik
        obtain ⟨g, o, rfl, -, c0, c1, c2⟩ := HD.out.at_ hil
        clear c0
        generalize l[i].d.put.length = np at *
        generalize l[i].d.keys.length = nk at *
        generalize l[i].P = P0 at *
        generalize l[i].K = K0 at *
        generalize l[i].cp = cp at *
        generalize l[i].ck = ck at *
        clear hil
        go_wp2_with fail
        go_quiet (fail)
        go_wp2_with fail
        go_roundw
        case rel => exact ⟨i + 1, _, _, by go_num, by omega, rfl, rfl⟩
        case measure => simp [intOf]; omega
      · have hik' : i = q := by omega
        have z0 : decide ((i : Int) < (q : Int)) = false := by rw [decide_eq_false_iff_not]; omega
        have z0' : decide (i < q) = false := by rw [decide_eq_false_iff_not]; exact hik
        have hfp : decide (Tr.FewP l) = false := by
          rw [decide_eq_false_iff_not]
          unfold Tr.FewP
          rw [Hq.out]
          omega
        have Hfp := Lib.hid hfp
        have z1 : decide ((q : Int) ≤ 30) = false := by rw [decide_eq_false_iff_not]; omega
        have z1' : decide (q ≤ 30) = false := by rw [decide_eq_false_iff_not]; omega
        clear hfp hik'
        go_wp2_with fail
        go_returns
        have := HB.out
        exact ⟨congrArg (fun b => Ending.returned (Value.bool b)) Hfp.out.symm, ⟨this.os, this.tape, this.output, this.size, this.block⟩⟩
theorem Tr.sum_take (l : List Tr.Dv) (i : Nat) : Tr.sumD (l.take i) ≤ Tr.sumD l := by
  conv => rhs; rw [← List.take_append_drop i l]
  unfold Tr.sumD
  rw [List.map_append, List.sum_append]
  omega
theorem Tr.on_len (x : Tr.Dd) (m : List Tr.E) : (x.on m).length ≤ m.length + x.n := by
  unfold Tr.Dd.on Tr.Dd.n
  split
  · split
    · have := Tr.cuts_len m x.keys; omega
    · have := Tr.puts_len m x.put; omega
  · omega
end Go.Proofs.Ytlcchefiicalpaa
namespace Go.Proofs.Ytlcchefiicalpaa
open Go.RowKit
/-- do, at any deed. -/
theorem doO_mono {p : Nat} {w : World} {X G : Nat → Prop} {st : Tr.MSt} {n n' : Nat} {m : List Tr.E} {e : Ending} {w' : World} (h : DoO p w X G st n m e w') (hn : n ≤ n') : DoO p w X G st n' m e w' := by
  obtain ⟨X', st', k', h', D, d, e1, e2, e3, ⟨q, e4, e5⟩, e6, e7⟩ := h
  exact ⟨X', st', k', h', D, d, e1, e2, e3, ⟨q, e4, Nat.le_trans e5 hn⟩, e6, e7⟩
theorem do_any {p : Nat} {w : World} {X G : Nat → Prop} {st : Tr.MSt} {k : Nd.T3} {h : Int} {m : List Tr.E} {N : Nat} {D0 : Option Addr} {d0 : Nat} (x : Tr.Dv) (hr : MRep p w X st) (hc : Tr.Calm st N) (hk : Tr.RootOk st.L k h m)
    (hG : ∀ b, G b → b < w.heap.size) (hm : Fast (fun b => X b ∨ G b) w fun u => SlC u u.heap.size D0 d0 m.length (evs m)) (hx : Fast X w fun u => x.ok u u.heap.size) (hml : m.length ≤ 100000) (hn : x.d.n ≤ 300) (hN : N + (15 * x.d.n + 6) ≤ 8000) :
    Calls Try.prog 33 #[.pointer (some ⟨p, 0, none⟩), Tr.rootV k h, .agg #[.slice D0 m.length d0], .agg x.cells] w (DoO p w X G st (15 * x.d.n + 6) (x.d.on m)) := by
  rcases x with ⟨⟨cut, L, ks⟩, P, cp, K, ck⟩
  have hn : L.length + ks.length ≤ 300 := hn
  have hN : N + (15 * (L.length + ks.length) + 6) ≤ 8000 := hN
  show Calls _ _ _ _ (DoO p w X G st (15 * (L.length + ks.length) + 6) _)
  cases cut with
  | true =>
    have := do_cut hr hc hk hG hm (hx.mono fun _ h => h.p) (hx.mono fun _ h => h.k) hml (show L.length ≤ 300 by omega) (show ks.length ≤ 300 by omega) hN
    refine this.mono fun e w' he => doO_mono ?_ (show 15 * ks.length + 6 ≤ _ by omega)
    have e1 : Tr.Dd.on ⟨true, L, ks⟩ m = if Tr.KeysOk ks then Tr.cuts m ks else m := by
      by_cases h : Tr.KeysOk ks
      · rw [if_pos h]; unfold Tr.Dd.on; rw [if_pos (show Tr.Dd.ok ⟨true, L, ks⟩ from h)]; rfl
      · rw [if_neg h]; unfold Tr.Dd.on; rw [if_neg (show ¬ Tr.Dd.ok ⟨true, L, ks⟩ from h)]
    rw [e1]
    exact he
  | false =>
    have := do_put hr hc hk hG hm (hx.mono fun _ h => h.p) (hx.mono fun _ h => h.k) hml (show L.length ≤ 300 by omega) (show ks.length ≤ 300 by omega) hN
    refine this.mono fun e w' he => doO_mono ?_ (show 15 * L.length + 6 ≤ _ by omega)
    have e1 : Tr.Dd.on ⟨false, L, ks⟩ m = if Tr.OkL L then Tr.puts m L else m := by
      by_cases h : Tr.OkL L
      · rw [if_pos h]; unfold Tr.Dd.on; rw [if_pos (show Tr.Dd.ok ⟨false, L, ks⟩ from h)]; rfl
      · rw [if_neg h]; unfold Tr.Dd.on; rw [if_neg (show ¬ Tr.Dd.ok ⟨false, L, ks⟩ from h)]
    rw [e1]
    exact he
end Go.Proofs.Ytlcchefiicalpaa
