/- The program's platter: Fail. -/
import Derived.Test.YtaainefdjbmekaaSbd
import Derived.Test.YtaainefdjbmekaaSbf
import Derived.BigRegion
namespace Go.Proofs.Ytaainefdjbmekaa
open Go.RowKit Go.Maps
theorem due_more (st : PSt) (l : List (Int × Int)) (f : Int × Int) (k j : Nat) : (st.plans (l ++ [f])).due k j = ((st.plans l).due k j || (f.1 == (k : Int) && f.2 == (j : Int) - (st.ops k : Int))) := by
  unfold PSt.due PSt.plans
  simp [List.any_append]
theorem wrap_sum {a b : Int} (ha : -9223372036854775808 ≤ a ∧ a ≤ 9223372036854775807) (hb : 0 ≤ b ∧ b < 1000000) : -9223372036854775808 ≤ wrap64 (a + b) ∧ wrap64 (a + b) ≤ 9223372036854775807 ∧ (wrap64 (a + b) = a + b ∨ (wrap64 (a + b) < 0 ∧ 9223372036854775807 < a + b)) := by
  rw [← IntWalk.i64_left, IntKind.wrap_i64]; omega
section
variable {w w' : World} {F G : Nat → Prop} {g : Nat} {st : PSt} {Bv Cv : Value} {bm : Nat} {Pm : Option Nat} {D E : DataW Unit}
theorem DevS.fresh (h : DevS w F g st Bv Cv bm Pm D E) :
    DevS ((w.setCell ⟨g, 3, none⟩ (.map (some w.heap.size))).alloc (.map #[] 0)) (fun b => F b ∨ b = w.heap.size) g (st.plans []) Bv Cv bm (some w.heap.size) D (.map []) ∧ Chg F w ((w.setCell ⟨g, 3, none⟩ (.map (some w.heap.size))).alloc (.map #[] 0)) := by
  have hgs := h.lt g h.fg
  have far : ∀ i, F i → i ≠ g → ((w.setCell ⟨g, 3, none⟩ (.map (some w.heap.size))).alloc (.map #[] 0)).heap[i]? = w.heap[i]? := fun i hi hne => by
    rw [Below.heap_alloc _ _ _ (by simpa using h.lt i hi), Below.heap_setCell _ _ _ _ (by simpa using hne)]
  refine ⟨⟨⟨h.wf.b, h.wf.c⟩, fun b hb => ?_, .inl h.fg, ?_, ?_, ?_, .inl h.fm, ownsMap_keep h.M (far bm h.fm (ownsMap_ne h.M h.blk)), h.last, fun b hb => ?_, fun k j _ _ _ _ => rfl⟩, ((Chg.refl F w).setCell (p := ⟨g, 3, none⟩) (.inl h.fg) _).alloc _⟩
  · rcases hb with hb | rfl
    · have := h.lt b hb; simp; omega
    · simp
  · exact (h.blk.set_ 3 (.map (some w.heap.size))).alloc (.map #[] 0)
  · exact (h.B.mono (G := fun b => F b ∨ b = w.heap.size) (fun _ h => .inl h)).keep fun b hb => far b (h.B.mem b hb) fun e => h.B.ne_ h.blk (by decide) (by rw [hb, e])
  · exact (h.C.mono (G := fun b => F b ∨ b = w.heap.size) (fun _ h => .inl h)).keep fun b hb => far b (h.C.mem b hb) fun e => h.C.ne_ h.blk (by decide) (by rw [hb, e])
  · injection hb with hb
    subst hb
    refine ⟨.inr rfl, fun e => ?_, ?_⟩
    · have := h.lt bm h.fm; omega
    · have h1 := World.ownsMap_made (H := Unit) (w.setCell ⟨g, 3, none⟩ (.map (some w.heap.size))) Try.prog 100 unitElem
      have hs : (w.setCell ⟨g, 3, none⟩ (.map (some w.heap.size))).heap.size = w.heap.size := by simp
      rw [hs] at h1
      exact h1
theorem DevS.skip {l : List (Int × Int)} {f : Int × Int} (h : DevS w F g (st.plans l) Bv Cv bm Pm D E) (hf : ¬ (1 ≤ f.1 ∧ f.1 ≤ 3 ∧ 1 ≤ f.2)) : DevS w F g (st.plans (l ++ [f])) Bv Cv bm Pm D E :=
  ⟨⟨h.wf.b, h.wf.c⟩, h.lt, h.fg, h.blk, h.B, h.C, h.fm, h.M, h.last, fun b hb => ⟨(h.P b hb).1, (h.P b hb).2.1, (h.P b hb).2.2.mono (by simp [PSt.plans])⟩, fun k j h1 h2 h3 h4 => by
    rw [due_more, ← h.due k j h1 h2 h3 h4]
    have : (f.1 == (k : Int) && f.2 == (j : Int) - (st.ops k : Int)) = false := by
      have h3' : st.ops k < j := h3
      cases hc : (f.1 == (k : Int) && f.2 == (j : Int) - (st.ops k : Int)) with
      | false => rfl
      | true => simp at hc; omega
    rw [this, Bool.or_false]⟩
theorem DevS.add {l : List (Int × Int)} {a b : Int} {mb : Nat} (h : DevS w F g (st.plans l) Bv Cv bm (some mb) D E) (ha : 1 ≤ a ∧ a ≤ 3) (hb : -9223372036854775808 ≤ b ∧ b ≤ 9223372036854775807) (hs : st.ops a.toNat < 1000000)
    (hown : w'.ownsMap Try.prog 100 unitElem mb (l.length + 1) (E.put (fk a (wrap64 (b + (st.ops a.toNat : Int)))) (.agg []))) (hg : w.grownBy w' (some mb)) (hz : w'.heap.size = w.heap.size) :
    DevS w' F g (st.plans (l ++ [(a, b)])) Bv Cv bm (some mb) D (E.put (fk a (wrap64 (b + (st.ops a.toNat : Int)))) (.agg [])) := by
  obtain ⟨hFb, hnb, hPb⟩ := h.P mb rfl
  have far : ∀ i, F i → i ≠ mb → w'.heap[i]? = w.heap[i]? := fun i hi hne => hg.block i (h.lt i hi) (fun e => hne (by injection e))
  have hrow : ∀ {e size n : Nat} {v : Value} {xs : List Value}, Row w F e size v n xs → Row w' F e size v n xs := fun hr => hr.keep fun i hi => far i (hr.mem i hi) (fun e => by
    obtain ⟨cur, hc⟩ := hr.blk hi
    exact ownsMap_ne hPb hc e.symm)
  obtain ⟨w1, w2, w3⟩ := wrap_sum (a := b) (b := (st.ops a.toNat : Int)) hb ⟨by omega, by omega⟩
  generalize wrap64 (b + (st.ops a.toNat : Int)) = V at *
  have hkey : WideAt.IsKeyLit (fk a V) := kfault.key (key_fault a V (wf_i64 (by omega) (by omega)) (wf_i64 w1 w2))
  refine ⟨⟨h.wf.b, h.wf.c⟩, fun i hi => by rw [hz]; exact h.lt i hi, h.fg, h.blk.keep (far g h.fg (fun e => ownsMap_ne hPb h.blk e.symm)), hrow h.B, hrow h.C, h.fm, ownsMap_keep h.M (far bm h.fm hnb.symm), h.last, fun i hi => by injection hi with hi; subst hi; exact ⟨hFb, hnb, by simpa [PSt.plans] using hown⟩, fun k j h1 h2 h3 h4 => ?_⟩
  have h3' : st.ops k < j := h3
  rw [due_more, ← h.due k j h1 h2 h3 h4]
  simp only [Option.isSome_some, Bool.true_and]
  by_cases he : fk (k : Int) (j : Int) = fk a V
  · obtain ⟨e1, e2⟩ := fk_inj (wf_i64 (by omega) (by omega)) (wf_i64 (by omega) (by omega)) (wf_i64 (by omega) (by omega)) (wf_i64 w1 w2) he
    rw [he, has_put_same hPb.isMap hkey]
    have : a.toNat = k := by omega
    have hd : (a == (k : Int) && b == (j : Int) - (st.ops k : Int)) = true := by
      rw [this] at w3
      simp; omega
    rw [hd, Bool.or_true]
  · rw [has_put_other he]
    have hd : (a == (k : Int) && b == (j : Int) - (st.ops k : Int)) = false := by
      cases hc : (a == (k : Int) && b == (j : Int) - (st.ops k : Int)) with
      | false => rfl
      | true =>
        exfalso
        simp at hc
        have : a.toNat = k := by omega
        rw [this] at w3
        apply he
        rw [← hc.1]
        congr 1
        omega
    rw [hd, Bool.or_false]
end
theorem lits_sl {w : World} {B : Nat} {K : Option Addr} {l : List (Int × Int)} (h : Sl w B K (planCells l)) {j : Nat} (hj : j < l.length) : ∃ b o, K = some ⟨b, o, none⟩ ∧ b < B ∧ w.cell? ⟨b, o + j * 2, none⟩ = some (.int .i64 l[j].1) ∧ w.cell? ⟨b, o + j * 2 + 1, none⟩ = some (.int .i64 l[j].2) := by
  obtain ⟨p1, p2⟩ := planCells_at hj
  have hlen := planCells_length l
  obtain ⟨b, o, e, hb, hc⟩ := h.at_ (i := j * 2) (by omega)
  refine ⟨b, o, e, hb, ?_, ?_⟩
  · rw [hc (j * 2) (by omega), ← p1, List.getElem?_eq_getElem]
  · rw [show o + j * 2 + 1 = o + (j * 2 + 1) by omega, hc (j * 2 + 1) (by omega), ← p2, List.getElem?_eq_getElem]
set_option maxHeartbeats 4000000 in
theorem dfail_any (g : Nat) (st : PSt) (F : Nat → Prop) (w : World) (h : Dev w F g st) (hs : ∀ k, k ≤ 3 → st.ops k < 1000000)
    (K : Option Addr) (cap : Nat) (l : List (Int × Int)) (hl : l.length < 1000000) (hwf : ∀ f ∈ l, (Lit.int .i64 f.1).wf = true ∧ (Lit.int .i64 f.2).wf = true) (hsl : Sl w w.heap.size K (planCells l)) (hdis : ∀ b o, K = some ⟨b, o, none⟩ → ¬ F b) :
    Calls Try.prog 14 #[.pointer (some ⟨g, 0, none⟩), .slice K l.length cap] w fun e w' => e = .returned (.tuple #[]) ∧ Dev w' (Ext F w w') g (st.plans l) ∧ Chg F w w' := by
  obtain ⟨Bv, Cv, bm, Pm, D, E, h⟩ := h
  have x3 : w.cell? ⟨g, 3, none⟩ = some (.map Pm) := h.blk.cell 3
  have z3 := h.blk.frozen 3
  have hgl := h.lt g h.fg
  have x3a : ∀ o, (w.alloc o).cell? ⟨g, 3, none⟩ = some (.map Pm) := fun o => (h.blk.alloc o).cell 3
  have z3a : ∀ o, (w.alloc o).frozen? ⟨g, 3, none⟩ = false := fun o => (h.blk.alloc o).frozen 3
  obtain ⟨hS0, hc0⟩ := h.fresh
  have hmm := @run_makeMap Try.prog
  have hkind := Lib.hid (fun n w => kind_any n w)
  have HF := Lib.hid h.lt
  have HS0 := Lib.hid hS0
  have Hc0 := Lib.hid hc0
  clear h hS0 hc0
  go_enter Try.func14, Try.ntmps14
  go_wp2_with fail
  go_loopw [14] (fun i wr => ∃ (j : Nat) (E : DataW Unit), j ≤ l.length ∧ i = .int .i64 j ∧ DevS wr (fun b => F b ∨ b = w.heap.size) g (st.plans (l.take j)) Bv Cv bm (some w.heap.size) D E ∧ Chg F w wr) (fun i _ => l.length - (intOf i).toNat)
  case atStart => exact ⟨0, .map [], Nat.zero_le _, rfl, HS0.out, Hc0.out⟩
  case round =>
    obtain ⟨j, E1, hj, rfl, hS, hcr⟩ := hrel
    clear x3 z3 x3a z3a hmm
    by_cases hlt2 : j < l.length
    · obtain ⟨kb, ko, rfl, hkb, y0, y1⟩ := lits_sl hsl hlt2
      have hkc : wr.heap[kb]? = w.heap[kb]? := hcr.block kb hkb (hdis kb ko rfl)
      have y0' := (World.cell?_of_block hkc (a := ⟨kb, ko + j * 2, none⟩)).trans y0
      have y1' := (World.cell?_of_block hkc (a := ⟨kb, ko + j * 2 + 1, none⟩)).trans y1
      have htake : l.take (j + 1) = l.take j ++ [(l[j].1, l[j].2)] := by rw [List.take_succ_eq_append_getElem hlt2]
      have hwfj := hwf l[j] (List.getElem_mem _)
      generalize l[j].1 = a at *
      generalize l[j].2 = b at *
      clear y0 y1
      have HS := Lib.hid hS
      have Hcr := Lib.hid hcr
      have skipS : ¬ (1 ≤ a ∧ a ≤ 3 ∧ 1 ≤ b) → DevS (wr.alloc (.cells #[.int .i64 a, .int .i64 b] 100)) (fun b => F b ∨ b = w.heap.size) g (st.plans (l.take (j + 1))) Bv Cv bm (some w.heap.size) D E1 ∧ Chg F w (wr.alloc (.cells #[.int .i64 a, .int .i64 b] 100)) := fun hno => by
        rw [htake]
        exact ⟨(HS.out.skip (f := (a, b)) hno).alloc _, Hcr.out.alloc _⟩
      have Hsk := Lib.hid skipS
      have Htk := Lib.hid htake
      clear hS hcr skipS htake
      cases hk : (decide (1 ≤ a) && decide (a ≤ 3)) with
      | false =>
        go_wp2_with (go_at_call 35; refine (hkind.out _ _).mono ?_; rintro e w' ⟨rfl, rfl⟩; rw [hk])
        go_roundw
        case rel => exact ⟨j + 1, _, by omega, by go_num, (Hsk.out (by simp at hk; omega)).1, (Hsk.out (by simp at hk; omega)).2⟩
        case measure => simp [intOf]; omega
      | true =>
        cases hb1 : decide (b < 1) with
        | true =>
          go_wp2_with (go_at_call 35; refine (hkind.out _ _).mono ?_; rintro e w' ⟨rfl, rfl⟩; rw [hk])
          go_roundw
          case rel => exact ⟨j + 1, _, by omega, by go_num, (Hsk.out (by simp at hb1; omega)).1, (Hsk.out (by simp at hb1; omega)).2⟩
          case measure => simp [intOf]; omega
        | false =>
          clear Hsk
          have ha : 1 ≤ a ∧ a ≤ 3 := by simpa using hk
          have hbw := wf_int64 hwfj.2
          have hsa := hs a.toNat (by omega)
          have hcases : a = 1 ∨ a = 2 ∨ a = 3 := by omega
          rcases hcases with rfl | rfl | rfl
          · go_wp2_with (go_at_call 35; refine (hkind.out _ _).mono ?_; rintro e w' ⟨rfl, rfl⟩; rw [hk])
            have hS1 := HS.out.alloc (.cells #[.int .i64 1, .int .i64 b] 100)
            have hc1 : Chg F w _ := Hcr.out.alloc (.cells #[.int .i64 1, .int .i64 b] 100)
            have hb1k : Blk _ wr.heap.size 100 #[.int .i64 1, .int .i64 b] := Blk.new wr _ _
            have hmF : ∀ i, (F i ∨ i = w.heap.size) → i ≠ wr.heap.size := fun i hi => Nat.ne_of_lt (HS.out.lt i hi)
            generalize (wr.alloc (.cells #[.int .i64 1, .int .i64 b] 100)) = W1 at *
            have hmw : w.heap.size ≤ wr.heap.size := Hcr.out.size
            generalize wr.heap.size = m at *
            have q1 : W1.cell? ⟨g, 5, none⟩ = some (.int .i64 (st.ops 1 : Int)) := hS1.blk.cell 5
            have q2 : W1.cell? ⟨g, 6, none⟩ = some (.int .i64 (st.ops 2 : Int)) := hS1.blk.cell 6
            have q3 : W1.cell? ⟨g, 7, none⟩ = some (.int .i64 (st.ops 3 : Int)) := hS1.blk.cell 7
            have r0 := hb1k.cell 0
            have r1 := hb1k.cell 1
            have rf := hb1k.frozen 1
            simp at r0 r1
            go_region
            go_wp2_with fail
            have hs1 := hs 1 (by omega)
            obtain ⟨v1, v2, _⟩ := wrap_sum hbw (b := (st.ops 1 : Int)) ⟨by omega, by omega⟩
            have hS2 := hS1.keep (w' := (W1.setCell ⟨m, 1, none⟩ (.int .i64 (wrap64 (b + (st.ops 1 : Int))))).drew) (by simp) (fun i hi => Below.heap_setCell _ _ _ _ (hmF i hi))
            have hc2 : Chg F w (W1.setCell ⟨m, 1, none⟩ (.int .i64 (wrap64 (b + (st.ops 1 : Int))))).drew := (hc1.setCell (p := ⟨m, 1, none⟩) (.inr hmw) _).drew
            have hb2k : Blk (W1.setCell ⟨m, 1, none⟩ (.int .i64 (wrap64 (b + (st.ops 1 : Int))))).drew m 100 _ := hb1k.set_ 1 (.int .i64 (wrap64 (b + (st.ops 1 : Int))))
            generalize (W1.setCell ⟨m, 1, none⟩ (.int .i64 (wrap64 (b + (st.ops 1 : Int))))).drew = W2 at *
            have s3 : W2.cell? ⟨g, 3, none⟩ = some (.map (some w.heap.size)) := hS2.blk.cell 3
            have s0 : W2.cell? ⟨m, 0, none⟩ = some (.int .i64 1) := hb2k.cell 0
            have s1 : W2.cell? ⟨m, 1, none⟩ = some (.int .i64 (wrap64 (b + (st.ops 1 : Int)))) := hb2k.cell 1
            obtain ⟨hFm, hmb, hown⟩ := hS2.P _ rfl
            obtain ⟨W3, hrun, hown3, hturn⟩ := (World.ownsMap.drew hown).store kfault Try.underlying95 (by simp [PSt.plans, maxLen]; omega) (key_fault 1 (wrap64 (b + (st.ops 1 : Int))) (by decide) (wf_i64 v1 v2)) unitElem_mk
            have HS2 := Lib.hid hS2
            have Hc2 := Lib.hid hc2
            have Ho := Lib.hid hown3
            have Hu := Lib.hid hturn
            clear hS1 hc1 hb1k hb2k hS2 hc2 hown hown3 hturn r0 r1 rf q1 q2 q3
            go_region
            go_wp2_with fail
            go_roundw
            case rel =>
              have hadd := DevS.add (w' := W3) HS2.out.drew ha hbw hsa (by simpa [PSt.plans] using Ho.out) Hu.out.grown (turned_size Hu.out)
              rw [← Htk.out] at hadd
              refine ⟨j + 1, _, by omega, by go_num, hadd, Hc2.out.drew.grown Hu.out.grown (fun k hk => .inr (by injection hk with hk; omega))⟩
            case measure => simp [intOf]; omega
          · go_wp2_with (go_at_call 35; refine (hkind.out _ _).mono ?_; rintro e w' ⟨rfl, rfl⟩; rw [hk])
            have hS1 := HS.out.alloc (.cells #[.int .i64 2, .int .i64 b] 100)
            have hc1 : Chg F w _ := Hcr.out.alloc (.cells #[.int .i64 2, .int .i64 b] 100)
            have hb1k : Blk _ wr.heap.size 100 #[.int .i64 2, .int .i64 b] := Blk.new wr _ _
            have hmF : ∀ i, (F i ∨ i = w.heap.size) → i ≠ wr.heap.size := fun i hi => Nat.ne_of_lt (HS.out.lt i hi)
            generalize (wr.alloc (.cells #[.int .i64 2, .int .i64 b] 100)) = W1 at *
            have hmw : w.heap.size ≤ wr.heap.size := Hcr.out.size
            generalize wr.heap.size = m at *
            have q1 : W1.cell? ⟨g, 5, none⟩ = some (.int .i64 (st.ops 1 : Int)) := hS1.blk.cell 5
            have q2 : W1.cell? ⟨g, 6, none⟩ = some (.int .i64 (st.ops 2 : Int)) := hS1.blk.cell 6
            have q3 : W1.cell? ⟨g, 7, none⟩ = some (.int .i64 (st.ops 3 : Int)) := hS1.blk.cell 7
            have r0 := hb1k.cell 0
            have r1 := hb1k.cell 1
            have rf := hb1k.frozen 1
            simp at r0 r1
            go_region
            go_wp2_with fail
            have hs2 := hs 2 (by omega)
            obtain ⟨v1, v2, _⟩ := wrap_sum hbw (b := (st.ops 2 : Int)) ⟨by omega, by omega⟩
            have hS2 := hS1.keep (w' := (W1.setCell ⟨m, 1, none⟩ (.int .i64 (wrap64 (b + (st.ops 2 : Int))))).drew) (by simp) (fun i hi => Below.heap_setCell _ _ _ _ (hmF i hi))
            have hc2 : Chg F w (W1.setCell ⟨m, 1, none⟩ (.int .i64 (wrap64 (b + (st.ops 2 : Int))))).drew := (hc1.setCell (p := ⟨m, 1, none⟩) (.inr hmw) _).drew
            have hb2k : Blk (W1.setCell ⟨m, 1, none⟩ (.int .i64 (wrap64 (b + (st.ops 2 : Int))))).drew m 100 _ := hb1k.set_ 1 (.int .i64 (wrap64 (b + (st.ops 2 : Int))))
            generalize (W1.setCell ⟨m, 1, none⟩ (.int .i64 (wrap64 (b + (st.ops 2 : Int))))).drew = W2 at *
            have s3 : W2.cell? ⟨g, 3, none⟩ = some (.map (some w.heap.size)) := hS2.blk.cell 3
            have s0 : W2.cell? ⟨m, 0, none⟩ = some (.int .i64 2) := hb2k.cell 0
            have s1 : W2.cell? ⟨m, 1, none⟩ = some (.int .i64 (wrap64 (b + (st.ops 2 : Int)))) := hb2k.cell 1
            obtain ⟨hFm, hmb, hown⟩ := hS2.P _ rfl
            obtain ⟨W3, hrun, hown3, hturn⟩ := (World.ownsMap.drew hown).store kfault Try.underlying95 (by simp [PSt.plans, maxLen]; omega) (key_fault 2 (wrap64 (b + (st.ops 2 : Int))) (by decide) (wf_i64 v1 v2)) unitElem_mk
            have HS2 := Lib.hid hS2
            have Hc2 := Lib.hid hc2
            have Ho := Lib.hid hown3
            have Hu := Lib.hid hturn
            clear hS1 hc1 hb1k hb2k hS2 hc2 hown hown3 hturn r0 r1 rf q1 q2 q3
            go_region
            go_wp2_with fail
            go_roundw
            case rel =>
              have hadd := DevS.add (w' := W3) HS2.out.drew ha hbw hsa (by simpa [PSt.plans] using Ho.out) Hu.out.grown (turned_size Hu.out)
              rw [← Htk.out] at hadd
              refine ⟨j + 1, _, by omega, by go_num, hadd, Hc2.out.drew.grown Hu.out.grown (fun k hk => .inr (by injection hk with hk; omega))⟩
            case measure => simp [intOf]; omega
          · go_wp2_with (go_at_call 35; refine (hkind.out _ _).mono ?_; rintro e w' ⟨rfl, rfl⟩; rw [hk])
            have hS1 := HS.out.alloc (.cells #[.int .i64 3, .int .i64 b] 100)
            have hc1 : Chg F w _ := Hcr.out.alloc (.cells #[.int .i64 3, .int .i64 b] 100)
            have hb1k : Blk _ wr.heap.size 100 #[.int .i64 3, .int .i64 b] := Blk.new wr _ _
            have hmF : ∀ i, (F i ∨ i = w.heap.size) → i ≠ wr.heap.size := fun i hi => Nat.ne_of_lt (HS.out.lt i hi)
            generalize (wr.alloc (.cells #[.int .i64 3, .int .i64 b] 100)) = W1 at *
            have hmw : w.heap.size ≤ wr.heap.size := Hcr.out.size
            generalize wr.heap.size = m at *
            have q1 : W1.cell? ⟨g, 5, none⟩ = some (.int .i64 (st.ops 1 : Int)) := hS1.blk.cell 5
            have q2 : W1.cell? ⟨g, 6, none⟩ = some (.int .i64 (st.ops 2 : Int)) := hS1.blk.cell 6
            have q3 : W1.cell? ⟨g, 7, none⟩ = some (.int .i64 (st.ops 3 : Int)) := hS1.blk.cell 7
            have r0 := hb1k.cell 0
            have r1 := hb1k.cell 1
            have rf := hb1k.frozen 1
            simp at r0 r1
            go_region
            go_wp2_with fail
            have hs3 := hs 3 (by omega)
            obtain ⟨v1, v2, _⟩ := wrap_sum hbw (b := (st.ops 3 : Int)) ⟨by omega, by omega⟩
            have hS2 := hS1.keep (w' := (W1.setCell ⟨m, 1, none⟩ (.int .i64 (wrap64 (b + (st.ops 3 : Int))))).drew) (by simp) (fun i hi => Below.heap_setCell _ _ _ _ (hmF i hi))
            have hc2 : Chg F w (W1.setCell ⟨m, 1, none⟩ (.int .i64 (wrap64 (b + (st.ops 3 : Int))))).drew := (hc1.setCell (p := ⟨m, 1, none⟩) (.inr hmw) _).drew
            have hb2k : Blk (W1.setCell ⟨m, 1, none⟩ (.int .i64 (wrap64 (b + (st.ops 3 : Int))))).drew m 100 _ := hb1k.set_ 1 (.int .i64 (wrap64 (b + (st.ops 3 : Int))))
            generalize (W1.setCell ⟨m, 1, none⟩ (.int .i64 (wrap64 (b + (st.ops 3 : Int))))).drew = W2 at *
            have s3 : W2.cell? ⟨g, 3, none⟩ = some (.map (some w.heap.size)) := hS2.blk.cell 3
            have s0 : W2.cell? ⟨m, 0, none⟩ = some (.int .i64 3) := hb2k.cell 0
            have s1 : W2.cell? ⟨m, 1, none⟩ = some (.int .i64 (wrap64 (b + (st.ops 3 : Int)))) := hb2k.cell 1
            obtain ⟨hFm, hmb, hown⟩ := hS2.P _ rfl
            obtain ⟨W3, hrun, hown3, hturn⟩ := (World.ownsMap.drew hown).store kfault Try.underlying95 (by simp [PSt.plans, maxLen]; omega) (key_fault 3 (wrap64 (b + (st.ops 3 : Int))) (by decide) (wf_i64 v1 v2)) unitElem_mk
            have HS2 := Lib.hid hS2
            have Hc2 := Lib.hid hc2
            have Ho := Lib.hid hown3
            have Hu := Lib.hid hturn
            clear hS1 hc1 hb1k hb2k hS2 hc2 hown hown3 hturn r0 r1 rf q1 q2 q3
            go_region
            go_wp2_with fail
            go_roundw
            case rel =>
              have hadd := DevS.add (w' := W3) HS2.out.drew ha hbw hsa (by simpa [PSt.plans] using Ho.out) Hu.out.grown (turned_size Hu.out)
              rw [← Htk.out] at hadd
              refine ⟨j + 1, _, by omega, by go_num, hadd, Hc2.out.drew.grown Hu.out.grown (fun k hk => .inr (by injection hk with hk; omega))⟩
            case measure => simp [intOf]; omega
    · have hjl : j = l.length := by omega
      subst hjl
      go_wp2_with fail
      refine bodyPost_end (results_none rfl _ _ _) rfl ?_
      rw [List.take_length] at hS
      refine ⟨rfl, Dev.mono ⟨_, _, _, _, _, _, hS⟩ (fun b hb => ?_) (ext_lt HF.out hcr.size), hcr⟩
      have := hS.lt b hb
      rcases hb with hb | rfl
      · exact .inl hb
      · exact .inr ⟨Nat.le_refl _, this⟩
end Go.Proofs.Ytaainefdjbmekaa
