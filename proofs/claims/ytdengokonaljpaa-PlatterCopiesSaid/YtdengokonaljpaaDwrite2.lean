/- The program's platter: Write, as a whole. -/
import Derived.Test.YtdengokonaljpaaDwrite
import Derived.Test.YtdengokonaljpaaDcall
namespace Go.Proofs.Ytdengokonaljpaa
open Go.RowKit Go.Maps

theorem enter_write1 (cap : Array Value) (w : World) : (callFunc 39 cap).run Try.prog w = .ok (.enter 39 cap) w := by
  first | kernel_rfl | simp [go_sem, Try.func39]
set_option maxHeartbeats 2000000 in
theorem dwrite_any (g : Nat) (st : PSt) (F : Nat → Prop) (w : World) (h : Dev w F g st) (hs : st.ops 2 < 1000000) (hcl : st.cache.length < 1000000) (hbl : st.blocks.length < 1000000)
    (n : Int) (B : Option Addr) (cap : Nat) (l : List Nat) (hl : ∀ x ∈ l, x < 256) (hsl : Sl w w.heap.size B (byts l)) (hdis : ∀ b o, B = some ⟨b, o, none⟩ → ¬ F b) :
    Calls Try.prog 18 #[.pointer (some ⟨g, 0, none⟩), .int .i64 n, .slice B l.length cap] w fun e w' =>
      e = .returned (.int .i64 (st.write n l).1) ∧ Dev w' (Ext F w w') g (st.write n l).2 ∧ Chg F w w' := by
  have hmf : ∀ (fn : Fn) (first cap : Array Value) (w : World), (Instr.makeFunc fn first cap).run Try.prog w = .ok (.func fn first cap) w := fun _ _ _ _ => rfl
  generalize hw1 : ((w.alloc (.cells #[.pointer (some ⟨g, 0, none⟩)] 24)).alloc (.cells #[.int .i64 n] 3)).alloc (.cells #[.slice B l.length cap] 49) = w1
  have hz1 : w1.heap.size = w.heap.size + 3 := by rw [← hw1]; simp
  have hb1 : Below w.heap.size w w1 := by rw [← hw1]; exact ((((Below.refl _ _).alloc (Nat.le_refl _) _).alloc (by simp) _).alloc (by simp; omega) _)
  have hF := h.lt
  have h1 : Dev w1 F g st := h.keep (by omega) (fun b hb => hb1.block b (hF b hb))
  have e3 : w1.cell? ⟨w.heap.size, 0, none⟩ = some (.pointer (some ⟨g, 0, none⟩)) := by rw [← hw1]; simp [go_sem]
  have e4 : w1.cell? ⟨w.heap.size + 1, 0, none⟩ = some (.int .i64 n) := by rw [← hw1]; simp [go_sem]
  have e5 : w1.cell? ⟨w.heap.size + 2, 0, none⟩ = some (.slice B l.length cap) := by rw [← hw1]; simp [go_sem]
  by_cases hhit : (st.count 2).hit 2 = true
  · have hw : st.write n l = (6, st.count 2) := by unfold PSt.write; rw [if_pos hhit]
    rw [hw]
    have hc := Lib.hid (dev_hit h1 2 (fun w h => begin2_hit g st F w h hs hhit) 39 #[.pointer (some ⟨w.heap.size, 0, none⟩), .pointer (some ⟨w.heap.size + 1, 0, none⟩), .pointer (some ⟨w.heap.size + 2, 0, none⟩)])
    go_enter Try.func18, Try.ntmps18
    go_wp2_with fail
    refine hc.out.mono ?_
    rintro e w' ⟨rfl, h2, hc2⟩
    go_wp2_with fail
    go_ret
    exact ⟨rfl, h2.mono (fun _ h => .inl h) (ext_lt hF (Nat.le_trans hb1.size hc2.size)), (Chg.of_below F hb1).then_ hc2⟩
  have hno : (st.count 2).hit 2 = false := by simpa using hhit
  have hFn : ∀ i, w.heap.size ≤ i → ¬ F i := fun i hi hf => by have := hF i hf; omega
  have fin : ∀ (code : Int) (st2 : PSt), st.write n l = (code, st2) →
      (∀ w2, Dev w2 F g (st.count 2) → Chg F (opW w1) w2 → Calls Try.prog 39 #[.pointer (some ⟨w.heap.size, 0, none⟩), .pointer (some ⟨w.heap.size + 1, 0, none⟩), .pointer (some ⟨w.heap.size + 2, 0, none⟩)] w2 fun e w3 => e = .returned (.int .i64 code) ∧ Dev w3 (Ext F w2 w3) g st2 ∧ Chg F w2 w3 ∧ True) →
      Calls Try.prog 18 #[.pointer (some ⟨g, 0, none⟩), .int .i64 n, .slice B l.length cap] w fun e w' => e = .returned (.int .i64 (st.write n l).1) ∧ Dev w' (Ext F w w') g (st.write n l).2 ∧ Chg F w w' := by
    intro code st2 hw hd
    rw [hw]
    have hc := Lib.hid (dev_ok h1 (fun _ h => h) h1.lt 2 code (fun w h => begin2_no g st F w h hs hno) 39 _ (enter_write1 _) (fun _ => True) hd (fun _ _ _ _ => trivial))
    clear hd
    go_enter Try.func18, Try.ntmps18
    go_wp2_with (go_at_call 38; refine hc.out.mono ?_; rintro e w' ⟨rfl, h2, hc2, _⟩)
    go_ret
    refine ⟨rfl, h2.mono (fun b hb => ?_) (ext_lt hF (Nat.le_trans hb1.size hc2.size)), (Chg.of_below F hb1).then_ hc2⟩
    rcases hb with hb | hb
    · exact .inl hb
    · exact .inr ⟨by omega, hb.2⟩
  have keepc : ∀ {w2 : World}, Chg F (opW w1) w2 → ∀ i, i < w1.heap.size → ¬ F i → w2.heap[i]? = w1.heap[i]? := fun hc i hi hn => (hc.block i (by rw [opW_size]; omega) hn).trans (Below.heap_alloc _ _ _ hi)
  have boxes : ∀ {w2 : World}, Chg F (opW w1) w2 → w2.cell? ⟨w.heap.size, 0, none⟩ = some (.pointer (some ⟨g, 0, none⟩)) ∧ w2.cell? ⟨w.heap.size + 1, 0, none⟩ = some (.int .i64 n) ∧ w2.cell? ⟨w.heap.size + 2, 0, none⟩ = some (.slice B l.length cap) := fun hc =>
    ⟨(World.cell?_of_block (keepc hc w.heap.size (by omega) (hFn _ (Nat.le_refl _)))).trans e3, (World.cell?_of_block (keepc hc (w.heap.size + 1) (by omega) (hFn _ (by omega)))).trans e4, (World.cell?_of_block (keepc hc (w.heap.size + 2) (by omega) (hFn _ (by omega)))).trans e5⟩
  by_cases hbad : n < 0 ∨ (st.blocks.length : Int) ≤ n ∨ l.length ≠ 64
  · refine fin 1 (st.count 2) (by unfold PSt.write; rw [if_neg hhit, if_pos hbad]) fun w2 h2 hc2 => ?_
    obtain ⟨x3, x4, x5⟩ := boxes hc2
    obtain ⟨Bv, Cv, bm, Pm, D, E, hS⟩ := h2
    refine (write1_bad hS _ _ _ n B l.length cap x3 x4 x5 hbad).mono ?_
    rintro e w3 ⟨rfl, rfl⟩
    exact ⟨rfl, (Dev.mono ⟨_, _, _, _, _, _, hS⟩ (fun _ h => .inl h) (ext_lt hS.lt (Nat.le_refl _))), Chg.refl _ _, trivial⟩
  · obtain ⟨k, rfl⟩ : ∃ k : Nat, n = k := ⟨n.toNat, by omega⟩
    have hkl : k < st.blocks.length := by omega
    have h64 : l.length = 64 := by omega
    refine fin 0 ((st.count 2).put k l) (by unfold PSt.write; rw [if_neg hhit, if_neg hbad, Int.toNat_natCast]) fun w2 h2 hc2 => ?_
    obtain ⟨x3, x4, x5⟩ := boxes hc2
    obtain ⟨Bv, Cv, bm, Pm, D, E, hS⟩ := h2
    rcases hsl with h0 | ⟨b, o, rfl, hb, hcell⟩
    · exfalso; rw [← List.length_eq_zero_iff, byts_length] at h0; omega
    rw [h64] at x5
    have hbF := hdis b o rfl
    have hrange : w2.rangeAt b o (byts l) := fun j v hv => by
      have hj : j < (byts l).length := (List.getElem?_eq_some_iff.1 hv).1
      have := hcell j hj
      rw [(World.cell?_of_block ((keepc hc2 b (by omega) hbF).trans (hb1.block b hb))).trans this, ← hv, List.getElem?_eq_getElem hj]
    refine (write1_good hS hcl hbl _ _ _ k b o cap l h64 hl x3 x4 x5 hkl ⟨hFn _ (Nat.le_refl _), hFn _ (by omega), hFn _ (by omega), hbF⟩ hrange).mono ?_
    rintro e w3 ⟨rfl, h3, hc3⟩
    exact ⟨rfl, h3, hc3, trivial⟩
end Go.Proofs.Ytdengokonaljpaa
