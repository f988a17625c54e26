/- The document's platter: what Write does. -/
import Derived.Test.YtdengokonaljpaaRfault
namespace Go.Proofs.Ytdengokonaljpaa
open Go.RowKit

/-- What Write does to the state. -/
def PSt.put (st : PSt) (n : Nat) (l : List Nat) : PSt := { st with cache := st.cache ++ [(n, l)] }

theorem cacheCells_append : ∀ {l m : List (Nat × List Nat)} {vs us : List Value}, vs.length = l.length → cacheCells (l ++ m) (vs ++ us) = cacheCells l vs ++ cacheCells m us
  | [], m, [], us, _ => rfl
  | p :: l, m, v :: vs, us, h => by
    show _ :: _ :: cacheCells (l ++ m) (vs ++ us) = _ :: _ :: (cacheCells l vs ++ cacheCells m us)
    rw [cacheCells_append (by simpa using h)]

theorem cached_info : (Try.prog.info? 91).map (fun i => (i.zero, i.size, i.bytes)) = some (some (.agg #[.int .i64 0, .slice none 0 0]), 2, 32) := by kernel_rfl

theorem cached_parts : ∃ i, Try.prog.info? 91 = some i ∧ i.zero = some (.agg #[.int .i64 0, .slice none 0 0]) ∧ i.size = 2 ∧ i.bytes = 32 := by
  obtain ⟨i, hi, hh⟩ := Option.map_eq_some_iff.1 cached_info
  simp only [Prod.mk.injEq] at hh
  exact ⟨i, hi, hh.1, hh.2.1, hh.2.2⟩
/-- Write: the code that it returns, and the state behind it. -/
def PSt.write (st : PSt) (n : Int) (l : List Nat) : Int × PSt :=
  if (st.count 2).hit 2 = true then (6, st.count 2)
  else if n < 0 ∨ (st.blocks.length : Int) ≤ n ∨ l.length ≠ 64 then (1, st.count 2)
  else (0, (st.count 2).put n.toNat l)

theorem Held.mono {w : World} {F G : Nat → Prop} {v : Value} {l : List Nat} (h : Held w F v l) (hFG : ∀ i, F i → G i) : Held w G v l := ⟨h.1, h.2.1, h.2.2.mono hFG⟩
theorem AllHeld.mono {w : World} {F G : Nat → Prop} {vs : List Value} {ls : List (List Nat)} (h : AllHeld w F vs ls) (hFG : ∀ i, F i → G i) : AllHeld w G vs ls := ⟨h.1, fun i v l hv hl => (h.2 i v l hv hl).mono hFG⟩
theorem RefR.mono {w : World} {F G : Nat → Prop} {g : Nat} {st : PSt} (h : RefR w F g st) (hFG : ∀ i, F i → G i) (hG : ∀ b, G b → b < w.heap.size) : RefR w G g st := by
  obtain ⟨hlt, hfg, Bv, Cv, Pv, bs, vs, hblk, hB, hbs, hC, hvs, hP⟩ := h
  exact ⟨hG, hFG g hfg, Bv, Cv, Pv, bs, vs, hblk, hB.mono hFG, hbs.mono hFG, hC.mono hFG, hvs.mono hFG, hP.mono hFG⟩
theorem ext_lt {F : Nat → Prop} {w w' : World} (h : ∀ b, F b → b < w.heap.size) (hs : w.heap.size ≤ w'.heap.size) : ∀ b, Ext F w w' b → b < w'.heap.size := fun b hb => hb.elim (fun hb => Nat.lt_of_lt_of_le (h b hb) hs) (fun hb => hb.2)
theorem Held.keep {w w' : World} {F : Nat → Prop} {v : Value} {l : List Nat} (h : Held w F v l) (hk : ∀ b, v.ownBlock = some b → w'.heap[b]? = w.heap[b]?) : Held w' F v l := ⟨h.1, h.2.1, h.2.2.keep hk⟩

set_option maxRecDepth 4000 in
set_option maxHeartbeats 4000000 in
theorem rwrite_any (g : Nat) (st : PSt) (F : Nat → Prop) (w : World) (h : RefR w F g st) (hs : st.ops 2 < 1000000 ∧ st.since 2 < 1000000) (hpl : st.plan.length ≤ 1000) (hcl : st.cache.length < 1000000)
    (n : Int) (B : Option Addr) (cap : Nat) (l : List Nat) (hl : ∀ x ∈ l, x < 256) (hcap : l.length ≤ cap) (hB : B = none → cap = 0) (hsl : Sl w w.heap.size B (byts l)) (hdis : ∀ b o, B = some ⟨b, o, none⟩ → ¬ F b) :
    Calls Try.prog 27 #[.pointer (some ⟨g, 0, none⟩), .int .i64 n, .slice B l.length cap] w fun e w' =>
      e = .returned (.int .i64 (st.write n l).1) ∧ RefR w' (Ext F w w') g (st.write n l).2 ∧ Chg F w w' := by
  have hf := rfault2 g st F w h hs hpl
  have Hf := Lib.hid hf
  have hF := h.lt
  clear hf h
  by_cases hhit : (st.count 2).hit 2 = true
  · have hw : st.write n l = (6, st.count 2) := by unfold PSt.write; rw [if_pos hhit]
    rw [hw]
    go_enter Try.func27, Try.ntmps27
    go_wp2_with (go_at_call 44; refine Calls.mono Hf.out ?_; rintro e w1 ⟨rfl, hr1, hc1, hz1⟩; rw [hhit])
    go_ret
    exact ⟨rfl, hr1.mono (fun _ h => .inl h) (ext_lt hF hc1.size), hc1⟩
  have hhit' : (st.count 2).hit 2 = false := by simpa using hhit
  by_cases hbad : n < 0 ∨ (st.blocks.length : Int) ≤ n ∨ l.length ≠ 64
  · have hw : st.write n l = (1, st.count 2) := by unfold PSt.write; rw [if_neg hhit, if_pos hbad]
    rw [hw]
    have bad : ∀ (x y z : Bool), decide (n < 0) = x → decide ((st.blocks.length : Int) ≤ n) = y → ((l.length : Int) != 64) = z → (x = true ∨ y = true ∨ z = true) →
        Calls Try.prog 27 #[.pointer (some ⟨g, 0, none⟩), .int .i64 n, .slice B l.length cap] w fun e w' =>
          e = .returned (.int .i64 1) ∧ RefR w' (Ext F w w') g (st.count 2) ∧ Chg F w w' := by
      intro x y z h1 h2 h3 h
      cases x <;> cases y <;> cases z <;> first
        | (simp at h; done)
        | (go_enter Try.func27, Try.ntmps27
           go_wp2_with fail
           refine Calls.mono Hf.out ?_
           rintro e w1 ⟨rfl, hr1, hc1, hz1⟩
           rw [hhit']
           have Hr := Lib.hid hr1
           obtain ⟨_, _, Bv, Cv, Pv, bs, vs, hblk, hBr, _, _, _, _⟩ := hr1
           obtain ⟨A, c, rfl, hnc, hA⟩ := hBr.form
           have c0 : w1.cell? ⟨g, 0, none⟩ = some (.slice A st.blocks.length c) := hblk.cell 0
           clear hblk hBr
           go_wp2_with fail
           go_ret
           exact ⟨rfl, Hr.out.mono (fun _ h => .inl h) (ext_lt hF hc1.size), hc1⟩)
    refine bad _ _ _ rfl rfl rfl ?_
    rcases hbad with h | h | h
    · exact .inl (by simpa using h)
    · exact .inr (.inl (by simpa using h))
    · exact .inr (.inr (by simp; omega))
  · have hw : st.write n l = (0, (st.count 2).put n.toNat l) := by unfold PSt.write; rw [if_neg hhit, if_neg hbad]
    rw [hw]
    obtain ⟨k, rfl⟩ : ∃ k : Nat, n = k := ⟨n.toNat, by omega⟩
    have hkl : k < st.blocks.length := by omega
    have h64 : l.length = 64 := by omega
    rw [Int.toNat_natCast]
    obtain ⟨i0, hi0, hz0, hs0, hb0⟩ := byte_parts (P := Try.prog) (e := 5) (by kernel_rfl)
    obtain ⟨i1, hi1, hz1', hs1, hb1⟩ := cached_parts
    have d1 : decide ((st.blocks.length : Int) ≤ k) = false := by simp; omega
    have d2 : ((l.length : Int) != 64) = false := by simp; omega
    go_enter Try.func27, Try.ntmps27
    go_wp2_with fail
    refine Calls.mono Hf.out ?_
    rintro e w1 ⟨rfl, hr1, hc1, hz1⟩
    rw [hhit']
    obtain ⟨hF1, hg1, Bv, Cv, Pv, bs, vs, hblk, hBr, hbs, hC, hvs, hP⟩ := hr1
    obtain ⟨A, c, rfl, hnc, hA⟩ := hBr.form
    have c0 : w1.cell? ⟨g, 0, none⟩ = some (.slice A st.blocks.length c) := hblk.cell 0
    have c1 : w1.cell? ⟨g, 1, none⟩ = some Cv := hblk.cell 1
    have f1 := hblk.frozen 1
    have hS : Sl w1 w1.heap.size B (byts l) := by
      rcases hsl with h | ⟨b, o, e, hb, hcell⟩
      · exact .inl h
      · exact .inr ⟨b, o, e, by omega, fun i hi => (World.cell?_of_block (hc1.block b hb (hdis b o e))).trans (hcell i hi)⟩
    have hCo : Row w1 F 91 2 Cv st.cache.length (cacheCells st.cache vs) := hC
    go_wp2_with fail
    go_region_law (first
      | (refine step_append_sl (w := _) (base := 0) (v := .slice none 0 0) rfl (.const (.slice none 0 0)) (.tmp 31) _ rfl Try.underlying49 hi0 hz0 hs0 hb0 rfl rfl (World.ownsRow_nil _ _ _ _) rfl (h64.symm.trans (byts_length l).symm) hB hS (byts_one l) (by rw [byts_length]; exact hcap) (by rw [byts_length]; unfold maxLen; omega) (by rw [byts_length]; omega) (Nat.zero_le _) ?_
         intro v2 w2 hown2 hgr2 hbl2
         obtain ⟨A2, c2, rfl⟩ := own_slice hown2
         rw [Nat.zero_add] at hown2 hbl2
         have hC2 : Row w2 F 91 2 Cv st.cache.length (cacheCells st.cache vs) := hCo.drew.grown hgr2 (fun k hk => by simp [Value.ownBlock])
         have hblk2 : Blk w2 g _ _ := Blk.grown (w := w1.drew) hblk hgr2 (by simp [Value.ownBlock])
         have c2' : w2.cell? ⟨g, 1, none⟩ = some Cv := hblk2.cell 1
         have c2a : ∀ o, (w2.alloc o).cell? ⟨g, 1, none⟩ = some Cv := fun o => (hblk2.alloc o).cell 1)
      | (refine step_append_at (w := _) (base := 0) (size := 2) (v := Cv) (m := 1) (news := [.int .i64 (k : Int), .slice A2 (byts l).length c2]) rfl (.tmp 29) (.tmp 34) _ rfl Try.underlying43 hi1 hz1' hs1 hb1 rfl (by decide) rfl (hC2.alloc _).own rfl rfl (fun j u hu => by rw [cell_fresh rfl]; simpa using hu) (by simp [Value.oneCell']) (by unfold maxLen; omega) (by omega) (Nat.zero_le _) ?_
         intro v3 w3 hown3 hgr3 hbl3
         obtain ⟨A3, c3, rfl⟩ := own_slice hown3
         have hblk3 := (hblk2.alloc _).grown hgr3 (hC2.ne_ hblk2 (by decide))
         have f3 := hblk3.frozen 1
         have c3' : w3.cell? ⟨g, 1, none⟩ = some Cv := hblk3.cell 1))
    all_goals
      go_wp2_with fail
      go_ret
      refine ⟨rfl, ?_, ?_⟩
      · have hmono : ∀ i, F i → Ext F w (w3.setCell ⟨g, 1, none⟩ (.slice A3 (st.cache.length + 1) c3)) i := fun _ h => .inl h
        have hnew : ∀ i, w1.heap.size ≤ i → i < w3.heap.size → Ext F w (w3.setCell ⟨g, 1, none⟩ (.slice A3 (st.cache.length + 1) c3)) i := fun i h1 h2 => .inr ⟨by omega, by simpa using h2⟩
        have hz2 := hgr2.size
        have hz3 := hgr3.size
        simp only [World.size_drew, World.size_alloc] at hz2 hz3
        have hcar : ∀ {e' size' n' : Nat} {v' : Value} {xs' : List Value}, Row w1 F e' size' v' n' xs' → e' ≠ 91 → e' ≠ 46 → Row (w3.setCell ⟨g, 1, none⟩ (.slice A3 (st.cache.length + 1) c3)) (Ext F w (w3.setCell ⟨g, 1, none⟩ (.slice A3 (st.cache.length + 1) c3))) e' size' v' n' xs' := by
          intro e' size' n' v' xs' hr h79 h46
          have a1 := (hr.drew.grown hgr2 (fun k _ => by simp [Value.ownBlock])).alloc (.cells #[.int .i64 (k : Int), .slice A2 (byts l).length c2] 91)
          have a2 := a1.grown hgr3 (fun k hk => fun e => hr.other hCo h79 e hk)
          exact (a2.set_far (a2.ne_ hblk3 h46) _).mono hmono
        have hheld : ∀ {v' : Value} {l' : List Nat}, Held w1 F v' l' → Held (w3.setCell ⟨g, 1, none⟩ (.slice A3 (st.cache.length + 1) c3)) (Ext F w (w3.setCell ⟨g, 1, none⟩ (.slice A3 (st.cache.length + 1) c3))) v' l' := fun hh => ⟨hh.1, hh.2.1, hcar hh.2.2 (by decide) (by decide)⟩
        have hrow2 : Row w2 (Ext F w (w3.setCell ⟨g, 1, none⟩ (.slice A3 (st.cache.length + 1) c3))) 5 1 (.slice A2 (byts l).length c2) l.length (byts l) := by
          refine ⟨by simpa [byts_length] using hown2, fun b hb => ?_⟩
          have hb2 := (hown2.lt b hb).2
          rcases hbl2 with e | e
          · rw [e] at hb; simp [Value.ownBlock] at hb
          · rw [e] at hb
            injection hb with hb
            simp only [World.size_drew] at hb
            exact hnew b (by omega) (by omega)
        have hrow4 : Row (w3.setCell ⟨g, 1, none⟩ (.slice A3 (st.cache.length + 1) c3)) (Ext F w (w3.setCell ⟨g, 1, none⟩ (.slice A3 (st.cache.length + 1) c3))) 5 1 (.slice A2 (byts l).length c2) l.length (byts l) := by
          have a1 := hrow2.alloc (.cells #[.int .i64 (k : Int), .slice A2 (byts l).length c2] 91)
          have a2 := a1.grown hgr3 (fun b hb => fun e => hrow2.other hC2 (by decide) e hb)
          exact a2.set_far (a2.ne_ hblk3 (by decide)) _
        refine ⟨ext_lt hF (by simp; omega), .inl hg1, .slice A st.blocks.length c, .slice A3 (st.cache.length + 1) c3, Pv, bs, vs ++ [.slice A2 (byts l).length c2], hblk3.set_ 1 _, hcar hBr (by decide) (by decide), ⟨hbs.1, fun i v' l' hv hl' => hheld (hbs.2 i v' l' hv hl')⟩, ?_, ?_, hcar hP (by decide) (by decide)⟩
        · rw [show ((st.count 2).put k l).cache = st.cache ++ [(k, l)] from rfl, cacheCells_append (by have := hvs.1; simpa [PSt.count] using this), List.length_append]
          have hown4 := (World.ownsRow.kept (w := w3) (w' := w3.setCell ⟨g, 1, none⟩ (.slice A3 (st.cache.length + 1) c3)) (row := some g) hown3 ⟨rfl, rfl, rfl, by simp, fun i _ hi => Below.heap_setCell _ _ _ _ (fun e => hi (by simp [e]))⟩ (.inr fun e => ?_))
          · refine ⟨hown4, fun b hb => ?_⟩
            have hb3 := (hown3.lt b hb).2
            rcases hbl3 with e | e
            · rw [e] at hb; exact hmono b (hCo.mem b hb)
            · rw [e] at hb
              injection hb with hb
              simp only [World.size_alloc] at hb
              exact hnew b (by omega) hb3
          · rcases hown3.2 with ⟨h', h0⟩ | ⟨b', _, _, h', _, hb', _⟩
            · omega
            · injection h' with h'
              subst h'
              injection e with e
              have : (b' : Nat) = g := e
              subst this
              have := hblk3
              unfold Blk at this
              rw [hb'] at this
              injection this with this
              injection this with _ ht
              exact absurd ht (by decide)
        · rw [show ((st.count 2).put k l).cache = st.cache ++ [(k, l)] from rfl, List.map_append]
          have hvl : vs.length = st.cache.length := by have := hvs.1; simpa [PSt.count] using this
          refine ⟨by simpa using hvl, fun i v' l' hv hl' => ?_⟩
          by_cases hi : i < vs.length
          · rw [List.getElem?_append_left hi] at hv
            rw [List.getElem?_append_left (by simp; omega)] at hl'
            exact hheld (hvs.2 i v' l' hv hl')
          · rw [List.getElem?_append_right (by omega)] at hv
            rw [List.getElem?_append_right (by simp; omega)] at hl'
            have : i = vs.length := by
              rcases Nat.lt_or_ge (i - vs.length) 1 with h | h
              · omega
              · rw [List.getElem?_eq_none (by simpa using h)] at hv; cases hv
            subst this
            simp at hv
            rw [hvl] at hl'
            simp at hl'
            subst hv hl'
            exact ⟨h64, hl, hrow4⟩
      · exact ((((hc1.drew).grown hgr2 (fun b hb => by simp [Value.ownBlock] at hb)).alloc _).grown hgr3 (fun b hb => .inl (hCo.mem b hb))).setCell (.inl hg1) _

end Go.Proofs.Ytdengokonaljpaa
