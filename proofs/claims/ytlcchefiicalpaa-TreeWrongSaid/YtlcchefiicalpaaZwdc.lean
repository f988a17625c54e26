/- The program's All and Nodes. The program's Get. -/
import Derived.Test.YtlcchefiicalpaaZwdb
import Derived.Test.YtlcchefiicalpaaZwe
namespace Go.Proofs.Ytlcchefiicalpaa
open Go.RowKit
theorem vk5 : ∀ {h : Nat}, h ≤ 5 → Tr.vk h ≤ 300000
  | 0, _ => by decide
  | 1, _ => by decide
  | 2, _ => by decide
  | 3, _ => by decide
  | 4, _ => by decide
  | 5, _ => by decide
  | h + 6, hh => by omega
theorem ra_start {w : World} {t E : TypeId} {size : Nat} (hne : E ≠ t) : RA w.heap.size t E size [] 0 (.slice none 0 0) (w.alloc (.cells #[.slice none 0 0] t)) (fun b => b = w.heap.size) :=
  ⟨Blk.new _ _ _, World.ownsRow_nil _ _ _ _, fun b => ⟨.inl, fun h => h.elim id fun h => by simp [Value.ownBlock] at h⟩, hne⟩
section
variable {σ : Type} (D : StoI σ)
/-- What All and Nodes answer. -/
def LsR {α : Type} (cells : List α → List Value) (w : World) (X : Nat → Prop) (st' : σ) (r : Except Int (List α)) (e : Ending) (w' : World) : Prop := StR σ D.Rep w X st' (fun w' X' => match r with
    | .error er => er ≠ 0 ∧ e = .returned (.tuple #[.slice none 0 0, .int .i64 er])
    | .ok q => ∃ A c, e = .returned (.tuple #[.slice A q.length c, .int .i64 0]) ∧ Fast X' w' fun u => SlC u u.heap.size A c q.length (cells q)) w'
theorem ls_stp {w W2 w3 w' : World} {X X' G' : Nat → Prop} {ob : Nat} (hb : Below w.heap.size w W2) (hb3 : Below W2.heap.size W2 w3) (hob : w.heap.size ≤ ob) (hS : Stp w3 (fun b => X b ∨ b = ob) w' (fun b => X' b ∨ G' b)) : Stp w X w' X' := by
  have h0 : Below w.heap.size w w3 := hb.trans (hb3.mono hb.size)
  have hs := h0.size
  exact ⟨⟨hS.chg.os.trans h0.os, hS.chg.tape.trans h0.tape, hS.chg.output.trans h0.output, Nat.le_trans hs hS.chg.size, fun i hi hX => (hS.chg.block i (Nat.lt_of_lt_of_le hi hs) fun h => h.elim hX fun h => by omega).trans (h0.block i hi)⟩, fun b hb => (hS.new b (.inl hb)).elim (fun h => h.elim .inl fun h => .inr (by omega)) fun h => .inr (Nat.le_trans hs h)⟩
theorem ls_fast {w : World} {X G : Nat → Prop} {ob : Nat} {T E : TypeId} {size n c : Nat} {A : Option Addr} {xs : List Value} (hA : RA ob T E size xs n (.slice A n c) w G) (hd : ∀ b, G b → ¬ X b) : Fast X w fun u => SlC u u.heap.size A c n xs := fun u q => by
  have h1 := own_keep (w' := u) hA.own fun b hb hl => q.block b hl (hd b ((hA.g b).2 (.inr hb)))
  exact ⟨own_len h1, own_none h1, own_slW' h1⟩
theorem cells4_ {w : World} {xb : Nat} {t : TypeId} {a b c d : Value} (h : Blk w xb t #[a, b, c, d]) : w.cell? ⟨xb, 0, none⟩ = some a ∧ w.cell? ⟨xb, 1, none⟩ = some b ∧ w.cell? ⟨xb, 2, none⟩ = some c ∧ w.cell? ⟨xb, 3, none⟩ = some d := ⟨h.cell 0, h.cell 1, h.cell 2, h.cell 3⟩
set_option maxRecDepth 8000 in
set_option maxHeartbeats 16000000 in
theorem all_any {w : World} {X : Nat → Prop} {st : σ} {k : Nd.T3} {h : Int} (hr : D.Rep w X st) (hkr : Tr.KR k) :
    Calls Try.prog 35 #[D.val, Tr.rootV k h] w (LsR D evs w X (Tr.walk D.S Tr.allG h.toNat st (Tr.trunk k h)).1 (Tr.walk D.S Tr.allG h.toNat st (Tr.trunk k h)).2) := by
  obtain ⟨W1, hW1⟩ : ∃ W, w.alloc (.cells #[.int .i64 k.1, .int .i64 k.2.1, .int .i64 k.2.2, .int .i64 h] 66) = W := ⟨_, rfl⟩
  have bb1 : Blk W1 w.heap.size 66 #[.int .i64 k.1, .int .i64 k.2.1, .int .i64 k.2.2, .int .i64 h] := by rw [← hW1]; exact Blk.new _ _ _
  have hb1 : Below w.heap.size w W1 := by rw [← hW1]; exact below_alloc1 _ _
  have ra0 := ra_start (w := W1) (t := 79) (E := 84) (size := 5) (by decide)
  obtain ⟨W2, hW2⟩ : ∃ W, W1.alloc (.cells #[.slice none 0 0] 79) = W := ⟨_, rfl⟩
  have hb2 : Below W1.heap.size W1 W2 := by rw [← hW2]; exact below_alloc1 _ _
  rw [hW2] at ra0
  obtain ⟨bb, hbb⟩ : ∃ r, w.heap.size = r := ⟨_, rfl⟩
  obtain ⟨ob, hob⟩ : ∃ r, bb + 1 = r := ⟨_, rfl⟩
  have hs1 : W1.heap.size = ob := by rw [← hW1, ← hob, ← hbb]; simp
  rw [hs1] at ra0
  rw [hbb] at bb1
  have HB := Lib.hid (hb1.trans (hb2.mono hb1.size))
  have b2 := bb1.keep (hb2.block bb bb1.lt)
  obtain ⟨y0, y1, y2, y3⟩ := cells4_ b2
  have Hob := Lib.hid (show w.heap.size ≤ ob by omega)
  have HR := Lib.hid (D.below hr HB.out)
  have RA0 := Lib.hid ra0
  have Hlt := Lib.hid (show ∀ b, X b → b < w.heap.size from fun b hb => D.lt hr hb)
  have HTk := trunk_any k h W2
  have HKR := Lib.hid hkr
  have hmf : ∀ (fn : Fn) (first cap : Array Value) (w : World), (Instr.makeFunc fn first cap).run Try.prog w = .ok (.func fn first cap) w := fun _ _ _ _ => rfl
  have HV := Lib.hid (show ∀ w3, Below W2.heap.size W2 w3 → Calls Try.prog 67 #[.iface D.t D.v, Tr.brV (Tr.trunk k h), .func (.func 69) #[] #[.pointer (some ⟨ob, 0, none⟩)]] w3 (VsR D (allV ob) w3 X (fun b => b = ob) [] (Tr.walk D.S Tr.allG h.toNat st (Tr.trunk k h)).1 (Tr.walk D.S Tr.allG h.toNat st (Tr.trunk k h)).2) from fun w3 hb3 =>
    visit_is D (allV ob) h.toNat (D.below HR.out hb3) (show allAcc ob w3 (fun b => b = ob) [] from ⟨_, RA0.out.below hb3⟩) (fun b hb hX => by have := Hlt.out b hX; have := Hob.out; omega) ⟨rfl, HKR.out⟩ (fun h5 => by have := vk5 h5; simp; omega))
  obtain ⟨RR, hRR⟩ : ∃ R, Tr.walk D.S Tr.allG h.toNat st (Tr.trunk k h) = R := ⟨_, rfl⟩
  rw [hRR] at HV ⊢
  have hv : D.val = .iface D.t D.v := rfl
  rw [hv]
  unfold Tr.rootV
  clear ra0 bb1 b2 hb1 hb2 hr hRR hv
  rcases RR with ⟨s6, er6 | q6⟩
  · unfold VsR at HV
    dsimp only at HV
    go_enter Try.func35, Try.ntmps35
    go_wp2_with (first
      | (go_at_call 68; (with_reducible refine HTk.mono ?_); rintro e w3 ⟨rfl, hb3⟩; (have B3 := Lib.hid hb3); clear hb3)
      | (go_at_call 67; (with_reducible refine (HV.out w3 B3.out).mono ?_); rintro e w6 ⟨X6, G6, hR6, hd6, hS6, hne6, rfl⟩; (have P6 := Lib.hid (show D.Rep w6 X6 s6 ∧ Stp w X w6 X6 ∧ er6 ≠ 0 from ⟨hR6, ls_stp HB.out B3.out Hob.out hS6, hne6⟩)); (have zE : ((er6 : Int) != 0) = true := by simpa using hne6); clear hR6 hd6 hS6 hne6))
    go_returns
    exact ⟨X6, P6.out.1, P6.out.2.1, P6.out.2.2, rfl⟩
  · unfold VsR at HV
    dsimp only at HV
    go_enter Try.func35, Try.ntmps35
    go_wp2_with (first
      | (go_at_call 68; (with_reducible refine HTk.mono ?_); rintro e w3 ⟨rfl, hb3⟩; (have B3 := Lib.hid hb3); clear hb3)
      | (go_at_call 67; (with_reducible refine (HV.out w3 B3.out).mono ?_); rintro e w6 ⟨X6, G6, hR6, hd6, hS6, rfl, v6, hA6⟩; rw [List.nil_append] at hA6; (obtain ⟨A6, c6, rfl⟩ := own_slice hA6.own); (have cz : w6.cell? ⟨ob, 0, none⟩ = some (.slice A6 q6.length c6) := hA6.blk.cell 0); (have P6 := Lib.hid (show D.Rep w6 X6 s6 ∧ Stp w X w6 X6 ∧ Fast X6 w6 fun u => SlC u u.heap.size A6 c6 q6.length (evs q6) from ⟨hR6, ls_stp HB.out B3.out Hob.out hS6, ls_fast hA6 hd6⟩)); clear hR6 hd6 hS6 hA6))
    go_returns
    exact ⟨X6, P6.out.1, P6.out.2.1, A6, c6, rfl, P6.out.2.2⟩
set_option maxRecDepth 8000 in
set_option maxHeartbeats 16000000 in
theorem nodes_any {w : World} {X : Nat → Prop} {st : σ} {k : Nd.T3} {h : Int} (hr : D.Rep w X st) (hkr : Tr.KR k) :
    Calls Try.prog 41 #[D.val, Tr.rootV k h] w (LsR D tcs w X (Tr.walk D.S Tr.nodesG h.toNat st (Tr.trunk k h)).1 (Tr.walk D.S Tr.nodesG h.toNat st (Tr.trunk k h)).2) := by
  obtain ⟨W1, hW1⟩ : ∃ W, w.alloc (.cells #[.int .i64 k.1, .int .i64 k.2.1, .int .i64 k.2.2, .int .i64 h] 66) = W := ⟨_, rfl⟩
  have bb1 : Blk W1 w.heap.size 66 #[.int .i64 k.1, .int .i64 k.2.1, .int .i64 k.2.2, .int .i64 h] := by rw [← hW1]; exact Blk.new _ _ _
  have hb1 : Below w.heap.size w W1 := by rw [← hW1]; exact below_alloc1 _ _
  have ra0 := ra_start (w := W1) (t := 33) (E := 58) (size := 3) (by decide)
  obtain ⟨W2, hW2⟩ : ∃ W, W1.alloc (.cells #[.slice none 0 0] 33) = W := ⟨_, rfl⟩
  have hb2 : Below W1.heap.size W1 W2 := by rw [← hW2]; exact below_alloc1 _ _
  rw [hW2] at ra0
  obtain ⟨bb, hbb⟩ : ∃ r, w.heap.size = r := ⟨_, rfl⟩
  obtain ⟨ob, hob⟩ : ∃ r, bb + 1 = r := ⟨_, rfl⟩
  have hs1 : W1.heap.size = ob := by rw [← hW1, ← hob, ← hbb]; simp
  rw [hs1] at ra0
  rw [hbb] at bb1
  have HB := Lib.hid (hb1.trans (hb2.mono hb1.size))
  have b2 := bb1.keep (hb2.block bb bb1.lt)
  obtain ⟨y0, y1, y2, y3⟩ := cells4_ b2
  have Hob := Lib.hid (show w.heap.size ≤ ob by omega)
  have HR := Lib.hid (D.below hr HB.out)
  have RA0 := Lib.hid ra0
  have Hlt := Lib.hid (show ∀ b, X b → b < w.heap.size from fun b hb => D.lt hr hb)
  have HTk := trunk_any k h W2
  have HKR := Lib.hid hkr
  have hmf : ∀ (fn : Fn) (first cap : Array Value) (w : World), (Instr.makeFunc fn first cap).run Try.prog w = .ok (.func fn first cap) w := fun _ _ _ _ => rfl
  have HV := Lib.hid (show ∀ w3, Below W2.heap.size W2 w3 → Calls Try.prog 67 #[.iface D.t D.v, Tr.brV (Tr.trunk k h), .func (.func 76) #[] #[.pointer (some ⟨ob, 0, none⟩)]] w3 (VsR D (nodV ob) w3 X (fun b => b = ob) [] (Tr.walk D.S Tr.nodesG h.toNat st (Tr.trunk k h)).1 (Tr.walk D.S Tr.nodesG h.toNat st (Tr.trunk k h)).2) from fun w3 hb3 =>
    visit_is D (nodV ob) h.toNat (D.below HR.out hb3) (show nodAcc ob w3 (fun b => b = ob) [] from ⟨_, RA0.out.below hb3⟩) (fun b hb hX => by have := Hlt.out b hX; have := Hob.out; omega) ⟨rfl, HKR.out⟩ (fun h5 => by have := vk5 h5; simp; omega))
  obtain ⟨RR, hRR⟩ : ∃ R, Tr.walk D.S Tr.nodesG h.toNat st (Tr.trunk k h) = R := ⟨_, rfl⟩
  rw [hRR] at HV ⊢
  have hv : D.val = .iface D.t D.v := rfl
  rw [hv]
  unfold Tr.rootV
  clear ra0 bb1 b2 hb1 hb2 hr hRR hv
  rcases RR with ⟨s6, er6 | q6⟩
  · unfold VsR at HV
    dsimp only at HV
    go_enter Try.func41, Try.ntmps41
    go_wp2_with (first
      | (go_at_call 68; (with_reducible refine HTk.mono ?_); rintro e w3 ⟨rfl, hb3⟩; (have B3 := Lib.hid hb3); clear hb3)
      | (go_at_call 67; (with_reducible refine (HV.out w3 B3.out).mono ?_); rintro e w6 ⟨X6, G6, hR6, hd6, hS6, hne6, rfl⟩; (have P6 := Lib.hid (show D.Rep w6 X6 s6 ∧ Stp w X w6 X6 ∧ er6 ≠ 0 from ⟨hR6, ls_stp HB.out B3.out Hob.out hS6, hne6⟩)); (have zE : ((er6 : Int) != 0) = true := by simpa using hne6); clear hR6 hd6 hS6 hne6))
    go_returns
    exact ⟨X6, P6.out.1, P6.out.2.1, P6.out.2.2, rfl⟩
  · unfold VsR at HV
    dsimp only at HV
    go_enter Try.func41, Try.ntmps41
    go_wp2_with (first
      | (go_at_call 68; (with_reducible refine HTk.mono ?_); rintro e w3 ⟨rfl, hb3⟩; (have B3 := Lib.hid hb3); clear hb3)
      | (go_at_call 67; (with_reducible refine (HV.out w3 B3.out).mono ?_); rintro e w6 ⟨X6, G6, hR6, hd6, hS6, rfl, v6, hA6⟩; rw [List.nil_append] at hA6; (obtain ⟨A6, c6, rfl⟩ := own_slice hA6.own); (have cz : w6.cell? ⟨ob, 0, none⟩ = some (.slice A6 q6.length c6) := hA6.blk.cell 0); (have P6 := Lib.hid (show D.Rep w6 X6 s6 ∧ Stp w X w6 X6 ∧ Fast X6 w6 fun u => SlC u u.heap.size A6 c6 q6.length (tcs q6) from ⟨hR6, ls_stp HB.out B3.out Hob.out hS6, ls_fast hA6 hd6⟩)); clear hR6 hd6 hS6 hA6))
    go_returns
    exact ⟨X6, P6.out.1, P6.out.2.1, A6, c6, rfl, P6.out.2.2⟩
end
end Go.Proofs.Ytlcchefiicalpaa
namespace Go.Proofs.Ytlcchefiicalpaa
open Go.RowKit
section
variable {σ : Type} {D : StoI σ} {W0 : World} {X : Nat → Prop} {st : σ} {w : World} {Xr : Nat → Prop} {rb : Nat} {t : TypeId} {C : Array Value}
theorem RcW.oth (h : RcW D W0 X st w Xr rb t C) {w' : World} {q : Nat} {t' : TypeId} {C' : Array Value} (hq : RcW D W0 X st w' Xr q t' C') (hne : rb ≠ q) (hk : ∀ g, g ≠ q → w'.heap[g]? = w.heap[g]?) : RcW D W0 X st w' Xr rb t C :=
  ⟨hq.rep, hq.stp, h.blk.keep (hk rb hne), h.far, h.ge⟩
theorem RcW.new_ (h : RcW D W0 X st w Xr rb t C) (t' : TypeId) (C' : Array Value) : RcW D W0 X st (w.alloc (.cells C' t')) Xr w.heap.size t' C' :=
  ⟨D.below h.rep (below_alloc1 _ _), h.stp.below (below_alloc1 _ _), Blk.new _ _ _, D.fresh h.rep, h.stp.chg.size⟩
theorem RcW.five {a b c d e : Value} (h : RcW D W0 X st w Xr rb t #[a, b, c, d, e]) (a' b' c' d' e' : Value) :
    ∃ s1 s2 s3 s4 s5, w.setCell ⟨rb, 0, none⟩ a' = s1 ∧ s1.setCell ⟨rb, 1, none⟩ b' = s2 ∧ s2.setCell ⟨rb, 2, none⟩ c' = s3 ∧ s3.setCell ⟨rb, 3, none⟩ d' = s4 ∧ s4.setCell ⟨rb, 4, none⟩ e' = s5 ∧
      (w.frozen? ⟨rb, 0, none⟩ = false ∧ s1.frozen? ⟨rb, 1, none⟩ = false ∧ s2.frozen? ⟨rb, 2, none⟩ = false ∧ s3.frozen? ⟨rb, 3, none⟩ = false ∧ s4.frozen? ⟨rb, 4, none⟩ = false) ∧
      (w.cell? ⟨rb, 0, none⟩ = some a ∧ s1.cell? ⟨rb, 1, none⟩ = some b ∧ s2.cell? ⟨rb, 2, none⟩ = some c ∧ s3.cell? ⟨rb, 3, none⟩ = some d ∧ s4.cell? ⟨rb, 4, none⟩ = some e) ∧
      (s5.cell? ⟨rb, 0, none⟩ = some a' ∧ s5.cell? ⟨rb, 1, none⟩ = some b' ∧ s5.cell? ⟨rb, 2, none⟩ = some c' ∧ s5.cell? ⟨rb, 3, none⟩ = some d' ∧ s5.cell? ⟨rb, 4, none⟩ = some e') ∧ (∀ g, g ≠ rb → s5.heap[g]? = w.heap[g]?) ∧ RcW D W0 X st s5 Xr rb t #[a', b', c', d', e'] := by
  refine ⟨_, _, _, _, _, rfl, rfl, rfl, rfl, rfl, ?_⟩
  have r0 := h.blk
  have r1 : Blk (w.setCell ⟨rb, 0, none⟩ a') rb t #[a', b, c, d, e] := r0.set_ 0 _
  have r2 : Blk ((w.setCell ⟨rb, 0, none⟩ a').setCell ⟨rb, 1, none⟩ b') rb t #[a', b', c, d, e] := r1.set_ 1 _
  have r3 : Blk (((w.setCell ⟨rb, 0, none⟩ a').setCell ⟨rb, 1, none⟩ b').setCell ⟨rb, 2, none⟩ c') rb t #[a', b', c', d, e] := r2.set_ 2 _
  have r4 : Blk ((((w.setCell ⟨rb, 0, none⟩ a').setCell ⟨rb, 1, none⟩ b').setCell ⟨rb, 2, none⟩ c').setCell ⟨rb, 3, none⟩ d') rb t #[a', b', c', d', e] := r3.set_ 3 _
  have r5 : Blk (((((w.setCell ⟨rb, 0, none⟩ a').setCell ⟨rb, 1, none⟩ b').setCell ⟨rb, 2, none⟩ c').setCell ⟨rb, 3, none⟩ d').setCell ⟨rb, 4, none⟩ e') rb t #[a', b', c', d', e'] := r4.set_ 4 _
  have hC : Chg (fun b => b = rb) w (((((w.setCell ⟨rb, 0, none⟩ a').setCell ⟨rb, 1, none⟩ b').setCell ⟨rb, 2, none⟩ c').setCell ⟨rb, 3, none⟩ d').setCell ⟨rb, 4, none⟩ e') := (((((Chg.refl (fun b => b = rb) w).setCell (p := ⟨rb, 0, none⟩) (.inl rfl) _).setCell (p := ⟨rb, 1, none⟩) (.inl rfl) _).setCell (p := ⟨rb, 2, none⟩) (.inl rfl) _).setCell (p := ⟨rb, 3, none⟩) (.inl rfl) _).setCell (p := ⟨rb, 4, none⟩) (.inl rfl) _
  obtain ⟨e1, e2⟩ := D.end_ h.rep h.stp hC fun b hb => by subst hb; exact ⟨h.ge, h.far⟩
  refine ⟨⟨r0.frozen 0, r1.frozen 1, r2.frozen 2, r3.frozen 3, r4.frozen 4⟩, ⟨r0.cell 0, r1.cell 1, r2.cell 2, r3.cell 3, r4.cell 4⟩, ⟨r5.cell 0, r5.cell 1, r5.cell 2, r5.cell 3, r5.cell 4⟩, fun g hg => ?_, e1, e2, r5, h.far, h.ge⟩
  rw [Below.heap_setCell _ _ _ _ hg, Below.heap_setCell _ _ _ _ hg, Below.heap_setCell _ _ _ _ hg, Below.heap_setCell _ _ _ _ hg, Below.heap_setCell _ _ _ _ hg]
theorem RcW.six {a b c d e f : Value} (h : RcW D W0 X st w Xr rb t #[a, b, c, d, e, f]) (a' b' c' d' e' f' : Value) :
    ∃ s1 s2 s3 s4 s5 s6, w.setCell ⟨rb, 0, none⟩ a' = s1 ∧ s1.setCell ⟨rb, 1, none⟩ b' = s2 ∧ s2.setCell ⟨rb, 2, none⟩ c' = s3 ∧ s3.setCell ⟨rb, 3, none⟩ d' = s4 ∧ s4.setCell ⟨rb, 4, none⟩ e' = s5 ∧ s5.setCell ⟨rb, 5, none⟩ f' = s6 ∧
      (w.frozen? ⟨rb, 0, none⟩ = false ∧ s1.frozen? ⟨rb, 1, none⟩ = false ∧ s2.frozen? ⟨rb, 2, none⟩ = false ∧ s3.frozen? ⟨rb, 3, none⟩ = false ∧ s4.frozen? ⟨rb, 4, none⟩ = false ∧ s5.frozen? ⟨rb, 5, none⟩ = false) ∧
      (w.cell? ⟨rb, 0, none⟩ = some a ∧ s1.cell? ⟨rb, 1, none⟩ = some b ∧ s2.cell? ⟨rb, 2, none⟩ = some c ∧ s3.cell? ⟨rb, 3, none⟩ = some d ∧ s4.cell? ⟨rb, 4, none⟩ = some e ∧ s5.cell? ⟨rb, 5, none⟩ = some f) ∧
      (s6.cell? ⟨rb, 0, none⟩ = some a' ∧ s6.cell? ⟨rb, 1, none⟩ = some b' ∧ s6.cell? ⟨rb, 2, none⟩ = some c' ∧ s6.cell? ⟨rb, 3, none⟩ = some d' ∧ s6.cell? ⟨rb, 4, none⟩ = some e' ∧ s6.cell? ⟨rb, 5, none⟩ = some f') ∧ (∀ g, g ≠ rb → s6.heap[g]? = w.heap[g]?) ∧ RcW D W0 X st s6 Xr rb t #[a', b', c', d', e', f'] := by
  refine ⟨_, _, _, _, _, _, rfl, rfl, rfl, rfl, rfl, rfl, ?_⟩
  have r0 := h.blk
  have r1 : Blk (w.setCell ⟨rb, 0, none⟩ a') rb t #[a', b, c, d, e, f] := r0.set_ 0 _
  have r2 : Blk ((w.setCell ⟨rb, 0, none⟩ a').setCell ⟨rb, 1, none⟩ b') rb t #[a', b', c, d, e, f] := r1.set_ 1 _
  have r3 : Blk (((w.setCell ⟨rb, 0, none⟩ a').setCell ⟨rb, 1, none⟩ b').setCell ⟨rb, 2, none⟩ c') rb t #[a', b', c', d, e, f] := r2.set_ 2 _
  have r4 : Blk ((((w.setCell ⟨rb, 0, none⟩ a').setCell ⟨rb, 1, none⟩ b').setCell ⟨rb, 2, none⟩ c').setCell ⟨rb, 3, none⟩ d') rb t #[a', b', c', d', e, f] := r3.set_ 3 _
  have r5 : Blk (((((w.setCell ⟨rb, 0, none⟩ a').setCell ⟨rb, 1, none⟩ b').setCell ⟨rb, 2, none⟩ c').setCell ⟨rb, 3, none⟩ d').setCell ⟨rb, 4, none⟩ e') rb t #[a', b', c', d', e', f] := r4.set_ 4 _
  have r6 : Blk ((((((w.setCell ⟨rb, 0, none⟩ a').setCell ⟨rb, 1, none⟩ b').setCell ⟨rb, 2, none⟩ c').setCell ⟨rb, 3, none⟩ d').setCell ⟨rb, 4, none⟩ e').setCell ⟨rb, 5, none⟩ f') rb t #[a', b', c', d', e', f'] := r5.set_ 5 _
  have hC : Chg (fun b => b = rb) w ((((((w.setCell ⟨rb, 0, none⟩ a').setCell ⟨rb, 1, none⟩ b').setCell ⟨rb, 2, none⟩ c').setCell ⟨rb, 3, none⟩ d').setCell ⟨rb, 4, none⟩ e').setCell ⟨rb, 5, none⟩ f') := ((((((Chg.refl (fun b => b = rb) w).setCell (p := ⟨rb, 0, none⟩) (.inl rfl) _).setCell (p := ⟨rb, 1, none⟩) (.inl rfl) _).setCell (p := ⟨rb, 2, none⟩) (.inl rfl) _).setCell (p := ⟨rb, 3, none⟩) (.inl rfl) _).setCell (p := ⟨rb, 4, none⟩) (.inl rfl) _).setCell (p := ⟨rb, 5, none⟩) (.inl rfl) _
  obtain ⟨e1, e2⟩ := D.end_ h.rep h.stp hC fun b hb => by subst hb; exact ⟨h.ge, h.far⟩
  refine ⟨⟨r0.frozen 0, r1.frozen 1, r2.frozen 2, r3.frozen 3, r4.frozen 4, r5.frozen 5⟩, ⟨r0.cell 0, r1.cell 1, r2.cell 2, r3.cell 3, r4.cell 4, r5.cell 5⟩, ⟨r6.cell 0, r6.cell 1, r6.cell 2, r6.cell 3, r6.cell 4, r6.cell 5⟩, fun g hg => ?_, e1, e2, r6, h.far, h.ge⟩
  rw [Below.heap_setCell _ _ _ _ hg, Below.heap_setCell _ _ _ _ hg, Below.heap_setCell _ _ _ _ hg, Below.heap_setCell _ _ _ _ hg, Below.heap_setCell _ _ _ _ hg, Below.heap_setCell _ _ _ _ hg]
end
def Tr.entV (o : Option Tr.E) : Value := match o with
  | none => .tuple #[ev Tr.z, .bool false, .int .i64 0]
  | some e => .tuple #[ev e, .bool true, .int .i64 0]
theorem key_sl {w : World} {n : Nd.N} {nh : Int} {A1 A2 A3 A4 : Option Addr} {k1 k2 k3 k4 c1 c2 c3 c4 : Nat} (h : NdAt w w.heap.size (.agg #[.int .i64 nh, .slice A1 k1 c1, .slice A2 k2 c2, .slice A3 k3 c3, .slice A4 k4 c4]) n) : SlC w w.heap.size A1 c1 n.ks.length (ivs n.ks) := by
  obtain ⟨B1, d1, B2, d2, B3, d3, B4, d4, e, hf⟩ := h
  simp only [Value.agg.injEq, Array.mk.injEq, List.cons.injEq, Value.slice.injEq] at e
  obtain ⟨-, ⟨e1, e2, e3⟩, -⟩ := e
  subst e1; subst e3
  exact hf.ks
section
variable {σ : Type} (D : StoI σ)
/-- What Get answers. -/
def GtR (w : World) (X : Nat → Prop) (st' : σ) (r : Except Int (Option Tr.E)) (e : Ending) (w' : World) : Prop := StR σ D.Rep w X st' (fun _ _ => match r with
    | .error er => er ≠ 0 ∧ e = .returned (.tuple #[ev Tr.z, .bool false, .int .i64 er])
    | .ok o => e = .returned (Tr.entV o)) w'
theorem get_err {h : Nat} {st s1 : σ} {b : Tr.Br} {key er : Int} (hl : Tr.load D.S st b = (s1, .error er)) : Tr.getP D.S h st b key = (s1, .error er) := by cases h <;> (unfold Tr.getP; rw [hl])
theorem get_zero {st s1 : σ} {b : Tr.Br} {key : Int} {n : Nd.N} (hl : Tr.load D.S st b = (s1, .ok n)) : Tr.getP D.S 0 st b key = (s1, .ok (if (Nd.find n.ks key).2 then some (Tr.leafE n (Nd.find n.ks key).1) else none)) := by unfold Tr.getP; rw [hl]
theorem get_no {h : Nat} {st s1 : σ} {b : Tr.Br} {key : Int} {n : Nd.N} (hl : Tr.load D.S st b = (s1, .ok n)) (hk : key < Nd.at_ n.ks (Nd.find n.ks key).1) : Tr.getP D.S (h + 1) st b key = (s1, .ok none) := by
  conv => lhs; unfold Tr.getP
  rw [hl]; dsimp only; rw [if_pos hk]
theorem get_on {h : Nat} {st s1 : σ} {b : Tr.Br} {key : Int} {n : Nd.N} (hl : Tr.load D.S st b = (s1, .ok n)) (hk : ¬ key < Nd.at_ n.ks (Nd.find n.ks key).1) : Tr.getP D.S (h + 1) st b key = Tr.getP D.S h s1 (Tr.kidB b n (Nd.find n.ks key).1) key := by
  conv => lhs; unfold Tr.getP
  rw [hl]; dsimp only; rw [if_neg hk]
theorem find_lt {ks : List Int} {key : Int} : (Nd.find ks key).1 < ks.length ∨ (ks.length = 0 ∧ (Nd.find ks key).2 = false) := by
  have h := Tr.last_spec (ks := ks) (key := key) ks.length
  unfold Nd.find
  cases hl : Nd.last ks key ks.length with
  | none =>
    dsimp only
    rcases Nat.eq_zero_or_pos ks.length with h0 | h0
    · exact .inr ⟨h0, rfl⟩
    · exact .inl h0
  | some i =>
    rw [hl] at h
    exact .inl h.1
/-- The branch at which Get stands: its height is what the loop counts down. -/
def brH (q : Nat) (w : World) : Nat := match w.cell? ⟨q, 3, none⟩ with
  | some (.int _ z) => z.toNat
  | _ => 0
theorem brH_is {q : Nat} {w : World} {z : Int} (h : w.cell? ⟨q, 3, none⟩ = some (.int .i64 z)) : brH q w = z.toNat := by unfold brH; rw [h]
structure GtI (W0 : World) (X : Nat → Prop) (key : Int) (RR : Tr.Res σ (Option Tr.E)) (rb bq : Nat) (b : Tr.Br) (w : World) (Xr : Nat → Prop) (sr : σ) : Prop where
  cr : RcW D W0 X sr w Xr rb 84 #[.int .i64 0, .int .i64 0, .int .i64 0, .int .i64 0, .int .i64 0]
  cb : RcW D W0 X sr w Xr bq 137 #[.int .i64 b.k.1, .int .i64 b.k.2.1, .int .i64 b.k.2.2, .int .i64 b.h, .int .i64 b.f, .int .i64 b.t]
  eq : RR = Tr.getP D.S b.h.toNat sr b key
  kr : Tr.KR b.k
set_option maxRecDepth 8000 in
set_option maxHeartbeats 16000000 in
theorem get_any {w : World} {X : Nat → Prop} {st : σ} {k : Nd.T3} {h key : Int} (hr : D.Rep w X st) (hkr : Tr.KR k) :
    Calls Try.prog 37 #[D.val, Tr.rootV k h, .int .i64 key] w fun e w' => (0 ≤ key ∧ key < 512 → GtR D w X (Tr.getP D.S h.toNat st (Tr.trunk k h) key).1 (Tr.getP D.S h.toNat st (Tr.trunk k h) key).2 e w') ∧ (¬ (0 ≤ key ∧ key < 512) → GtR D w X st (.error 1) e w') := by
  obtain ⟨W1, hW1⟩ : ∃ W, w.alloc (.cells #[.int .i64 k.1, .int .i64 k.2.1, .int .i64 k.2.2, .int .i64 h] 66) = W := ⟨_, rfl⟩
  have hc0 := RcW.start hr 66 #[.int .i64 k.1, .int .i64 k.2.1, .int .i64 k.2.2, .int .i64 h]
  rw [hW1] at hc0
  have hc1 := hc0.new_ 84 #[.int .i64 0, .int .i64 0, .int .i64 0, .int .i64 0, .int .i64 0]
  have hb2 := below_alloc1 W1 (.cells #[.int .i64 0, .int .i64 0, .int .i64 0, .int .i64 0, .int .i64 0] 84)
  obtain ⟨W2, hW2⟩ : ∃ W, W1.alloc (.cells #[.int .i64 0, .int .i64 0, .int .i64 0, .int .i64 0, .int .i64 0] 84) = W := ⟨_, rfl⟩
  rw [hW2] at hc1 hb2
  have hc2 := hc0.below hb2
  obtain ⟨bb, hbb⟩ : ∃ r, w.heap.size = r := ⟨_, rfl⟩
  obtain ⟨rb, hrb⟩ : ∃ r, bb + 1 = r := ⟨_, rfl⟩
  have hs1 : W1.heap.size = rb := by rw [← hW1, ← hrb, ← hbb]; simp
  rw [hs1] at hc1
  rw [hbb] at hc2
  obtain ⟨y0, y1, y2, y3⟩ := cells4_ hc2.blk
  have CR := Lib.hid hc1
  have hv : D.val = .iface D.t D.v := rfl
  rw [hv]
  unfold Tr.rootV
  clear hc0 hc1 hb2 hc2 hr hv
  by_cases hkey : 0 ≤ key ∧ key < 512
  · have HKy := Lib.hid (fun u => iskey_any key true (by rw [decide_eq_true_eq]; exact hkey) u)
    obtain ⟨RR, hRR⟩ : ∃ R, Tr.getP D.S h.toNat st (Tr.trunk k h) key = R := ⟨_, rfl⟩
    rw [hRR]
    have Hkey := Lib.hid hkey
    have htk := fun u => trunk_any k h u
    obtain ⟨tb, htb⟩ : ∃ b, Tr.trunk k h = b := ⟨_, rfl⟩
    have htbh : tb.h.toNat = h.toNat := by rw [← htb]; rfl
    have HKR := Lib.hid (show Tr.KR tb.k from htb ▸ hkr)
    rw [htb] at htk hRR
    have HTk := Lib.hid htk
    have HRR := Lib.hid (show RR = Tr.getP D.S tb.h.toNat st tb key by rw [htbh]; exact hRR.symm)
    clear hkey hRR htk htb htbh
    suffices K : Calls Try.prog 37 #[.iface D.t D.v, .agg #[.int .i64 k.1, .int .i64 k.2.1, .int .i64 k.2.2, .int .i64 h], .int .i64 key] w (GtR D w X RR.1 RR.2) from K.mono fun e w' hg => ⟨fun _ => hg, fun hn => absurd Hkey.out hn⟩
    go_enter Try.func37, Try.ntmps37
    go_upto_region 4 with (first
      | (go_at_call 71; (with_reducible refine (HKy.out _).mono ?_); rintro r w6 ⟨rfl, rfl⟩)
      | (go_at_call 68; (with_reducible refine (HTk.out _).mono ?_); rintro e w3 ⟨rfl, hb3⟩; (have B3 := Lib.hid hb3); (obtain ⟨bq, hbq⟩ : ∃ q, w3.heap.size = q := ⟨_, rfl⟩); (have Hbq := Lib.hid hbq); (dsimp only [Tr.brV]); clear hb3))
    obtain ⟨W3, hW3⟩ : ∃ W, w3.alloc (.cells #[.int .i64 tb.k.1, .int .i64 tb.k.2.1, .int .i64 tb.k.2.2, .int .i64 tb.h, .int .i64 tb.f, .int .i64 tb.t] 137) = W := ⟨_, rfl⟩
    rw [hW3]
    have I0 := Lib.hid (show GtI D w X key RR rb bq tb W3 X st from by
      have c1 := (CR.out.below B3.out).new_ 137 #[.int .i64 tb.k.1, .int .i64 tb.k.2.1, .int .i64 tb.k.2.2, .int .i64 tb.h, .int .i64 tb.f, .int .i64 tb.t]
      rw [hW3, Hbq.out] at c1
      exact ⟨(CR.out.below B3.out).below (hW3 ▸ below_alloc1 _ _), c1, HRR.out, HKR.out⟩)
    have Hne := Lib.hid (show rb ≠ bq from fun e => by
      have := (CR.out.below B3.out).blk.lt
      rw [Hbq.out, e] at this
      exact Nat.lt_irrefl _ this)
    clear hW3 hW1 hW2 hbb hrb hs1 y0 y1 y2 y3 hbq
    go_loopw [7] (fun v7 wr => v7 = .bool false ∧ ∃ (b : Tr.Br) (Xr : Nat → Prop) (sr : σ), GtI D w X key RR rb bq b wr Xr sr) (fun _ wr => brH bq wr)
    case atStart => exact ⟨rfl, tb, X, st, I0.out⟩
    case round =>
      clear I0 HRR CR HTk HKy Hbq B3
      obtain ⟨rfl, b, Xr, sr, hI⟩ := hrel
      have HI := Lib.hid hI
      obtain ⟨x0, x1, x2, x3, x4, x5⟩ := cells6 hI.cb.blk
      have HM := Lib.hid (brH_is x3)
      have HC := load_any D hI.cr.rep b hI.kr
      unfold StoI.val at HC
      rcases hld : Tr.load D.S sr b with ⟨s1, er | n⟩
      · have FE := Lib.hid (hI.eq.trans (get_err D hld))
        have her := load_err D (st := sr) (b := b) (e := er) (by rw [hld])
        have Her := Lib.hid her
        have zE : ((er : Int) != 0) = true := by simpa using her
        rw [hld] at HC
        unfold LoR ndZ Tr.brV at HC
        dsimp only at HC
        clear hI hld her
        go_wp2_with (go_at_call 72; (with_reducible refine HC.mono ?_); rintro e w2 ⟨X2, hR2, hS2, v, c, rfl, hc, rfl⟩; subst c; (have C2 := (HI.out.cr.step hR2 hS2).below (below_alloc1 w2 (.cells #[.int .i64 0, .slice none 0 0, .slice none 0 0, .slice none 0 0, .slice none 0 0] 35))); (obtain ⟨j1, j2, j3, j4, j5, b1, b2, b3, b4, b5, ⟨a0, a1, a2, a3, a4⟩, ⟨o0, o1, o2, o3, o4⟩, ⟨u0, u1, u2, u3, u4⟩, -, S8⟩ := C2.five (.int .i64 0) (.int .i64 0) (.int .i64 0) (.int .i64 0) (.int .i64 0)); (have S8 := Lib.hid S8); clear C2 hR2 hS2)
        rw [FE.out]
        refine bodyPost_ret (v := .tuple #[ev Tr.z, .bool false, .int .i64 er]) ?_ rfl ⟨X2, S8.out.rep, S8.out.stp, Her.out, rfl⟩
        simp [results, Try.results37]
        go_simp
        simp [ev, evv, Tr.z]
      · have hf := load_fits D (st := sr) (b := b) (n := n) (by rw [hld])
        have HF := Lib.hid hf
        have hfl := find_lt (ks := n.ks) (key := key)
        obtain ⟨k1, hk1⟩ : ∃ k, n.ks.length = k := ⟨_, rfl⟩
        obtain ⟨k2, hk2⟩ : ∃ k, n.ps.length = k := ⟨_, rfl⟩
        obtain ⟨k3, hk3⟩ : ∃ k, n.gs.length = k := ⟨_, rfl⟩
        obtain ⟨k4, hk4⟩ : ∃ k, n.cs.length = k := ⟨_, rfl⟩
        obtain ⟨nh, hnh⟩ : ∃ k, n.h = k := ⟨_, rfl⟩
        obtain ⟨fi, hfi⟩ : ∃ i, (Nd.find n.ks key).1 = i := ⟨_, rfl⟩
        have HK := Lib.hid (show n.ks.length = k1 ∧ n.ps.length = k2 ∧ n.gs.length = k3 ∧ n.cs.length = k4 ∧ n.h = nh from ⟨hk1, hk2, hk3, hk4, hnh⟩)
        have HFi := Lib.hid hfi
        have HFn := Lib.hid (fun (u : World) (v : Value) (hv : NdAt u u.heap.size v n) => find_any hv key (by have := hf.1.few; omega))
        rw [hld] at HC
        unfold LoR Tr.brV at HC
        dsimp only at HC
        by_cases h0 : nh = 0
        · have hb0 : b.h.toNat = 0 := by have := hf.2.1; omega
          have hget := get_zero D (key := key) hld
          rw [← hb0, ← hI.eq, hfi] at hget
          have g0 : ((nh : Int) == 0) = true := by rw [h0]; rfl
          cases hsame : (Nd.find n.ks key).2 with
          | true =>
            rw [hsame, if_pos rfl] at hget
            obtain ⟨e0, he0⟩ : ∃ e, e = Tr.leafE n fi := ⟨_, rfl⟩
            rw [← he0] at hget
            have FE := Lib.hid hget
            rw [hsame, hfi] at HFn
            have hlt : fi < n.ks.length := by
              rcases hfl with h1 | ⟨-, h1⟩
              · rw [← hfi]; exact h1
              · rw [hsame] at h1; cases h1
            obtain ⟨hl1, hl2, -, -⟩ := hf.1.leaf (hnh.trans h0)
            have HEn := Lib.hid (fun (u : World) (v : Value) (hv : NdAt u u.heap.size v n) => by
              have := entryof_any hv fi hlt (by omega) (by omega)
              rw [← he0] at this
              exact this)
            clear hI hld hf hfl hk1 hk2 hk3 hk4 hnh hfi h0 hb0 hget hsame he0 hlt hl1 hl2
            obtain ⟨ek, ⟨e1, e2, e3⟩, eg⟩ := e0
            dsimp only [ev, evv] at HEn
            go_wp2_with (first
              | (go_at_call 72; (with_reducible refine HC.mono ?_); rintro e w2 ⟨X2, hR2, hS2, v, c, rfl, rfl, hv⟩; (obtain ⟨A1, c1, A2, c2, A3, c3, A4, c4, e5, hf5⟩ := hv.now); rw [HK.out.1, HK.out.2.1, HK.out.2.2.1, HK.out.2.2.2.1, HK.out.2.2.2.2] at e5; subst e5; (obtain ⟨yb, hyb⟩ : ∃ y, w2.heap.size = y := ⟨_, rfl⟩); (obtain ⟨W3, hW3⟩ : ∃ W, w2.alloc (.cells #[.int .i64 nh, .slice A1 k1 c1, .slice A2 k2 c2, .slice A3 k3 c3, .slice A4 k4 c4] 35) = W := ⟨_, rfl⟩); (have b3 : Below w2.heap.size w2 W3 := by rw [← hW3]; exact below_alloc1 _ _); (have hnd3 := Fast.below hv b3); (have bn3 : Blk W3 yb 35 #[.int .i64 nh, .slice A1 k1 c1, .slice A2 k2 c2, .slice A3 k3 c3, .slice A4 k4 c4] := by rw [← hW3, ← hyb]; exact Blk.new _ _ _); (obtain ⟨q0, q1, q2, q3, q4⟩ := nod5 bn3); (have Bn3 := Lib.hid bn3); (have N3 := Lib.hid hnd3); (have C3 := Lib.hid ((HI.out.cr.step hR2 hS2).below b3)); (have D3 := Lib.hid ((HI.out.cb.step hR2 hS2).below b3)); clear hR2 hS2 hv hf5 b3 hnd3 bn3)
              | (go_at_call 28; (with_reducible refine (HFn.out W3 _ N3.out.now).mono ?_); rintro e w4 ⟨rfl, hb4⟩; (have C4 := Lib.hid (C3.out.below hb4)); (have D4 := Lib.hid (D3.out.below hb4)); (have N4 := Lib.hid (Fast.below N3.out hb4)); (obtain ⟨q0, q1, q2, q3, q4⟩ := nod5 (Bn3.out.keep (hb4.block yb Bn3.out.lt))); clear hb4)
              | (go_at_call 70; (with_reducible refine (HEn.out w4 _ N4.out.now).mono ?_); rintro e w5 ⟨rfl, hb5⟩; (have C5 := C4.out.below hb5); (obtain ⟨j1, j2, j3, j4, j5, b1, b2, b3, b4, b5, ⟨a0, a1, a2, a3, a4⟩, ⟨o0, o1, o2, o3, o4⟩, ⟨u0, u1, u2, u3, u4⟩, -, S8⟩ := C5.five (.int .i64 ek) (.int .i64 e1) (.int .i64 e2) (.int .i64 e3) (.int .i64 eg)); (have S8 := Lib.hid S8); clear C5 hb5))
            rw [FE.out]
            refine bodyPost_ret (v := .tuple #[.agg #[.int .i64 ek, .int .i64 e1, .int .i64 e2, .int .i64 e3, .int .i64 eg], .bool true, .int .i64 0]) ?_ rfl ⟨X2, S8.out.rep, S8.out.stp, rfl⟩
            simp [results, Try.results37]
            go_simp
          | false =>
            rw [hsame, if_neg (by decide)] at hget
            have FE := Lib.hid hget
            rw [hsame, hfi] at HFn
            clear hI hld hf hfl hk1 hk2 hk3 hk4 hnh hfi h0 hb0 hget hsame
            go_wp2_with (first
              | (go_at_call 72; (with_reducible refine HC.mono ?_); rintro e w2 ⟨X2, hR2, hS2, v, c, rfl, rfl, hv⟩; (obtain ⟨A1, c1, A2, c2, A3, c3, A4, c4, e5, hf5⟩ := hv.now); rw [HK.out.1, HK.out.2.1, HK.out.2.2.1, HK.out.2.2.2.1, HK.out.2.2.2.2] at e5; subst e5; (obtain ⟨yb, hyb⟩ : ∃ y, w2.heap.size = y := ⟨_, rfl⟩); (obtain ⟨W3, hW3⟩ : ∃ W, w2.alloc (.cells #[.int .i64 nh, .slice A1 k1 c1, .slice A2 k2 c2, .slice A3 k3 c3, .slice A4 k4 c4] 35) = W := ⟨_, rfl⟩); (have b3 : Below w2.heap.size w2 W3 := by rw [← hW3]; exact below_alloc1 _ _); (have hnd3 := Fast.below hv b3); (have bn3 : Blk W3 yb 35 #[.int .i64 nh, .slice A1 k1 c1, .slice A2 k2 c2, .slice A3 k3 c3, .slice A4 k4 c4] := by rw [← hW3, ← hyb]; exact Blk.new _ _ _); (obtain ⟨q0, q1, q2, q3, q4⟩ := nod5 bn3); (have Bn3 := Lib.hid bn3); (have N3 := Lib.hid hnd3); (have C3 := Lib.hid ((HI.out.cr.step hR2 hS2).below b3)); (have D3 := Lib.hid ((HI.out.cb.step hR2 hS2).below b3)); clear hR2 hS2 hv hf5 b3 hnd3 bn3)
              | (go_at_call 28; (with_reducible refine (HFn.out W3 _ N3.out.now).mono ?_); rintro e w4 ⟨rfl, hb4⟩; (have C4 := Lib.hid (C3.out.below hb4)); (have D4 := Lib.hid (D3.out.below hb4)); (have N4 := Lib.hid (Fast.below N3.out hb4)); (obtain ⟨q0, q1, q2, q3, q4⟩ := nod5 (Bn3.out.keep (hb4.block yb Bn3.out.lt))); (obtain ⟨j1, j2, j3, j4, j5, b1, b2, b3, b4, b5, ⟨a0, a1, a2, a3, a4⟩, ⟨o0, o1, o2, o3, o4⟩, ⟨u0, u1, u2, u3, u4⟩, -, S8⟩ := C4.out.five (.int .i64 0) (.int .i64 0) (.int .i64 0) (.int .i64 0) (.int .i64 0)); (have S8 := Lib.hid S8); clear hb4))
            rw [FE.out]
            refine bodyPost_ret (v := .tuple #[ev Tr.z, .bool false, .int .i64 0]) ?_ rfl ⟨X2, S8.out.rep, S8.out.stp, rfl⟩
            simp [results, Try.results37]
            go_simp
            simp [ev, evv, Tr.z]
        · obtain ⟨j, hj⟩ : ∃ j, b.h.toNat = j + 1 := ⟨b.h.toNat - 1, by have := hf.2.1; have := hf.1.h0; omega⟩
          have g0 : ((nh : Int) == 0) = false := by rw [beq_eq_false_iff_ne]; exact h0
          obtain ⟨hi1, hi2, -⟩ := hf.1.inner (by rw [hnh]; exact h0)
          have hlt : fi < n.ks.length := by
            rcases hfl with h1 | ⟨h1, -⟩
            · rw [← hfi]; exact h1
            · omega
          have hz : (fi : Int) < (k1 : Int) := by omega
          obtain ⟨sm, hsm⟩ : ∃ s, (Nd.find n.ks key).2 = s := ⟨_, rfl⟩
          obtain ⟨kk, hkk⟩ : ∃ k, Nd.at_ n.ks fi = k := ⟨_, rfl⟩
          rw [hsm, hfi] at HFn
          have HKi := Lib.hid (fun (u : World) (A : Option Addr) (c : Nat) (hs : SlC u u.heap.size A c n.ks.length (ivs n.ks)) => hs.int hlt)
          rw [hkk] at HKi
          have HCs := Lib.hid (show n.ks.length = n.cs.length from hi1.symm)
          by_cases hgt : key < kk
          · have t1 : decide (key < kk) = true := by rw [decide_eq_true_eq]; exact hgt
            have hget := get_no D (h := j) (key := key) hld (by rw [hfi, hkk]; exact hgt)
            rw [← hj, ← hI.eq] at hget
            have FE := Lib.hid hget
            clear hI hld hf hfl hk1 hk2 hk3 hk4 hnh hfi h0 hget hsm hkk hi1 hi2 hlt hgt hj
            go_wp2_with (first
              | (go_at_call 72; (with_reducible refine HC.mono ?_); rintro e w2 ⟨X2, hR2, hS2, v, c, rfl, rfl, hv⟩; (obtain ⟨A1, c1, A2, c2, A3, c3, A4, c4, e5, hf5⟩ := hv.now); rw [HK.out.1, HK.out.2.1, HK.out.2.2.1, HK.out.2.2.2.1, HK.out.2.2.2.2] at e5; subst e5; (obtain ⟨yb, hyb⟩ : ∃ y, w2.heap.size = y := ⟨_, rfl⟩); (obtain ⟨W3, hW3⟩ : ∃ W, w2.alloc (.cells #[.int .i64 nh, .slice A1 k1 c1, .slice A2 k2 c2, .slice A3 k3 c3, .slice A4 k4 c4] 35) = W := ⟨_, rfl⟩); (have b3 : Below w2.heap.size w2 W3 := by rw [← hW3]; exact below_alloc1 _ _); (have hnd3 := Fast.below hv b3); (have bn3 : Blk W3 yb 35 #[.int .i64 nh, .slice A1 k1 c1, .slice A2 k2 c2, .slice A3 k3 c3, .slice A4 k4 c4] := by rw [← hW3, ← hyb]; exact Blk.new _ _ _); (obtain ⟨q0, q1, q2, q3, q4⟩ := nod5 bn3); (have Bn3 := Lib.hid bn3); (have N3 := Lib.hid hnd3); (have C3 := Lib.hid ((HI.out.cr.step hR2 hS2).below b3)); (have D3 := Lib.hid ((HI.out.cb.step hR2 hS2).below b3)); clear hR2 hS2 hv hf5 b3 hnd3 bn3)
              | (go_at_call 28; (with_reducible refine (HFn.out W3 _ N3.out.now).mono ?_); rintro e w4 ⟨rfl, hb4⟩; (have C4 := Lib.hid (C3.out.below hb4)); (have D4 := Lib.hid (D3.out.below hb4)); (have N4 := Lib.hid (Fast.below N3.out hb4)); (obtain ⟨q0, q1, q2, q3, q4⟩ := nod5 (Bn3.out.keep (hb4.block yb Bn3.out.lt))); (obtain ⟨kb, ko, hkA, -, dk⟩ := HKi.out w4 A1 c1 (key_sl N4.out.now)); subst hkA; (obtain ⟨x0, x1, x2, x3, x4, x5⟩ := cells6 D4.out.blk); (obtain ⟨j1, j2, j3, j4, j5, b1, b2, b3, b4, b5, ⟨a0, a1, a2, a3, a4⟩, ⟨o0, o1, o2, o3, o4⟩, ⟨u0, u1, u2, u3, u4⟩, -, S8⟩ := C4.out.five (.int .i64 0) (.int .i64 0) (.int .i64 0) (.int .i64 0) (.int .i64 0)); (have S8 := Lib.hid S8); clear hb4))
            rw [FE.out]
            refine bodyPost_ret (v := .tuple #[ev Tr.z, .bool false, .int .i64 0]) ?_ rfl ⟨X2, S8.out.rep, S8.out.stp, rfl⟩
            simp [results, Try.results37]
            go_simp
            simp [ev, evv, Tr.z]
          · have t1 : decide (key < kk) = false := by rw [decide_eq_false_iff_not]; exact hgt
            have hget := get_on D (h := j) (key := key) hld (by rw [hfi, hkk]; exact hgt)
            rw [← hj, ← hI.eq, hfi] at hget
            obtain ⟨c0, hc0⟩ : ∃ c, c = Tr.kidB b n fi := ⟨_, rfl⟩
            have Hjc := Lib.hid (show c0.h.toNat = j ∧ b.h.toNat = j + 1 from ⟨by rw [hc0]; show (b.h - 1).toNat = j; omega, hj⟩)
            have HKc := Lib.hid (show Tr.KR c0.k from by rw [hc0]; exact Tr.kr_kid (h := j) hj hf hlt)
            rw [← hc0] at hget
            have FE := Lib.hid (show RR = Tr.getP D.S c0.h.toNat s1 c0 key from by rw [Hjc.out.1]; exact hget)
            have HBr := Lib.hid (fun (u : World) (v : Value) (hv : NdAt u u.heap.size v n) => by
              have := branchof_any b hv fi hlt (by omega) (by have := hf.1.h0; have := hf.1.h6; have := hf.2.1; omega) hf.1.few
              rw [← hc0] at this
              exact this)
            unfold Tr.brV at HBr
            clear hI hld hf hfl hk1 hk2 hk3 hk4 hnh hfi h0 hget hsm hkk hi1 hi2 hlt hgt hj hc0
            go_wp2_with (first
              | (go_at_call 72; (with_reducible refine HC.mono ?_); rintro e w2 ⟨X2, hR2, hS2, v, c, rfl, rfl, hv⟩; (obtain ⟨A1, c1, A2, c2, A3, c3, A4, c4, e5, hf5⟩ := hv.now); rw [HK.out.1, HK.out.2.1, HK.out.2.2.1, HK.out.2.2.2.1, HK.out.2.2.2.2] at e5; subst e5; (obtain ⟨yb, hyb⟩ : ∃ y, w2.heap.size = y := ⟨_, rfl⟩); (obtain ⟨W3, hW3⟩ : ∃ W, w2.alloc (.cells #[.int .i64 nh, .slice A1 k1 c1, .slice A2 k2 c2, .slice A3 k3 c3, .slice A4 k4 c4] 35) = W := ⟨_, rfl⟩); (have b3 : Below w2.heap.size w2 W3 := by rw [← hW3]; exact below_alloc1 _ _); (have hnd3 := Fast.below hv b3); (have bn3 : Blk W3 yb 35 #[.int .i64 nh, .slice A1 k1 c1, .slice A2 k2 c2, .slice A3 k3 c3, .slice A4 k4 c4] := by rw [← hW3, ← hyb]; exact Blk.new _ _ _); (obtain ⟨q0, q1, q2, q3, q4⟩ := nod5 bn3); (have Bn3 := Lib.hid bn3); (have N3 := Lib.hid hnd3); (have C3 := Lib.hid ((HI.out.cr.step hR2 hS2).below b3)); (have D3 := Lib.hid ((HI.out.cb.step hR2 hS2).below b3)); clear hR2 hS2 hv hf5 b3 hnd3 bn3)
              | (go_at_call 28; (with_reducible refine (HFn.out W3 _ N3.out.now).mono ?_); rintro e w4 ⟨rfl, hb4⟩; (have C4 := Lib.hid (C3.out.below hb4)); (have D4 := Lib.hid (D3.out.below hb4)); (have N4 := Lib.hid (Fast.below N3.out hb4)); (obtain ⟨q0, q1, q2, q3, q4⟩ := nod5 (Bn3.out.keep (hb4.block yb Bn3.out.lt))); (obtain ⟨kb, ko, hkA, -, dk⟩ := HKi.out w4 A1 c1 (key_sl N4.out.now)); subst hkA; (obtain ⟨x0, x1, x2, x3, x4, x5⟩ := cells6 D4.out.blk); clear hb4)
              | (go_at_call 73; (with_reducible refine (HBr.out w4 _ N4.out.now).mono ?_); rintro e w5 ⟨rfl, hb5⟩; (have C5 := C4.out.below hb5); (have D5 := D4.out.below hb5); (obtain ⟨j1, j2, j3, j4, j5, j6, b1, b2, b3, b4, b5, b6, ⟨a0, a1, a2, a3, a4, a5⟩, ⟨o0, o1, o2, o3, o4, o5⟩, ⟨u0, u1, u2, u3, u4, u5⟩, hk5, S8⟩ := D5.six (.int .i64 c0.k.1) (.int .i64 c0.k.2.1) (.int .i64 c0.k.2.2) (.int .i64 c0.h) (.int .i64 c0.f) (.int .i64 c0.t)); (have N8 := Lib.hid (show GtI D w X key RR rb bq c0 j6 X2 s1 from ⟨C5.oth S8 Hne.out hk5, S8, FE.out, HKc.out⟩)); clear C5 D5 hb5 hk5 S8))
            go_roundw
            case rel => exact ⟨rfl, c0, X2, s1, N8.out⟩
            case measure => rw [HM.out, brH_is u3]; have := Hjc.out; omega
  · have HKy := Lib.hid (fun u => iskey_any key false (by rw [decide_eq_false_iff_not]; exact hkey) u)
    obtain ⟨j1, j2, j3, j4, j5, b1, b2, b3, b4, b5, ⟨a0, a1, a2, a3, a4⟩, ⟨o0, o1, o2, o3, o4⟩, ⟨u0, u1, u2, u3, u4⟩, -, S8⟩ := CR.out.five (.int .i64 0) (.int .i64 0) (.int .i64 0) (.int .i64 0) (.int .i64 0)
    have S8 := Lib.hid S8
    have Hkey := Lib.hid hkey
    clear hkey
    suffices K : Calls Try.prog 37 #[.iface D.t D.v, .agg #[.int .i64 k.1, .int .i64 k.2.1, .int .i64 k.2.2, .int .i64 h], .int .i64 key] w (GtR D w X st (.error 1)) from K.mono fun e w' hg => ⟨fun hy => absurd hy Hkey.out, fun _ => hg⟩
    go_enter Try.func37, Try.ntmps37
    go_wp2_with (go_at_call 71; (with_reducible refine (HKy.out _).mono ?_); rintro r w6 ⟨rfl, rfl⟩)
    refine bodyPost_ret (v := .tuple #[ev Tr.z, .bool false, .int .i64 1]) ?_ rfl ⟨X, S8.out.rep, S8.out.stp, (by decide), rfl⟩
    simp [results, Try.results37]
    go_simp
    simp [ev, evv, Tr.z]
end
end Go.Proofs.Ytlcchefiicalpaa
