/- The program's Pack. What the statements of layer 6 ask of the program's Unpack, Pack and Most: all of it, met. -/
import Derived.Test.YtnkgcibdibgmjaaLzpk
import Derived.Test.YtnkgcibdibgmjaaLzfin
import Derived.Test.YtnkgcibdibgmjaaLzapp
import Derived.Test.YtnkgcibdibgmjaaLzunp
namespace Go.Proofs.Ytnkgcibdibgmjaa
open Go.RowKit

/-- The finder's type, its number hidden, and what Pack asks of it. -/
structure T47 (t : TypeId) : Prop where
  ht : t = 46
  build : ∀ (A : Option Addr) (N c : Nat) (w : World), (Instr.build t #[(0, .slice A N c)]).run Try.prog w = .ok (.agg (fin0 (.slice A N c))) w
  box : ∀ (Z : Array Value) (w : World), (Instr.box t (.agg Z)).run Try.prog w = .ok (.pointer (some ⟨w.heap.size, 0, none⟩)) (w.alloc (.cells Z t))
theorem t47 : ∃ t, T47 t := ⟨_, rfl, fun A N c w => by kernel_rfl, fun Z w => rfl⟩

theorem wpList_build {P : Program} {w : World} {ops : Array Oper} {rest : List Oper} {o : Oper} {a : Act} {Q : Exit → Act → World → Prop} (hgd : o.guard = none) (t : TypeId) (x : Operand) (ho : o.op = .build t #[(0, x)]) {v Z : Value} (hv : a.eval x = v) (hrun : (Instr.build t #[(0, v)]).run P w = .ok Z w)
    (h : wpList P ops Q rest (a.put o.dst Z) w) : wpList P ops Q (o :: rest) a w := by
  refine wpList_plain hgd fun K hK => ?_
  unfold Oper.wp execOp
  simp only [ho, Sem.run_bind, Sem.run_pure, Result.andThen_ok, List.map_toArray, List.map_cons, List.map_nil, hv, hrun]
  exact hK _ _ h
theorem fin_cells (v z x : Value) (k : Nat) : (v :: (List.replicate k z ++ [x])).toArray.size = k + 2 ∧ (v :: (List.replicate k z ++ [x])).toArray[0]? = some v ∧ (∀ i, i < k → (v :: (List.replicate k z ++ [x])).toArray[1 + i]? = some z) ∧ (v :: (List.replicate k z ++ [x])).toArray[k + 1]? = some x := by
  refine ⟨by simp, by simp, fun i hi => ?_, ?_⟩
  · rw [List.getElem?_toArray, Nat.add_comm, List.getElem?_cons_succ, List.getElem?_append_left (by simpa using hi), List.getElem?_replicate, if_pos hi]
  · rw [List.getElem?_toArray, List.getElem?_cons_succ, List.getElem?_append_right (by simp)]
    simp
theorem fin_new {w' : World} {B g c : Nat} {A : Option Addr} {l : List Nat} (hg : B ≤ g) (hsl : Sl w' B A (byts l)) (h : Blk w' g 46 (fin0 (.slice A l.length c))) : Fin w' B g A c l 0 := by
  obtain ⟨h1, h2, h3, h4⟩ := fin_cells (.slice A l.length c) (.int .i64 0) (.int .i64 0) 4096
  exact ⟨hg, hsl, _, h, h1, h2, fun k hk => h3 k hk, h4⟩
/-- Between two places of the search. -/
structure PackSt (W wr : World) (g : Nat) (A : Option Addr) (c : Nat) (l R : List Nat) (f s a : Nat) (A' : Option Addr) (n c' : Nat) (o : List Nat) (m : Nat) : Prop where
  fin : Fin wr W.heap.size g A c l m
  hm : m ≤ a
  own : OwnB wr W.heap.size A' n c' o
  far : bk A' ≠ some g
  bel : Below W.heap.size W wr
  sa : s ≤ a
  al : a ≤ l.length
  fuel : l.length ≤ f + a
  is : o ++ Lz.enc (Lz.seqs l f s a).1 (Lz.seqs l f s a).2 = R

set_option maxRecDepth 8000 in
set_option maxHeartbeats 8000000 in
theorem pack_is : PackC Lz.thePack := by
  intro W A c l N hby hlen hN
  obtain ⟨i0, hi0, hz0, hs0, hb0⟩ := byte_parts (P := Try.prog) (e := 5) (by kernel_rfl)
  by_cases hbig : 4096 < l.length
  · have q1 : decide (4096 < (N : Int)) = true := by rw [decide_eq_true_eq]; omega
    have q1' : decide (4096 < N) = true := by rw [decide_eq_true_eq]; omega
    have he : Lz.thePack l = [] := by unfold Lz.thePack; rw [if_pos hbig]
    rw [he]
    clear he hN hby hlen
    go_enter Try.func10, Try.ntmps10
    go_wp2_with fail
    go_ret
    exact ⟨none, 0, rfl, By.none _, Below.refl _ _⟩
  have q1 : decide (4096 < (N : Int)) = false := by rw [decide_eq_false_iff_not]; omega
  have q1' : decide (4096 < N) = false := by rw [decide_eq_false_iff_not]; omega
  have hNb : N ≤ 4096 := by omega
  have hl := hby.lt
  have hlc := hby.cap
  have hA := hby.nil
  rw [← hN] at hlc
  obtain ⟨M, hM⟩ : ∃ M, M = N + N / 255 + 16 := ⟨_, rfl⟩
  have N1 := Lib.hid (most_is N (N : Int) W hNb rfl)
  rw [← hM] at N1
  obtain ⟨w0, hmk, hown0, hgr0⟩ := run_make_own (P := Try.prog) W W.heap.size 22 5 i0 (.int .u8 0) 1 Try.underlying22 hi0 hz0 hs0 .i64 .i64 M (by rw [hb0]; omega) (by unfold maxLen; omega) (Nat.le_refl _)
  obtain ⟨t, T⟩ := t47
  have E1 : ∀ a, Op.build 46 a = Op.build t a := by rw [T.ht]; exact fun _ => rfl
  have E2 : ∀ a, Op.box 46 a = Op.box t a := by rw [T.ht]; exact fun _ => rfl
  obtain ⟨Z, hZ⟩ : ∃ Z, Z = fin0 (.slice A N c) := ⟨_, rfl⟩
  have hbuild : ∀ w, (Instr.build t #[(0, .slice A N c)]).run Try.prog w = .ok (.agg Z) w := by rw [hZ]; exact T.build A N c
  have hbox := T.box Z
  obtain ⟨w1, h1⟩ : ∃ x, x = w0.alloc (.cells Z t) := ⟨_, rfl⟩
  have e1 : w0.alloc (.cells Z t) = w1 := h1.symm
  obtain ⟨g, hg⟩ : ∃ g, w0.heap.size = g := ⟨_, rfl⟩
  have hW0 : W.heap.size ≤ w0.heap.size := hgr0.size
  have hb0w : Below W.heap.size W w0 := (Below.refl _ _).grown hgr0 (Nat.le_refl _) (fun k hk => by simp at hk)
  have hb1w : Below W.heap.size W w1 := by rw [h1]; exact hb0w.alloc hW0 _
  have hfin : Fin w1 W.heap.size g A c l 0 := by
    refine fin_new (by omega) (hby.sl.below hb1w) ?_
    rw [h1, ← T.ht, ← hN, ← hZ, ← hg]
    exact Blk.new _ _ _
  have hlt0 := fun b hb => (hown0.lt b hb).2
  have S0 := Lib.hid (show PackSt W w1 g A c l (Lz.thePack l) l.length 0 0 (some ⟨W.heap.size, 0, none⟩) 0 M [] 0 from
    ⟨hfin, Nat.le_refl _, by rw [h1]; exact ownB_alloc hown0 _, fun hk => by rw [← bk_own _ 0 M] at hk; have := hlt0 g hk; omega, hb1w, Nat.le_refl _, Nat.zero_le _, by omega, by unfold Lz.thePack; rw [if_neg hbig]; rfl⟩)
  have HN := Lib.hid hN
  have HP := Lib.hid (Lz.pack_lt hl)
  have hpl := Lz.pack_len hl (by omega)
  have Hl := Lib.hid hl
  have HA := Lib.hid hA
  clear h1 hZ T hfin hb1w hb0w hlt0 hown0 hgr0 hM hbig hN hlen hl hA
  generalize Lz.thePack l = R at *
  go_enter Try.func10, Try.ntmps10
  simp only [E1, E2]
  clear E1 E2
  go_wp2_with fail
  refine N1.out.mono ?_
  rintro e w' ⟨rfl, hw'⟩
  subst w'
  go_wp2_with ((with_reducible show wpList _ _ _ (⟨some 17, _, _, _, _, _⟩ :: _) _ _); refine wpList_build rfl t (.tmp 16) rfl rfl (hbuild _) ?_)
  go_loopg [3, 5, 6] N (fun f v x y wr => ∃ (s a n c' m : Nat) (A' : Option Addr) (o : List Nat), v = .slice A' n c' ∧ x = .int .i64 s ∧ y = .int .i64 a ∧ PackSt W wr g A c l R f s a A' n c' o m)
  case atStart => exact ⟨0, 0, 0, M, 0, _, [], rfl, rfl, rfl, by rw [HN.out]; exact S0.out⟩
  case round =>
    obtain ⟨s, a, n, c', m, A', o, rfl, rfl, rfl, hst⟩ := hrel
    have St := Lib.hid hst
    have hsa := hst.sa
    have hal := hst.al
    rw [← HN.out] at hal
    have hWr : W.heap.size ≤ wr.heap.size := hst.bel.size
    have hno : n ≤ 4200 := by
      have h1 := ownB_len hst.own
      have h2 := congrArg List.length hst.is
      rw [List.length_append] at h2
      omega
    clear hst S0 hmk
    by_cases h12 : a + 12 ≤ N
    · have p1 : decide ((a : Int) ≤ (N : Int) - 12) = true := by rw [decide_eq_true_eq]; omega
      have h12l : a + 12 ≤ l.length := by rw [← HN.out]; exact h12
      have N2 := Lib.hid (find_any St.out.fin Hl.out (by rw [← HN.out]; exact hlc) a St.out.hm h12l (by rw [← HN.out]; exact hNb))
      obtain ⟨f, rfl⟩ : ∃ f', gk = f' + 1 := ⟨gk - 1, by have := St.out.fuel; omega⟩
      by_cases h0 : Lz.findV l a = 0
      · have his := St.out.is
        rw [Lz.seqs_none h12l h0] at his
        have His := Lib.hid his
        rw [h0, show (((0 : Nat) : Int) - 1) = -1 from rfl] at N2
        clear his h0
        go_wp2_with fail
        refine N2.out.mono ?_
        rintro e w2 ⟨rfl, hf2, hc2⟩
        go_wp2_with fail
        go_roundg f
        case rel => exact ⟨s, a + 1, n, c', a, A', o, rfl, rfl, by go_num, hf2, Nat.le_succ _, own_keep St.out.own fun b hb hlt => hc2.block b hlt (fun e => St.out.far (by rw [← bk_own A' n c', hb, e])), St.out.far, St.out.bel.trans (Chg.below hc2 hWr (fun i hi => by rw [hi]; exact St.out.fin.bg)), by omega, by omega, by have := St.out.fuel; omega, His.out⟩
        case measure => omega
      · have hle := Lz.findV_le l a
        obtain ⟨p, hp⟩ : ∃ p, Lz.findV l a = p + 1 := ⟨Lz.findV l a - 1, by omega⟩
        have his := St.out.is
        rw [Lz.seqs_some h12l hp] at his
        have hpa : p < a := by omega
        have hge := Lz.sizeF_ge l p a l.length 4
        have hle2 := Lz.sizeF_le l p a l.length 4 (by omega)
        change 4 ≤ Lz.sizeV l p a at hge
        change a + Lz.sizeV l p a + 5 ≤ l.length at hle2
        rw [← HN.out] at hle2
        rw [hp, show (((p + 1 : Nat) : Int) - 1) = (p : Int) by omega] at N2
        have q3 : decide ((p : Int) < 0) = false := by rw [decide_eq_false_iff_not]; omega
        clear h0 hp hle
        go_wp2_with fail
        refine N2.out.mono ?_
        rintro e w2 ⟨rfl, hf2, hc2⟩
        have N3 := Lib.hid (size_any hf2 p a (p : Int) (a : Int) rfl rfl hpa (by omega) (by rw [← HN.out]; exact hNb))
        have Ow2 := own_keep St.out.own fun b hb hlt => hc2.block b hlt (fun e => St.out.far (by rw [← bk_own A' n c', hb, e]))
        have hB2 := St.out.bel.trans (Chg.below hc2 hWr (fun i hi => by rw [hi]; exact St.out.fin.bg))
        obtain ⟨Z, hZ⟩ : ∃ Z, Z = Lz.sizeV l p a := ⟨_, rfl⟩
        rw [← hZ] at N3 hge hle2 his
        have F2 := Lib.hid hf2
        have O2 := Lib.hid Ow2
        have B2 := Lib.hid hB2
        have His := Lib.hid his
        clear hf2 hc2 Ow2 hB2 his hZ N2
        go_wp2_with fail
        refine N3.out.mono ?_
        rintro e w3 ⟨rfl, k3, rfl⟩
        have hbd : Below w2.heap.size w2 (w2.drewN k3) := drewN_below k3
        have F3 := Lib.hid (F2.out.drewN k3)
        have O3 := Lib.hid (own_keep O2.out fun b hb hlt => hbd.block b hlt)
        have B3 := Lib.hid (B2.out.trans (hbd.mono B2.out.size))
        clear hbd F2 O2 B2 N3
        generalize w2.drewN k3 = w3 at *
        have hW3 : W.heap.size ≤ w3.heap.size := B3.out.size
        obtain ⟨L, hL⟩ : ∃ L, L = a - s := ⟨_, rfl⟩
        have hll : ((l.drop s).take (a - s)).length = a - s := by rw [List.length_take, List.length_drop, ← HN.out]; omega
        have hcut : ∀ w, (Instr.slice 22 (.slice A N c) (some (.int .i64 (s : Int))) (some (.int .i64 (a : Int))) none).run Try.prog w = .ok (.slice (cutA A c s) L (c - s)) w := fun w => by
          rw [hL]
          exact run_slice_mid (P := Try.prog) Try.underlying22 hi0 hs0 A N c s a hsa (by omega) w
        have hapI : (a : Int) - (p : Int) = ((a - p : Nat) : Int) := by omega
        have hslc : Sl w3 W.heap.size (cutA A c s) (byts ((l.drop s).take (a - s))) := by
          rw [← byts_take, ← byts_drop]
          exact ((F3.out.sl).from (by rw [byts_length, ← HN.out]; exact hlc)).to _
        have N4 := Lib.hid (amatch_any O3.out hW3 (by omega) hslc (by rw [hll]; omega) (cutA_nil HA.out) L (by rw [hll]; exact hL) (by omega) (a - p) (Z - 4) ((a - p : Nat) : Int) (Z : Int) rfl (by omega) (by omega) (by omega))
        have Hll := Lib.hid hll
        clear hslc hll
        generalize hS : (Lz.Seq.mk ((l.drop s).take (a - s)) (a - p) (Z - 4)).enc = Sq at *
        clear hS
        generalize (a - p : Nat) = bkw at *
        have HLs := Lib.hid hL
        clear hL
        go_wp2_with fail
        refine N4.out.mono ?_
        rintro e w4 ⟨A4, c4, rfl, o4, p4⟩
        have hW4 := p4.bel
        go_wp2_with fail
        go_roundg f
        case rel =>
          refine ⟨a + Z, a + Z, n + Sq.length, c4, a, A4, o ++ Sq, rfl, by go_num, by go_num, ?_⟩
          exact ⟨F3.out.keep (p4.chg.block g F3.out.lt (fun e => St.out.far e)) p4.bel, by omega, o4, fun e => by
            rcases p4.new g e with h | h
            · exact St.out.far h
            · have := F3.out.lt; omega, B3.out.trans p4.bel, Nat.le_refl _, by rw [← HN.out]; omega, by have := St.out.fuel; omega, by rw [List.append_assoc]; exact His.out⟩
        case measure => omega
    · have p1 : decide ((a : Int) ≤ (N : Int) - 12) = false := by rw [decide_eq_false_iff_not]; omega
      have his := St.out.is
      rw [Lz.seqs_end (by rw [← HN.out]; exact h12)] at his
      have hlb : Lz.encLast (l.drop s) = litB (l.drop s) 0 := by unfold Lz.encLast litB Lz.nib; simp
      change o ++ Lz.encLast (l.drop s) = R at his
      rw [hlb] at his
      have hll : (l.drop s).length = N - s := by rw [List.length_drop, ← HN.out]
      have hcut := run_slice_from (P := Try.prog) Try.underlying22 hi0 hs0 A N c s (by omega)
      have hslc : Sl wr W.heap.size (cutA A c s) (byts (l.drop s)) := by
        rw [← byts_drop]
        exact (St.out.fin.sl).from (by rw [byts_length, ← HN.out]; exact hlc)
      have N4 := Lib.hid (alit_any St.out.own hWr (by omega) hslc (by rw [hll]; omega) (cutA_nil HA.out) (N - s) hll.symm (by omega) 0 0 rfl (by omega))
      have His := Lib.hid his
      clear his hlb hll hslc
      generalize litB (l.drop s) 0 = Sq at *
      go_wp2_with fail
      refine N4.out.mono ?_
      rintro e w4 ⟨A4, c4, rfl, o4, p4⟩
      have hfin : ∃ A5 c5, Ending.returned (.slice A4 (n + Sq.length) c4) = .returned (.slice A5 R.length c5) ∧ By w4 A5 c5 R ∧ Below W.heap.size W w4 := by
        have hlen4 := ownB_len o4
        rw [His.out] at hlen4 o4
        exact ⟨A4, c4, by rw [hlen4], By.of_own o4 HP.out (by omega), St.out.bel.trans p4.bel⟩
      have Hfin := Lib.hid hfin
      clear hfin o4 p4
      go_wp2_with fail
      go_ret
      exact Hfin.out
theorem pack_ok : PackOk Lz.thePack where
  seqs := fun l hl hlen => Lz.pack_seqs hl hlen
  none := fun l h => by unfold Lz.thePack; rw [if_pos h]
  small := fun k x h1 h2 _ => Lz.rep_small k x h1 h2
end Go.Proofs.Ytnkgcibdibgmjaa


