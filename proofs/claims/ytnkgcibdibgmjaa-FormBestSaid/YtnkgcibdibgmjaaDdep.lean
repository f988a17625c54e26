/- The program's depths. -/
import Derived.Test.YtnkgcibdibgmjaaDjoin
import Derived.Test.YtnkgcibdibgmjaaDmk
import Derived.Deep.DeepCutAuto
import Derived.Deep.RegionWith
namespace Go.Proofs.Ytnkgcibdibgmjaa
open Go.RowKit

/-- What join is held to. -/
def JoinC : Prop := ∀ (w : World) (B g n t pb pc : Nat) (V : Value) (f : Fo), FoW w B g n V pb pc f → FoOk n t f → n ≤ 256 → t + 1 < n →
  Calls Try.prog 58 #[.pointer (some ⟨g, 0, none⟩)] w fun e w' => e = .returned (.tuple #[]) ∧ (∃ V', FoW w' B g n V' pb pc (f.joined n)) ∧ Below B w w'

theorem FoW.boxed {w : World} {B n pb : Nat} {V : Value} {ws : List Int} (hn : ws.length = n) (own : Row w (fun b => B ≤ b) 3 1 V n (ws.map (Value.int .i64))) (par : Blk w pb 3 (ints (List.replicate (2 * n - 1) 0))) (hp : B ≤ pb) (far : V.ownBlock ≠ some pb) :
    FoW (w.alloc (.cells #[V, .slice (some ⟨pb, 0, none⟩) (2 * n - 1) (2 * n - 1), .int .i64 n, .int .i64 0, .int .i64 n] 94)) B w.heap.size n V pb (2 * n - 1) (Fo.first ws) := by
  subst hn
  exact ⟨Nat.le_trans hp (Nat.le_of_lt par.lt), hp, Blk.new _ _ _, own.alloc _, par.alloc _, far⟩
theorem FoW.below {w w' : World} {B B' g n pb pc : Nat} {V : Value} {f : Fo} (h : FoW w B g n V pb pc f) (hg : w'.heap[g]? = w.heap[g]?) (hp : w'.heap[pb]? = w.heap[pb]?) (hv : ∀ b, V.ownBlock = some b → w'.heap[b]? = w.heap[b]?) (hB : B' = B) : FoW w' B' g n V pb pc f := by
  subst hB
  exact ⟨h.gB, h.pB, h.blk.keep hg, h.own.keep hv, h.par.keep hp, h.far⟩
theorem FoW.alloc {w : World} {B g n pb pc : Nat} {V : Value} {f : Fo} (h : FoW w B g n V pb pc f) (o : Obj) : FoW (w.alloc o) B g n V pb pc f := ⟨h.gB, h.pB, h.blk.alloc o, h.own.alloc o, h.par.alloc o, h.far⟩
/-- A store into a block that is none of the forest's. -/
theorem FoW.away {w : World} {B g n pb pc : Nat} {V : Value} {f : Fo} (h : FoW w B g n V pb pc f) {p : Addr} (h1 : p.block ≠ g) (h2 : p.block ≠ pb) (h3 : V.ownBlock ≠ some p.block) (u : Value) : FoW (w.setCell p u) B g n V pb pc f :=
  ⟨h.gB, h.pB, h.blk.far h1 _, h.own.set_far h3 _, h.par.far h2 _, h.far⟩

theorem boxedA {w w1 : World} {n m2 c1 : Nat} {A1 : Option Addr} {ws : List Int} (hn : ws.length = n) (hm : m2 = 2 * n - 1) (o1 : w1.ownsRow w.heap.size 3 1 (.slice A1 n c1) n (ws.map (Value.int .i64))) (b1 : Below w.heap.size w w1) :
    ∃ g V pb, Value.pointer (some ⟨w1.heap.size + 1, 0, none⟩) = Value.pointer (some ⟨g, 0, none⟩) ∧ FoW ((w1.alloc (.cells (ints (List.replicate m2 0)) 3)).alloc (.cells #[.slice A1 n c1, .slice (some ⟨w1.heap.size, 0, none⟩) m2 m2, .int .i64 n, .int .i64 0, .int .i64 n] 94)) w.heap.size g n V pb (2 * n - 1) (Fo.first ws) ∧
      Below w.heap.size w ((w1.alloc (.cells (ints (List.replicate m2 0)) 3)).alloc (.cells #[.slice A1 n c1, .slice (some ⟨w1.heap.size, 0, none⟩) m2 m2, .int .i64 n, .int .i64 0, .int .i64 n] 94)) := by
  subst hm
  have hs : (w1.alloc (.cells (ints (List.replicate (2 * n - 1) 0)) 3)).heap.size = w1.heap.size + 1 := World.size_alloc _ _
  have hb := b1.size
  refine ⟨_, .slice A1 n c1, w1.heap.size, rfl, ?_, (b1.alloc hb _).alloc (by omega) _⟩
  rw [← hs]
  exact FoW.boxed hn (Row.alloc ⟨World.ownsRow_base o1 (Nat.zero_le _), fun k hk => (o1.lt k hk).1⟩ _) (Blk.new _ _ _) hb (fun e => by have := (o1.lt _ e).2; omega)
theorem boxedB {w W w1 : World} {n m2 c1 : Nat} {A1 : Option Addr} {ws : List Int} (hn : ws.length = n) (hm : m2 = 2 * n - 1) (hb : Below w.heap.size w W) (hp : Blk W w.heap.size 3 (ints (List.replicate m2 0))) (o1 : w1.ownsRow W.heap.size 3 1 (.slice A1 n c1) n (ws.map (Value.int .i64))) (b1 : Below W.heap.size W w1) :
    ∃ g V pb, Value.pointer (some ⟨w1.heap.size, 0, none⟩) = Value.pointer (some ⟨g, 0, none⟩) ∧ FoW (w1.alloc (.cells #[.slice A1 n c1, .slice (some ⟨w.heap.size, 0, none⟩) m2 m2, .int .i64 n, .int .i64 0, .int .i64 n] 94)) w.heap.size g n V pb (2 * n - 1) (Fo.first ws) ∧
      Below w.heap.size w (w1.alloc (.cells #[.slice A1 n c1, .slice (some ⟨w.heap.size, 0, none⟩) m2 m2, .int .i64 n, .int .i64 0, .int .i64 n] 94)) := by
  subst hm
  have h1 := hb.size
  have h2 := b1.size
  refine ⟨_, .slice A1 n c1, w.heap.size, rfl, ?_, (hb.trans (b1.mono h1)).alloc (by omega) _⟩
  exact FoW.boxed hn ⟨World.ownsRow_base o1 (Nat.zero_le _), fun k hk => by have := (o1.lt k hk).1; omega⟩ (hp.keep (b1.block _ hp.lt)) (Nat.le_refl _) (fun e => by have := (o1.lt _ e).1; have := hp.lt; omega)

set_option maxHeartbeats 8000000 in
theorem depths_any (J : JoinC) (ws : List Int) (n : Nat) (hn : ws.length = n) (hn2 : n ≤ 256) (a : Addr) (c : Nat) (hc : n ≤ c) (w : World) (hsl : Sl w w.heap.size (some a) (ws.map (Value.int .i64))) :
    Calls Try.prog 44 #[.slice (some a) n c] w fun e w' => ∃ lb, e = .returned (.slice (some ⟨lb, 0, none⟩) n (2 * n - 1)) ∧ Sl w' w'.heap.size (some ⟨lb, 0, none⟩) ((depthsV ws).map (Value.int .i64)) ∧ Below w.heap.size w w' := by
  obtain ⟨m2, hm2⟩ : ∃ m, m = 2 * n - 1 := ⟨_, rfl⟩
  obtain ⟨n2, hn22⟩ : ∃ m, m = 2 * n := ⟨_, rfl⟩
  have CL := Lib.hid (fun (X : World) (hb : Below w.heap.size w X) => iclone_any a c ws n hn X (hsl.below hb) hb.size hc (by omega))
  have w1 : IntKind.i64.wrap ((2 : Int) * (n : Int)) = (n2 : Int) := by rw [IntKind.wrap_i64]; omega
  have w2 : IntKind.i64.wrap ((n2 : Int) - 1) = (n2 : Int) - 1 := by rw [IntKind.wrap_i64]; omega
  have hmx : (if (0 : Int) > (n2 : Int) - 1 then (0 : Int) else (n2 : Int) - 1) = (m2 : Int) := by split <;> omega
  have hmax : ∀ (ts : Array TypeId) (t : TypeId) (W : World), (Builtin.max_ ts t #[.int .i64 ((n2 : Int) - 1), .int .i64 0]).run Try.prog W = .ok (.int .i64 (m2 : Int)) W := fun ts t W => by rw [run_max_int2, hmx]
  have w4 : IntKind.i64.wrap (m2 : Int) = (m2 : Int) := by rw [IntKind.wrap_i64]; omega
  have mk := fun W => make_ints m2 (by omega) W
  rw [icells_ints] at mk
  have hbd : Below w.heap.size w w.drew := (Below.refl _ _).drew
  have Hn := Lib.hid hn
  have Hm2 := Lib.hid hm2
  have HJ := Lib.hid J
  clear J hn hm2 hn22 hsl
  go_enter Try.func44, Try.ntmps44
  go_upto_region 2 with fail
  go_cut [4] from 9 to 19 (fun v wx => ∃ g V pb, v = .pointer (some ⟨g, 0, none⟩) ∧ FoW wx w.heap.size g n V pb (2 * n - 1) (Fo.first ws) ∧ Below w.heap.size w wx)
  case first =>
    have hbd2 : ∀ o, Below w.heap.size w (w.drew.alloc o) := fun o => hbd.alloc (Nat.le_refl _) o
    have hbd3 : ∀ o, Below w.heap.size w (w.alloc o).drew := fun o => ((Below.refl _ _).alloc (Nat.le_refl _) o).drew
    clear hmx
    go_region_with (first
      | (go_at_call 57; refine (CL.out _ (by first | exact hbd | exact hbd2 _ | exact hbd3 _)).mono ?_; rintro e w1 ⟨A1, c1, rfl, o1, b1⟩))
    all_goals (go_wp2_with fail)
    all_goals (go_meet)
    all_goals first
      | exact boxedA Hn.out Hm2.out o1 ⟨b1.os, b1.tape, b1.output, b1.size, b1.block⟩
      | exact boxedB Hn.out Hm2.out (hbd2 _) (Blk.new _ _ _) o1 b1
      | exact boxedB Hn.out Hm2.out (hbd3 _) (Blk.new _ _ _) o1 b1
  case rest =>
    obtain ⟨g, V, pb, rfl, hF, hB⟩ := hcut
    have HF := Lib.hid hF
    have HB := Lib.hid hB
    clear hF hB CL w1 w2 hmax hmx w4 hbd
    go_wp2_with fail
    go_loopw [22] (fun vt wr => ∃ (t : Nat) (V : Value), vt = .int .i64 t ∧ t ≤ n - 1 ∧ FoW wr w.heap.size g n V pb (2 * n - 1) ((Fo.first ws).joins n t) ∧ Below w.heap.size w wr) (fun vt _ => n - (intOf vt).toNat)
    case atStart => exact ⟨0, V, rfl, Nat.zero_le _, HF.out, HB.out⟩
    case round =>
      obtain ⟨t, V1, rfl, ht, hF1, hB1⟩ := hrel
      have HF1 := Lib.hid hF1
      have HB1 := Lib.hid hB1
      clear hF1 hB1 HF HB
      by_cases hlt : t < n - 1
      · have hltz : (t : Int) < (n : Int) - 1 := by omega
        have q1 : decide ((t : Int) < (n : Int) - 1) = true := by rw [decide_eq_true_eq]; omega
        have JJ := Lib.hid (HJ.out _ _ _ _ _ _ _ _ _ HF1.out (by have := Hn.out; rw [← this]; exact joins_ok ws t (by omega)) hn2 (by omega))
        go_wp2_with (first | (go_at_call 58; refine JJ.out.mono ?_; rintro e w' ⟨rfl, hw'⟩))
        have Hw' := Lib.hid hw'
        clear hw'
        go_wp2_with fail
        go_roundw
        case rel =>
          obtain ⟨⟨V', h1⟩, h2⟩ := Hw'.out
          exact ⟨t + 1, V', by go_num, by omega, h1, HB1.out.trans h2⟩
        case measure => simp [intOf]; omega
      · have hltz : ¬ (t : Int) < (n : Int) - 1 := by omega
        have q1 : decide ((t : Int) < (n : Int) - 1) = false := by rw [decide_eq_false_iff_not]; omega
        obtain rfl : t = n - 1 := by omega
        obtain ⟨f, hf⟩ : ∃ f, f = (Fo.first ws).joins n (n - 1) := ⟨_, rfl⟩
        have HFf := HF1.out
        rw [← hf] at HFf
        have Hf := Lib.hid (show f = forestV ws by rw [hf]; unfold forestV; rw [Hn.out])
        have hpl : f.ps.length = m2 := by
          have h3 := HFf.par
          rcases Nat.eq_zero_or_pos n with h0 | h0
          · rw [hf, h0]; have := Hn.out; have : ws = [] := List.eq_nil_of_length_eq_zero (by omega); rw [this, Hm2.out, h0]; rfl
          · rw [hf, Hm2.out, ← Hn.out]; exact (joins_ok ws (ws.length - 1) (by have := Hn.out; omega)).pl
        have cp := HFf.blk.cell 1
        rw [← Hm2.out] at cp
        have HF2 := Lib.hid HFf
        have Hpl := Lib.hid hpl
        clear HFf HF1 hf hpl
        have c1 : wr.cell? ⟨g, 1, none⟩ = some (.slice (some ⟨pb, 0, none⟩) m2 m2) := cp
        clear cp
        have hm2b : m2 ≤ 511 := by have := Hm2.out; omega
        have mk := mk wr
        have Lb := Lib.hid (Blk.new wr 3 (ints (List.replicate m2 0)))
        have HF3 := Lib.hid (HF2.out.alloc (.cells (ints (List.replicate m2 0)) 3))
        have hszB := HB1.out.size
        have HB3 := Lib.hid (HB1.out.alloc hszB (.cells (ints (List.replicate m2 0)) 3))
        have hgl : g < wr.heap.size := HF2.out.blk.lt
        have hpl : pb < wr.heap.size := HF2.out.par.lt
        have Hvl := Lib.hid (show ∀ b, V1.ownBlock = some b → b < wr.heap.size from fun b hb => HF2.out.own.lt hb)
        have Hpar := Lib.hid (show ∀ i, i < 2 * n - 2 → ∃ p : Nat, f.ps.getD i 0 = (p : Int) ∧ i < p ∧ p < m2 from fun i hi => by
          obtain ⟨ok, hlf, hin⟩ := forest_end (ws := ws) (by have := Hn.out; omega)
          rw [← Hf.out, Hn.out] at ok hin
          rw [← Hf.out, Hn.out] at hlf
          obtain ⟨p, e1, e2, e3, e4⟩ := ok.par i (by omega)
          exact ⟨p, e1, e4, by have := Hm2.out; omega⟩)
        have Hdep := Lib.hid (show dep f.ps (2 * n - 2) (List.replicate m2 0) = depAll ws by unfold depAll; rw [← Hf.out, Hn.out, Hm2.out])
        generalize hwr : wr.alloc (.cells (ints (List.replicate m2 0)) 3) = w5 at *
        generalize hlb : wr.heap.size = lb at *
        clear HF2 HB1 hlt ht
        go_wp2_with fail
        go_loopw [6] (fun vz wx => ∃ (z : Int) (k : Nat) (l : List Int), vz = .int .i64 z ∧ (z = (k : Int) - 1 ∨ z < 0 ∧ k = 0) ∧ -2 ≤ z ∧ k ≤ 2 * n - 2 ∧ l.length = m2 ∧ dep f.ps k l = depAll ws ∧ (∀ i, i < m2 → 0 ≤ l.getD i 0 ∧ l.getD i 0 ≤ ((2 * n - 2 - k : Nat) : Int)) ∧ Blk wx lb 3 (ints l) ∧ FoW wx w.heap.size g n V1 pb (2 * n - 1) f ∧ Below w.heap.size w wx) (fun vz _ => (intOf vz + 1).toNat)
        case atStart => exact ⟨(m2 : Int) - 2, 2 * n - 2, List.replicate m2 0, rfl, by have := Hm2.out; omega, by omega, Nat.le_refl _, List.length_replicate, Hdep.out, fun i hi => by rw [List.getD_eq_getElem?_getD, List.getElem?_replicate, if_pos hi]; simp, Lb.out, HF3.out, HB3.out⟩
        case round =>
          obtain ⟨z, k, l, rfl, hz, hz2, hk, hl, hd, hrg, hLb, hFx, hBx⟩ := hrel
          have Hd := Lib.hid hd
          have Hrg := Lib.hid hrg
          have HLb := Lib.hid hLb
          have HFx := Lib.hid hFx
          have HBx := Lib.hid hBx
          have Hl := Lib.hid hl
          clear hd hrg hLb hFx hBx hl Lb HF3 HB3 Hdep
          by_cases hgo : 0 ≤ z
          · have q1 : decide (0 ≤ z) = true := decide_eq_true hgo
            obtain ⟨j, hj⟩ : ∃ j : Nat, k = j + 1 := ⟨k - 1, by omega⟩
            obtain rfl : z = (j : Int) := by omega
            obtain ⟨p, e1, e2, e3⟩ := Hpar.out j (by omega)
            have cg : wr.cell? ⟨g, 1, none⟩ = some (.slice (some ⟨pb, 0, none⟩) m2 m2) := by have := HFx.out.blk.cell 1; rw [← Hm2.out] at this; exact this
            have cp : wr.cell? ⟨pb, j, none⟩ = some (.int .i64 (f.ps.getD j 0)) := by rw [HFx.out.par.cell, ints_at (by rw [Hpl.out]; omega)]
            rw [e1] at cp
            have cl : wr.cell? ⟨lb, p, none⟩ = some (.int .i64 (l.getD p 0)) := by rw [HLb.out.cell, ints_at (by rw [Hl.out]; exact e3)]
            have cj : wr.cell? ⟨lb, j, none⟩ = some (.int .i64 (l.getD j 0)) := by rw [HLb.out.cell, ints_at (by rw [Hl.out]; omega)]
            have fj := HLb.out.frozen j
            have hr := Hrg.out p e3
            have St := HLb.out.set_ j (.int .i64 (l.getD p 0 + 1))
            rw [ints_set] at St
            have HSt := Lib.hid St
            have HFs := Lib.hid (HFx.out.away (p := ⟨lb, j, none⟩) (by simp; omega) (by simp; omega) (fun e => by have := Hvl.out _ e; simp at this) (.int .i64 (l.getD p 0 + 1)))
            have HBs := Lib.hid (HBx.out.setCell (p := ⟨lb, j, none⟩) hszB (.int .i64 (l.getD p 0 + 1)))
            have Nd := Lib.hid (show dep f.ps j (l.set j (l.getD p 0 + 1)) = depAll ws by rw [← Hd.out, hj, dep, e1, Int.toNat_natCast])
            have Nr := Lib.hid (show ∀ i, i < m2 → 0 ≤ (l.set j (l.getD p 0 + 1)).getD i 0 ∧ (l.set j (l.getD p 0 + 1)).getD i 0 ≤ ((2 * n - 2 - j : Nat) : Int) from fun i hi => by
              have h1 := Hrg.out i hi
              rw [getD_set]
              split <;> omega)
            have hjm : j < m2 := by have := Hm2.out; omega
            have Hj := Lib.hid hj
            have hxb : l.getD p 0 ≤ 1000 ∧ 0 ≤ l.getD p 0 := by omega
            generalize l.getD p 0 = x at *
            generalize l.getD j 0 = y at *
            clear St hz hz2 hj e1 hr
            go_wp2_with fail
            go_roundw
            case rel => exact ⟨(j : Int) - 1, j, l.set j (x + 1), by go_num, .inl rfl, by omega, by have := Hj.out; omega, by rw [List.length_set]; exact Hl.out, Nd.out, Nr.out, HSt.out, HFs.out, HBs.out⟩
            case measure => simp [intOf]
          · have q1 : decide (0 ≤ z) = false := decide_eq_false hgo
            have hk0 : k = 0 := by omega
            have hfin : l = depAll ws := by have := Hd.out; rw [hk0] at this; exact this
            obtain ⟨i1, hi1, hz1, hs1, hb1'⟩ := int_row
            have hnm : n ≤ m2 := by have := Hm2.out; omega
            have cut := run_slice_to (P := Try.prog) Try.underlying74 hi1 (some ⟨lb, 0, none⟩) m2 m2 n hnm
            have Hfin := Lib.hid hfin
            clear hfin hz hz2 hk0
            go_wp2_with fail
            go_ret
            refine ⟨lb, by rw [Hm2.out]; rfl, ?_, HBx.out⟩
            refine .inr ⟨lb, 0, rfl, HLb.out.lt, fun i hi => ?_⟩
            have hi' : i < n := by
              rw [List.length_map] at hi
              have : (depthsV ws).length = n := by rw [(depths_deep ws (by rw [Hn.out]; exact hn2)).len, Hn.out]
              omega
            rw [Nat.zero_add, HLb.out.cell, ints_at (by rw [Hl.out]; omega), List.getElem_map, Hfin.out]
            refine congrArg (fun z => some (Value.int .i64 z)) ?_
            unfold depthsV
            rw [List.getElem_take, List.getD_eq_getElem?_getD, List.getElem?_eq_getElem (by rw [← Hfin.out, Hl.out]; omega)]
            rfl
end Go.Proofs.Ytnkgcibdibgmjaa
