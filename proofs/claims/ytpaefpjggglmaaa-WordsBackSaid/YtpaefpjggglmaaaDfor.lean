/- The program's forest: lightest and join. -/
import Derived.Test.YtpaefpjggglmaaaDkr
import Derived.Test.YtpaefpjggglmaaaFlat
import Derived.Deep.RegionHeldLaw
import Derived.BigRegion
import Derived.BigQuiet
namespace Go.Proofs.Ytpaefpjggglmaaa
open Go.RowKit

theorem ints_toList (l : List Int) : (ints l).toList = l.map (Value.int .i64) := by simp [ints]
/-- A forest in block g: its weights in a row of its own, its parents in block pb; all of it newer than B. -/
structure FoW (w : World) (B g n : Nat) (V : Value) (pb pc : Nat) (f : Fo) : Prop where
  gB : B ≤ g
  pB : B ≤ pb
  blk : Blk w g 81 #[V, .slice (some ⟨pb, 0, none⟩) (2 * n - 1) pc, .int .i64 n, .int .i64 f.lf, .int .i64 f.inn]
  own : Row w (fun b => B ≤ b) 3 1 V f.ws.length (f.ws.map (Value.int .i64))
  par : Blk w pb 3 (ints f.ps)
  far : V.ownBlock ≠ some pb
section
variable {w w' : World} {B g n pb pc : Nat} {V : Value} {f : Fo}
theorem FoW.ne_ (h : FoW w B g n V pb pc f) : pb ≠ g := Blk.ne_ h.par h.blk (by decide)
theorem FoW.drewN (h : FoW w B g n V pb pc f) (k : Nat) : FoW (w.drewN k) B g n V pb pc f := ⟨h.gB, h.pB, h.blk, h.own.drewN k, h.par, h.far⟩
theorem FoW.leaf (h : FoW w B g n V pb pc f) : FoW (w.setCell ⟨g, 3, none⟩ (.int .i64 ((f.lf + 1 : Nat) : Int))) B g n V pb pc { f with lf := f.lf + 1 } :=
  ⟨h.gB, h.pB, by have := h.blk.set_ 3 (.int .i64 ((f.lf + 1 : Nat) : Int)); simpa using this, h.own.set_far (h.own.ne_ h.blk (by decide)) _, h.par.far (Ne.symm h.ne_) _, h.far⟩
theorem FoW.inner (h : FoW w B g n V pb pc f) : FoW (w.setCell ⟨g, 4, none⟩ (.int .i64 ((f.inn + 1 : Nat) : Int))) B g n V pb pc { f with inn := f.inn + 1 } :=
  ⟨h.gB, h.pB, by have := h.blk.set_ 4 (.int .i64 ((f.inn + 1 : Nat) : Int)); simpa using this, h.own.set_far (h.own.ne_ h.blk (by decide)) _, h.par.far (Ne.symm h.ne_) _, h.far⟩
end
theorem ws_at {l : List Int} {i : Nat} (h : i < l.length) : (l.map (Value.int .i64))[i]? = some (.int .i64 (l.getD i 0)) := by
  rw [List.getElem?_map, List.getElem?_eq_getElem h, List.getD_eq_getElem?_getD, List.getElem?_eq_getElem h]; rfl
theorem zz1 (z : Nat) : ((z : Int) + 1) - 1 = (z : Int) := by omega

set_option maxHeartbeats 4000000 in
theorem light_in1 {w : World} {B g n pb pc : Nat} {V : Value} {f : Fo} (h : FoW w B g n V pb pc f) (hn : n ≤ 256) (h1 : f.lf ≤ n) (h2 : f.inn ≤ f.ws.length) (hw : f.ws.length ≤ 512) (hnw : n ≤ f.ws.length) (hn0 : 0 < n) (ha : ¬ f.lf < n) :
    Calls Try.prog 46 #[.pointer (some ⟨g, 0, none⟩)] w fun e w' => e = .returned (.int .i64 (f.inn : Int)) ∧ FoW w' B g n V pb pc { f with inn := f.inn + 1 } ∧ Below B w w' := by
  obtain ⟨A, c, hV, hnc, hA⟩ := h.own.form
  have hown := h.own
  rw [hV] at hown
  obtain ⟨wb, rfl, -, -, hcell, -⟩ := hown.at_ (by omega)
  have c0 : w.cell? ⟨g, 0, none⟩ = some V := h.blk.cell 0
  have c2 : w.cell? ⟨g, 2, none⟩ = some (.int .i64 (n : Int)) := h.blk.cell 2
  have c3 : w.cell? ⟨g, 3, none⟩ = some (.int .i64 (f.lf : Int)) := h.blk.cell 3
  have c4 : w.cell? ⟨g, 4, none⟩ = some (.int .i64 (f.inn : Int)) := h.blk.cell 4
  rw [hV] at c0
  have q1 : decide ((f.lf : Int) < (n : Int)) = false := by rw [decide_eq_false_iff_not]; omega
  have q1' : decide (f.lf < n) = false := by rw [decide_eq_false_iff_not]; omega
  have H := Lib.hid h
  clear hown hcell hA h hV
  generalize hwl : f.ws.length = wl at *
  have Hwl := Lib.hid hwl
  clear hwl
  generalize hlf : f.lf = lf at *
  generalize hin : f.inn = inn at *
  have Hlf := Lib.hid hlf
  have Hin := Lib.hid hin
  clear hlf hin
  go_enter Try.func46, Try.ntmps46
  go_wp2_with fail
  go_quiet (fail)
  have H2 := Lib.hid (H.out.drewN nq)
  have HB := Lib.hid (show Below B w (w.drewN nq) from ⟨rfl, rfl, rfl, Nat.le_refl _, fun _ _ => rfl⟩)
  clear c0 c2 c3 c4 H
  generalize w.drewN nq = w2 at *
  have ck : w2.cell? ⟨g, 4, none⟩ = some (.int .i64 (inn : Int)) := by
    have := H2.out.blk.cell 4
    rw [Hin.out] at this
    exact this
  have fk := H2.out.blk.frozen 4
  have zk := zz1 inn
  go_wp2_with fail
  go_ret
  refine ⟨?_, ?_, HB.out.setCell H2.out.gB _⟩
  · rfl
  · have := H2.out.inner
    simp only [Hlf.out, Hin.out] at this
    simpa using this
set_option maxHeartbeats 4000000 in
theorem light_lf1 {w : World} {B g n pb pc : Nat} {V : Value} {f : Fo} (h : FoW w B g n V pb pc f) (_ : n ≤ 256) (_ : f.lf ≤ n) (_ : f.inn ≤ f.ws.length) (hw : f.ws.length ≤ 512) (hnw : n ≤ f.ws.length) (_ : 0 < n) (ha : f.lf < n) (hb : f.inn = f.ws.length) :
    Calls Try.prog 46 #[.pointer (some ⟨g, 0, none⟩)] w fun e w' => e = .returned (.int .i64 (f.lf : Int)) ∧ FoW w' B g n V pb pc { f with lf := f.lf + 1 } ∧ Below B w w' := by
  obtain ⟨A, c, hV, hnc, hA⟩ := h.own.form
  have hown := h.own
  rw [hV] at hown
  obtain ⟨wb, rfl, -, -, hcell, -⟩ := hown.at_ (by omega)
  have c0 : w.cell? ⟨g, 0, none⟩ = some V := h.blk.cell 0
  have c2 : w.cell? ⟨g, 2, none⟩ = some (.int .i64 (n : Int)) := h.blk.cell 2
  have c3 : w.cell? ⟨g, 3, none⟩ = some (.int .i64 (f.lf : Int)) := h.blk.cell 3
  have c4 : w.cell? ⟨g, 4, none⟩ = some (.int .i64 (f.inn : Int)) := h.blk.cell 4
  rw [hV] at c0
  have q1 : decide ((f.lf : Int) < (n : Int)) = true := by rw [decide_eq_true_eq]; omega
  have q1' : decide (f.lf < n) = true := by rw [decide_eq_true_eq]; omega
  have q2 : ((f.inn : Int) == (f.ws.length : Int)) = true := by rw [beq_iff_eq]; omega
  clear hb
  have H := Lib.hid h
  clear hown hcell hA h hV
  generalize hwl : f.ws.length = wl at *
  have Hwl := Lib.hid hwl
  clear hwl
  generalize hlf : f.lf = lf at *
  generalize hin : f.inn = inn at *
  have Hlf := Lib.hid hlf
  have Hin := Lib.hid hin
  clear hlf hin
  go_enter Try.func46, Try.ntmps46
  go_wp2_with fail
  go_quiet (fail)
  have H2 := Lib.hid (H.out.drewN nq)
  have HB := Lib.hid (show Below B w (w.drewN nq) from ⟨rfl, rfl, rfl, Nat.le_refl _, fun _ _ => rfl⟩)
  clear c0 c2 c3 c4 H
  generalize w.drewN nq = w2 at *
  have ck : w2.cell? ⟨g, 3, none⟩ = some (.int .i64 (lf : Int)) := by
    have := H2.out.blk.cell 3
    rw [Hlf.out] at this
    exact this
  have fk := H2.out.blk.frozen 3
  have zk := zz1 lf
  go_wp2_with fail
  go_ret
  refine ⟨?_, ?_, HB.out.setCell H2.out.gB _⟩
  · rfl
  · have := H2.out.leaf
    simp only [Hlf.out, Hin.out] at this
    simpa using this
set_option maxHeartbeats 4000000 in
theorem light_lf2 {w : World} {B g n pb pc : Nat} {V : Value} {f : Fo} (h : FoW w B g n V pb pc f) (_ : n ≤ 256) (_ : f.lf ≤ n) (_ : f.inn ≤ f.ws.length) (hw : f.ws.length ≤ 512) (hnw : n ≤ f.ws.length) (_ : 0 < n) (ha : f.lf < n) (hb : f.inn < f.ws.length) (hxy : f.ws.getD f.lf 0 ≤ f.ws.getD f.inn 0) :
    Calls Try.prog 46 #[.pointer (some ⟨g, 0, none⟩)] w fun e w' => e = .returned (.int .i64 (f.lf : Int)) ∧ FoW w' B g n V pb pc { f with lf := f.lf + 1 } ∧ Below B w w' := by
  obtain ⟨A, c, hV, hnc, hA⟩ := h.own.form
  have hown := h.own
  rw [hV] at hown
  obtain ⟨wb, rfl, -, -, hcell, -⟩ := hown.at_ (by omega)
  have c0 : w.cell? ⟨g, 0, none⟩ = some V := h.blk.cell 0
  have c2 : w.cell? ⟨g, 2, none⟩ = some (.int .i64 (n : Int)) := h.blk.cell 2
  have c3 : w.cell? ⟨g, 3, none⟩ = some (.int .i64 (f.lf : Int)) := h.blk.cell 3
  have c4 : w.cell? ⟨g, 4, none⟩ = some (.int .i64 (f.inn : Int)) := h.blk.cell 4
  rw [hV] at c0
  have q1 : decide ((f.lf : Int) < (n : Int)) = true := by rw [decide_eq_true_eq]; omega
  have q1' : decide (f.lf < n) = true := by rw [decide_eq_true_eq]; omega
  have q2 : ((f.inn : Int) == (f.ws.length : Int)) = false := by rw [beq_eq_false_iff_ne]; omega
  have cx := hcell f.lf (by omega)
  have cy := hcell f.inn (by omega)
  rw [ws_at (by omega)] at cx cy
  generalize f.ws.getD f.lf 0 = x at *
  generalize f.ws.getD f.inn 0 = y at *
  have q3 : decide (x ≤ y) = true := decide_eq_true hxy
  clear hxy

  have H := Lib.hid h
  clear hown hcell hA h hV
  generalize hwl : f.ws.length = wl at *
  have Hwl := Lib.hid hwl
  clear hwl
  generalize hlf : f.lf = lf at *
  generalize hin : f.inn = inn at *
  have Hlf := Lib.hid hlf
  have Hin := Lib.hid hin
  clear hlf hin
  go_enter Try.func46, Try.ntmps46
  go_wp2_with fail
  go_quiet (fail)
  have H2 := Lib.hid (H.out.drewN nq)
  have HB := Lib.hid (show Below B w (w.drewN nq) from ⟨rfl, rfl, rfl, Nat.le_refl _, fun _ _ => rfl⟩)
  clear c0 c2 c3 c4 H
  generalize w.drewN nq = w2 at *
  have ck : w2.cell? ⟨g, 3, none⟩ = some (.int .i64 (lf : Int)) := by
    have := H2.out.blk.cell 3
    rw [Hlf.out] at this
    exact this
  have fk := H2.out.blk.frozen 3
  have zk := zz1 lf
  go_wp2_with fail
  go_ret
  refine ⟨?_, ?_, HB.out.setCell H2.out.gB _⟩
  · rfl
  · have := H2.out.leaf
    simp only [Hlf.out, Hin.out] at this
    simpa using this
set_option maxHeartbeats 4000000 in
theorem light_in2 {w : World} {B g n pb pc : Nat} {V : Value} {f : Fo} (h : FoW w B g n V pb pc f) (_ : n ≤ 256) (_ : f.lf ≤ n) (_ : f.inn ≤ f.ws.length) (hw : f.ws.length ≤ 512) (hnw : n ≤ f.ws.length) (_ : 0 < n) (ha : f.lf < n) (hb : f.inn < f.ws.length) (hxy : ¬ f.ws.getD f.lf 0 ≤ f.ws.getD f.inn 0) :
    Calls Try.prog 46 #[.pointer (some ⟨g, 0, none⟩)] w fun e w' => e = .returned (.int .i64 (f.inn : Int)) ∧ FoW w' B g n V pb pc { f with inn := f.inn + 1 } ∧ Below B w w' := by
  obtain ⟨A, c, hV, hnc, hA⟩ := h.own.form
  have hown := h.own
  rw [hV] at hown
  obtain ⟨wb, rfl, -, -, hcell, -⟩ := hown.at_ (by omega)
  have c0 : w.cell? ⟨g, 0, none⟩ = some V := h.blk.cell 0
  have c2 : w.cell? ⟨g, 2, none⟩ = some (.int .i64 (n : Int)) := h.blk.cell 2
  have c3 : w.cell? ⟨g, 3, none⟩ = some (.int .i64 (f.lf : Int)) := h.blk.cell 3
  have c4 : w.cell? ⟨g, 4, none⟩ = some (.int .i64 (f.inn : Int)) := h.blk.cell 4
  rw [hV] at c0
  have q1 : decide ((f.lf : Int) < (n : Int)) = true := by rw [decide_eq_true_eq]; omega
  have q1' : decide (f.lf < n) = true := by rw [decide_eq_true_eq]; omega
  have q2 : ((f.inn : Int) == (f.ws.length : Int)) = false := by rw [beq_eq_false_iff_ne]; omega
  have cx := hcell f.lf (by omega)
  have cy := hcell f.inn (by omega)
  rw [ws_at (by omega)] at cx cy
  generalize f.ws.getD f.lf 0 = x at *
  generalize f.ws.getD f.inn 0 = y at *
  have q3 : decide (x ≤ y) = false := decide_eq_false hxy
  clear hxy

  have H := Lib.hid h
  clear hown hcell hA h hV
  generalize hwl : f.ws.length = wl at *
  have Hwl := Lib.hid hwl
  clear hwl
  generalize hlf : f.lf = lf at *
  generalize hin : f.inn = inn at *
  have Hlf := Lib.hid hlf
  have Hin := Lib.hid hin
  clear hlf hin
  go_enter Try.func46, Try.ntmps46
  go_wp2_with fail
  go_quiet (fail)
  have H2 := Lib.hid (H.out.drewN nq)
  have HB := Lib.hid (show Below B w (w.drewN nq) from ⟨rfl, rfl, rfl, Nat.le_refl _, fun _ _ => rfl⟩)
  clear c0 c2 c3 c4 H
  generalize w.drewN nq = w2 at *
  have ck : w2.cell? ⟨g, 4, none⟩ = some (.int .i64 (inn : Int)) := by
    have := H2.out.blk.cell 4
    rw [Hin.out] at this
    exact this
  have fk := H2.out.blk.frozen 4
  have zk := zz1 inn
  go_wp2_with fail
  go_ret
  refine ⟨?_, ?_, HB.out.setCell H2.out.gB _⟩
  · rfl
  · have := H2.out.inner
    simp only [Hlf.out, Hin.out] at this
    simpa using this

theorem light_any {w : World} {B g n pb pc : Nat} {V : Value} {f : Fo} (h : FoW w B g n V pb pc f) (hn : n ≤ 256) (h1 : f.lf ≤ n) (h2 : f.inn ≤ f.ws.length) (hw : f.ws.length ≤ 512) (hnw : n ≤ f.ws.length) (hn0 : 0 < n) (_ : f.lf + f.inn < n + f.ws.length) :
    Calls Try.prog 46 #[.pointer (some ⟨g, 0, none⟩)] w fun e w' => e = .returned (.int .i64 (f.least n : Int)) ∧ FoW w' B g n V pb pc (f.taken n) ∧ Below B w w' := by
  by_cases ha : f.lf < n
  · by_cases hb : f.inn = f.ws.length
    · have e : f.leafy n = true := by unfold Fo.leafy; simp [ha, hb]
      unfold Fo.least Fo.taken
      rw [if_pos e, if_pos e]
      exact light_lf1 h hn h1 h2 hw hnw hn0 ha hb
    · by_cases hxy : f.ws.getD f.lf 0 ≤ f.ws.getD f.inn 0
      · have e : f.leafy n = true := by unfold Fo.leafy; rw [decide_eq_true ha, decide_eq_true hxy]; simp
        unfold Fo.least Fo.taken
        rw [if_pos e, if_pos e]
        exact light_lf2 h hn h1 h2 hw hnw hn0 ha (by omega) hxy
      · have e : ¬ f.leafy n = true := by unfold Fo.leafy; rw [decide_eq_false hb, decide_eq_false hxy]; simp
        unfold Fo.least Fo.taken
        rw [if_neg e, if_neg e]
        exact light_in2 h hn h1 h2 hw hnw hn0 ha (by omega) hxy
  · have e : ¬ f.leafy n = true := by unfold Fo.leafy; simp [ha]
    unfold Fo.least Fo.taken
    rw [if_neg e, if_neg e]
    exact light_in1 h hn h1 h2 hw hnw hn0 ha
end Go.Proofs.Ytpaefpjggglmaaa
