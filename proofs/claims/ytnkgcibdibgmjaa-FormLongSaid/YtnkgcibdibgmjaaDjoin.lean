/- The program's forest: lightest and join. The program's forest: two roots joined. -/
import Derived.Test.YtnkgcibdibgmjaaDkr
import Derived.Test.YtnkgcibdibgmjaaFlat
import Derived.Deep.RegionHeldLaw
import Derived.BigRegion
import Derived.BigQuiet
import Derived.Test.YtnkgcibdibgmjaaLaw
namespace Go.Proofs.Ytnkgcibdibgmjaa
open Go.RowKit

theorem ints_toList (l : List Int) : (ints l).toList = l.map (Value.int .i64) := by simp [ints]
/-- A forest in block g: its weights in a row of its own, its parents in block pb; all of it newer than B. -/
structure FoW (w : World) (B g n : Nat) (V : Value) (pb pc : Nat) (f : Fo) : Prop where
  gB : B ≤ g
  pB : B ≤ pb
  blk : Blk w g 94 #[V, .slice (some ⟨pb, 0, none⟩) (2 * n - 1) pc, .int .i64 n, .int .i64 f.lf, .int .i64 f.inn]
  own : Row w (fun b => B ≤ b) 3 1 V f.ws.length (f.ws.map (Value.int .i64))
  par : Blk w pb 3 (ints f.ps)
  far : V.ownBlock ≠ some pb
section
variable {w w' : World} {B g n pb pc : Nat} {V : Value} {f : Fo}
theorem FoW.ne_ (h : FoW w B g n V pb pc f) : pb ≠ g := Blk.ne_ h.par h.blk (by decide)
theorem FoW.drewN (h : FoW w B g n V pb pc f) (k : Nat) : FoW (w.drewN k) B g n V pb pc f := ⟨h.gB, h.pB, h.blk, h.own.drewN k, h.par, h.far⟩
theorem FoW.leaf (h : FoW w B g n V pb pc f) : FoW (w.setCell ⟨g, 3, none⟩ (.int .i64 ((f.lf + 1 : Nat) : Int))) B g n V pb pc { f with lf := f.lf + 1 } :=
  ⟨h.gB, h.pB, by have := h.blk.set_ 3 (.int .i64 ((f.lf + 1 : Nat) : Int)); simpa using this, h.own.set_far (h.own.ne_ h.blk (by decide)) _, h.par.far (Ne.symm h.ne_) _, h.far⟩
theorem FoW.inner (h : FoW w B g n V pb pc f) : FoW (w.setCell ⟨g, 4, none⟩ (.int .i64 ((f.inn + 1 : Nat) : Int))) B g n V pb pc { f with inn := f.inn + 1 } :=
  ⟨h.gB, h.pB, by have := h.blk.set_ 4 (.int .i64 ((f.inn + 1 : Nat) : Int)); simpa using this, h.own.set_far (h.own.ne_ h.blk (by decide)) _, h.par.far (Ne.symm h.ne_) _, h.far⟩
end
theorem ws_at {l : List Int} {i : Nat} (h : i < l.length) : (l.map (Value.int .i64))[i]? = some (.int .i64 (l.getD i 0)) := by
  rw [List.getElem?_map, List.getElem?_eq_getElem h, List.getD_eq_getElem?_getD, List.getElem?_eq_getElem h]; rfl
theorem zz1 (z : Nat) : ((z : Int) + 1) - 1 = (z : Int) := by omega

set_option maxHeartbeats 4000000 in
theorem light_in1 {w : World} {B g n pb pc : Nat} {V : Value} {f : Fo} (h : FoW w B g n V pb pc f) (hn : n ≤ 256) (h1 : f.lf ≤ n) (h2 : f.inn ≤ f.ws.length) (hw : f.ws.length ≤ 512) (hnw : n ≤ f.ws.length) (hn0 : 0 < n) (ha : ¬ f.lf < n) :
    Calls Try.prog 65 #[.pointer (some ⟨g, 0, none⟩)] w fun e w' => e = .returned (.int .i64 (f.inn : Int)) ∧ FoW w' B g n V pb pc { f with inn := f.inn + 1 } ∧ Below B w w' := by
  obtain ⟨A, c, hV, hnc, hA⟩ := h.own.form
  have hown := h.own
  rw [hV] at hown
  obtain ⟨wb, rfl, -, -, hcell, -⟩ := hown.at_ (by omega)
  have c0 : w.cell? ⟨g, 0, none⟩ = some V := h.blk.cell 0
  have c2 : w.cell? ⟨g, 2, none⟩ = some (.int .i64 (n : Int)) := h.blk.cell 2
  have c3 : w.cell? ⟨g, 3, none⟩ = some (.int .i64 (f.lf : Int)) := h.blk.cell 3
  have c4 : w.cell? ⟨g, 4, none⟩ = some (.int .i64 (f.inn : Int)) := h.blk.cell 4
  rw [hV] at c0
  have q1 : decide ((f.lf : Int) < (n : Int)) = false := by rw [decide_eq_false_iff_not]; omega
  have q1' : decide (f.lf < n) = false := by rw [decide_eq_false_iff_not]; omega
  have H := Lib.hid h
  clear hown hcell hA h hV
  generalize hwl : f.ws.length = wl at *
  have Hwl := Lib.hid hwl
  clear hwl
  generalize hlf : f.lf = lf at *
  generalize hin : f.inn = inn at *
  have Hlf := Lib.hid hlf
  have Hin := Lib.hid hin
  clear hlf hin
  go_enter Try.func65, Try.ntmps65
  go_wp2_with fail
  go_quiet (fail)
  have H2 := Lib.hid (H.out.drewN nq)
  have HB := Lib.hid (show Below B w (w.drewN nq) from ⟨rfl, rfl, rfl, Nat.le_refl _, fun _ _ => rfl⟩)
  clear c0 c2 c3 c4 H
  generalize w.drewN nq = w2 at *
  have ck : w2.cell? ⟨g, 4, none⟩ = some (.int .i64 (inn : Int)) := by
    have := H2.out.blk.cell 4
    rw [Hin.out] at this
    exact this
  have fk := H2.out.blk.frozen 4
  have zk := zz1 inn
  go_wp2_with fail
  go_ret
  refine ⟨?_, ?_, HB.out.setCell H2.out.gB _⟩
  · rfl
  · have := H2.out.inner
    simp only [Hlf.out, Hin.out] at this
    simpa using this
set_option maxHeartbeats 4000000 in
theorem light_lf1 {w : World} {B g n pb pc : Nat} {V : Value} {f : Fo} (h : FoW w B g n V pb pc f) (_ : n ≤ 256) (_ : f.lf ≤ n) (_ : f.inn ≤ f.ws.length) (hw : f.ws.length ≤ 512) (hnw : n ≤ f.ws.length) (_ : 0 < n) (ha : f.lf < n) (hb : f.inn = f.ws.length) :
    Calls Try.prog 65 #[.pointer (some ⟨g, 0, none⟩)] w fun e w' => e = .returned (.int .i64 (f.lf : Int)) ∧ FoW w' B g n V pb pc { f with lf := f.lf + 1 } ∧ Below B w w' := by
  obtain ⟨A, c, hV, hnc, hA⟩ := h.own.form
  have hown := h.own
  rw [hV] at hown
  obtain ⟨wb, rfl, -, -, hcell, -⟩ := hown.at_ (by omega)
  have c0 : w.cell? ⟨g, 0, none⟩ = some V := h.blk.cell 0
  have c2 : w.cell? ⟨g, 2, none⟩ = some (.int .i64 (n : Int)) := h.blk.cell 2
  have c3 : w.cell? ⟨g, 3, none⟩ = some (.int .i64 (f.lf : Int)) := h.blk.cell 3
  have c4 : w.cell? ⟨g, 4, none⟩ = some (.int .i64 (f.inn : Int)) := h.blk.cell 4
  rw [hV] at c0
  have q1 : decide ((f.lf : Int) < (n : Int)) = true := by rw [decide_eq_true_eq]; omega
  have q1' : decide (f.lf < n) = true := by rw [decide_eq_true_eq]; omega
  have q2 : ((f.inn : Int) == (f.ws.length : Int)) = true := by rw [beq_iff_eq]; omega
  clear hb
  have H := Lib.hid h
  clear hown hcell hA h hV
  generalize hwl : f.ws.length = wl at *
  have Hwl := Lib.hid hwl
  clear hwl
  generalize hlf : f.lf = lf at *
  generalize hin : f.inn = inn at *
  have Hlf := Lib.hid hlf
  have Hin := Lib.hid hin
  clear hlf hin
  go_enter Try.func65, Try.ntmps65
  go_wp2_with fail
  go_quiet (fail)
  have H2 := Lib.hid (H.out.drewN nq)
  have HB := Lib.hid (show Below B w (w.drewN nq) from ⟨rfl, rfl, rfl, Nat.le_refl _, fun _ _ => rfl⟩)
  clear c0 c2 c3 c4 H
  generalize w.drewN nq = w2 at *
  have ck : w2.cell? ⟨g, 3, none⟩ = some (.int .i64 (lf : Int)) := by
    have := H2.out.blk.cell 3
    rw [Hlf.out] at this
    exact this
  have fk := H2.out.blk.frozen 3
  have zk := zz1 lf
  go_wp2_with fail
  go_ret
  refine ⟨?_, ?_, HB.out.setCell H2.out.gB _⟩
  · rfl
  · have := H2.out.leaf
    simp only [Hlf.out, Hin.out] at this
    simpa using this
set_option maxHeartbeats 4000000 in
theorem light_lf2 {w : World} {B g n pb pc : Nat} {V : Value} {f : Fo} (h : FoW w B g n V pb pc f) (_ : n ≤ 256) (_ : f.lf ≤ n) (_ : f.inn ≤ f.ws.length) (hw : f.ws.length ≤ 512) (hnw : n ≤ f.ws.length) (_ : 0 < n) (ha : f.lf < n) (hb : f.inn < f.ws.length) (hxy : f.ws.getD f.lf 0 ≤ f.ws.getD f.inn 0) :
    Calls Try.prog 65 #[.pointer (some ⟨g, 0, none⟩)] w fun e w' => e = .returned (.int .i64 (f.lf : Int)) ∧ FoW w' B g n V pb pc { f with lf := f.lf + 1 } ∧ Below B w w' := by
  obtain ⟨A, c, hV, hnc, hA⟩ := h.own.form
  have hown := h.own
  rw [hV] at hown
  obtain ⟨wb, rfl, -, -, hcell, -⟩ := hown.at_ (by omega)
  have c0 : w.cell? ⟨g, 0, none⟩ = some V := h.blk.cell 0
  have c2 : w.cell? ⟨g, 2, none⟩ = some (.int .i64 (n : Int)) := h.blk.cell 2
  have c3 : w.cell? ⟨g, 3, none⟩ = some (.int .i64 (f.lf : Int)) := h.blk.cell 3
  have c4 : w.cell? ⟨g, 4, none⟩ = some (.int .i64 (f.inn : Int)) := h.blk.cell 4
  rw [hV] at c0
  have q1 : decide ((f.lf : Int) < (n : Int)) = true := by rw [decide_eq_true_eq]; omega
  have q1' : decide (f.lf < n) = true := by rw [decide_eq_true_eq]; omega
  have q2 : ((f.inn : Int) == (f.ws.length : Int)) = false := by rw [beq_eq_false_iff_ne]; omega
  have cx := hcell f.lf (by omega)
  have cy := hcell f.inn (by omega)
  rw [ws_at (by omega)] at cx cy
  generalize f.ws.getD f.lf 0 = x at *
  generalize f.ws.getD f.inn 0 = y at *
  have q3 : decide (x ≤ y) = true := decide_eq_true hxy
  clear hxy

  have H := Lib.hid h
  clear hown hcell hA h hV
  generalize hwl : f.ws.length = wl at *
  have Hwl := Lib.hid hwl
  clear hwl
  generalize hlf : f.lf = lf at *
  generalize hin : f.inn = inn at *
  have Hlf := Lib.hid hlf
  have Hin := Lib.hid hin
  clear hlf hin
  go_enter Try.func65, Try.ntmps65
  go_wp2_with fail
  go_quiet (fail)
  have H2 := Lib.hid (H.out.drewN nq)
  have HB := Lib.hid (show Below B w (w.drewN nq) from ⟨rfl, rfl, rfl, Nat.le_refl _, fun _ _ => rfl⟩)
  clear c0 c2 c3 c4 H
  generalize w.drewN nq = w2 at *
  have ck : w2.cell? ⟨g, 3, none⟩ = some (.int .i64 (lf : Int)) := by
    have := H2.out.blk.cell 3
    rw [Hlf.out] at this
    exact this
  have fk := H2.out.blk.frozen 3
  have zk := zz1 lf
  go_wp2_with fail
  go_ret
  refine ⟨?_, ?_, HB.out.setCell H2.out.gB _⟩
  · rfl
  · have := H2.out.leaf
    simp only [Hlf.out, Hin.out] at this
    simpa using this
set_option maxHeartbeats 4000000 in
theorem light_in2 {w : World} {B g n pb pc : Nat} {V : Value} {f : Fo} (h : FoW w B g n V pb pc f) (_ : n ≤ 256) (_ : f.lf ≤ n) (_ : f.inn ≤ f.ws.length) (hw : f.ws.length ≤ 512) (hnw : n ≤ f.ws.length) (_ : 0 < n) (ha : f.lf < n) (hb : f.inn < f.ws.length) (hxy : ¬ f.ws.getD f.lf 0 ≤ f.ws.getD f.inn 0) :
    Calls Try.prog 65 #[.pointer (some ⟨g, 0, none⟩)] w fun e w' => e = .returned (.int .i64 (f.inn : Int)) ∧ FoW w' B g n V pb pc { f with inn := f.inn + 1 } ∧ Below B w w' := by
  obtain ⟨A, c, hV, hnc, hA⟩ := h.own.form
  have hown := h.own
  rw [hV] at hown
  obtain ⟨wb, rfl, -, -, hcell, -⟩ := hown.at_ (by omega)
  have c0 : w.cell? ⟨g, 0, none⟩ = some V := h.blk.cell 0
  have c2 : w.cell? ⟨g, 2, none⟩ = some (.int .i64 (n : Int)) := h.blk.cell 2
  have c3 : w.cell? ⟨g, 3, none⟩ = some (.int .i64 (f.lf : Int)) := h.blk.cell 3
  have c4 : w.cell? ⟨g, 4, none⟩ = some (.int .i64 (f.inn : Int)) := h.blk.cell 4
  rw [hV] at c0
  have q1 : decide ((f.lf : Int) < (n : Int)) = true := by rw [decide_eq_true_eq]; omega
  have q1' : decide (f.lf < n) = true := by rw [decide_eq_true_eq]; omega
  have q2 : ((f.inn : Int) == (f.ws.length : Int)) = false := by rw [beq_eq_false_iff_ne]; omega
  have cx := hcell f.lf (by omega)
  have cy := hcell f.inn (by omega)
  rw [ws_at (by omega)] at cx cy
  generalize f.ws.getD f.lf 0 = x at *
  generalize f.ws.getD f.inn 0 = y at *
  have q3 : decide (x ≤ y) = false := decide_eq_false hxy
  clear hxy

  have H := Lib.hid h
  clear hown hcell hA h hV
  generalize hwl : f.ws.length = wl at *
  have Hwl := Lib.hid hwl
  clear hwl
  generalize hlf : f.lf = lf at *
  generalize hin : f.inn = inn at *
  have Hlf := Lib.hid hlf
  have Hin := Lib.hid hin
  clear hlf hin
  go_enter Try.func65, Try.ntmps65
  go_wp2_with fail
  go_quiet (fail)
  have H2 := Lib.hid (H.out.drewN nq)
  have HB := Lib.hid (show Below B w (w.drewN nq) from ⟨rfl, rfl, rfl, Nat.le_refl _, fun _ _ => rfl⟩)
  clear c0 c2 c3 c4 H
  generalize w.drewN nq = w2 at *
  have ck : w2.cell? ⟨g, 4, none⟩ = some (.int .i64 (inn : Int)) := by
    have := H2.out.blk.cell 4
    rw [Hin.out] at this
    exact this
  have fk := H2.out.blk.frozen 4
  have zk := zz1 inn
  go_wp2_with fail
  go_ret
  refine ⟨?_, ?_, HB.out.setCell H2.out.gB _⟩
  · rfl
  · have := H2.out.inner
    simp only [Hlf.out, Hin.out] at this
    simpa using this

theorem light_any {w : World} {B g n pb pc : Nat} {V : Value} {f : Fo} (h : FoW w B g n V pb pc f) (hn : n ≤ 256) (h1 : f.lf ≤ n) (h2 : f.inn ≤ f.ws.length) (hw : f.ws.length ≤ 512) (hnw : n ≤ f.ws.length) (hn0 : 0 < n) (_ : f.lf + f.inn < n + f.ws.length) :
    Calls Try.prog 65 #[.pointer (some ⟨g, 0, none⟩)] w fun e w' => e = .returned (.int .i64 (f.least n : Int)) ∧ FoW w' B g n V pb pc (f.taken n) ∧ Below B w w' := by
  by_cases ha : f.lf < n
  · by_cases hb : f.inn = f.ws.length
    · have e : f.leafy n = true := by unfold Fo.leafy; simp [ha, hb]
      unfold Fo.least Fo.taken
      rw [if_pos e, if_pos e]
      exact light_lf1 h hn h1 h2 hw hnw hn0 ha hb
    · by_cases hxy : f.ws.getD f.lf 0 ≤ f.ws.getD f.inn 0
      · have e : f.leafy n = true := by unfold Fo.leafy; rw [decide_eq_true ha, decide_eq_true hxy]; simp
        unfold Fo.least Fo.taken
        rw [if_pos e, if_pos e]
        exact light_lf2 h hn h1 h2 hw hnw hn0 ha (by omega) hxy
      · have e : ¬ f.leafy n = true := by unfold Fo.leafy; rw [decide_eq_false hb, decide_eq_false hxy]; simp
        unfold Fo.least Fo.taken
        rw [if_neg e, if_neg e]
        exact light_in2 h hn h1 h2 hw hnw hn0 ha (by omega) hxy
  · have e : ¬ f.leafy n = true := by unfold Fo.leafy; simp [ha]
    unfold Fo.least Fo.taken
    rw [if_neg e, if_neg e]
    exact light_in1 h hn h1 h2 hw hnw hn0 ha
end Go.Proofs.Ytnkgcibdibgmjaa

namespace Go.Proofs.Ytnkgcibdibgmjaa
open Go.RowKit

theorem int_parts : ∃ i : TypeInfo, Try.prog.info? 3 = some i ∧ i.zero = some (.int .i64 0) ∧ i.size = 1 ∧ i.bytes = 8 := by
  have h : (Try.prog.info? 3).map (fun i => (i.zero, i.size, i.bytes)) = some (some (.int .i64 0), 1, 8) := by kernel_rfl
  obtain ⟨i, hi, hh⟩ := Option.map_eq_some_iff.1 h
  simp only [Prod.mk.injEq] at hh
  exact ⟨i, hi, hh.1, hh.2.1, hh.2.2⟩
section
variable {w w' : World} {B g n pb pc : Nat} {V : Value} {f : Fo}
theorem FoW.set_par (h : FoW w B g n V pb pc f) (a : Nat) (z : Int) : FoW (w.setCell ⟨pb, a, none⟩ (.int .i64 z)) B g n V pb pc { f with ps := f.ps.set a z } :=
  ⟨h.gB, h.pB, h.blk.far h.ne_ _, h.own.set_far h.far _, by have := h.par.set_ a (.int .i64 z); rw [ints_set] at this; exact this, h.far⟩
theorem FoW.pcell (h : FoW w B g n V pb pc f) {i : Nat} (hi : i < f.ps.length) : w.cell? ⟨pb, i, none⟩ = some (.int .i64 (f.ps.getD i 0)) := by rw [h.par.cell, ints_at hi]
theorem ws_app (l : List Int) (z : Int) : l.map (Value.int .i64) ++ [Value.int .i64 z] = (l ++ [z]).map (Value.int .i64) := by simp
/-- A weight behind the others. -/
theorem FoW.app (h : FoW w B g n V pb pc f) {o : Obj} {w3 : World} {v' : Value} {z : Int} (hg : (w.alloc o).grownBy w3 V.ownBlock) (ho : w3.ownsRow 0 3 1 v' (f.ws.length + 1) (f.ws.map (Value.int .i64) ++ [Value.int .i64 z])) (hb : v'.ownBlock = V.ownBlock ∨ v'.ownBlock = some (w.alloc o).heap.size) :
    FoW (w3.setCell ⟨g, 0, none⟩ v') B g n v' pb pc { f with ws := f.ws ++ [z] } := by
  have hgs : g < w.heap.size := h.blk.lt
  have hpbs : pb < w.heap.size := h.par.lt
  have hne : V.ownBlock ≠ some g := h.own.ne_ h.blk (by decide)
  have b3 : Blk w3 g _ _ := (h.blk.alloc o).grown hg hne
  have p3 : Blk w3 pb _ _ := (h.par.alloc o).grown hg h.far
  have hvg : v'.ownBlock ≠ some g := by
    rcases hb with e | e <;> rw [e]
    · exact hne
    · rw [World.size_alloc]; simp; omega
  have hvp : v'.ownBlock ≠ some pb := by
    rcases hb with e | e <;> rw [e]
    · exact h.far
    · rw [World.size_alloc]; simp; omega
  refine ⟨h.gB, h.pB, ?_, ?_, p3.far (Ne.symm h.ne_) _, hvp⟩
  · have := b3.set_ 0 v'
    simpa using this
  · refine Row.set_far (F := fun b => B ≤ b) ⟨?_, ?_⟩ hvg v'
    · rw [ws_app] at ho
      show w3.ownsRow 0 _ 1 v' (f.ws ++ [z]).length _
      rw [List.length_append]; exact ho
    · intro k hk
      rcases hb with e | e
      · exact h.own.mem k (e ▸ hk)
      · rw [e, World.size_alloc] at hk
        have : w.heap.size + 1 = k := by simpa using hk
        have := h.gB; omega

theorem FoW.app2 (h : FoW w B g n V pb pc f) (o : Obj) (z : Int) {q : Nat} (hq : f.ws.length = q) {v' : Value} {w3 : World} (ho : w3.ownsRow 0 3 1 v' (q + 1) (f.ws.map (Value.int .i64) ++ [Value.int .i64 z])) (hg0 : (w.alloc o).drew.grownBy w3 V.ownBlock) (hb : v'.ownBlock = V.ownBlock ∨ v'.ownBlock = some (w.alloc o).drew.heap.size) :
    ∃ A c, v' = .slice A (q + 1) c ∧ w3.frozen? ⟨g, 0, none⟩ = false ∧ w3.cell? ⟨g, 0, none⟩ = some V ∧ Hid (FoW (w3.setCell ⟨g, 0, none⟩ v') B g n v' pb pc { f with ws := f.ws ++ [z] } ∧ Below B w w3) := by
  subst hq
  have hg : (w.alloc o).grownBy w3 V.ownBlock := ⟨hg0.os, hg0.tape, hg0.output, hg0.size, hg0.block⟩
  obtain ⟨A, c, rfl⟩ := own_slice ho
  have b3 : Blk w3 g _ _ := (h.blk.alloc o).grown hg (h.own.ne_ h.blk (by decide))
  have hw := h.gB
  have hw2 := h.blk.lt
  exact ⟨A, c, rfl, b3.frozen 0, b3.cell 0, Lib.hid ⟨h.app (o := o) hg ho hb, ((Below.refl B w).alloc (by omega) o).grown hg (by rw [World.size_alloc]; omega) (fun k hk => h.own.mem k hk)⟩⟩
/-- The append, as one step of the region. -/
theorem app_step {w3 : World} {q c wb : Nat} (h : FoW w3 B g n (.slice (some ⟨wb, 0, none⟩) q c) pb pc f) (hq : f.ws.length = q) (hqm : q ≤ 600) (z : Int) {W : World} (hW : W = (w3.alloc (.cells #[.int .i64 z] 3)).drew) {ops : Array Oper} {o : Oper} {a : Act} {K : Act → World → Prop} {Q : Exit → Act → World → Prop} {E : Prop}
    (hgd : o.guard = none) (ho : o.op = .call { callee := .builtin .append, args := #[.tmp 32, .tmp 48], argTypes := #[74, 74] }) (hv : a.eval (.tmp 32) = .slice (some ⟨wb, 0, none⟩) q c) (hx : a.eval (.tmp 48) = .slice (some ⟨w3.heap.size, 0, none⟩) 1 1)
    (hk : ∀ A5 c5 w5, w5.frozen? ⟨g, 0, none⟩ = false → w5.cell? ⟨g, 0, none⟩ = some (.slice (some ⟨wb, 0, none⟩) q c) → Hid (FoW (w5.setCell ⟨g, 0, none⟩ (.slice A5 (q + 1) c5)) B g n (.slice A5 (q + 1) c5) pb pc { f with ws := f.ws ++ [z] } ∧ Below B w3 w5) → K (a.put o.dst (.slice A5 (q + 1) c5)) w5) :
    if Region.wanted o (yielded ops a.tmps) = true then Oper.wp Try.prog o a W K Q else E := by
  subst hW
  subst hq
  obtain ⟨i1, hi1, hz1, hs1, hb1⟩ := int_parts
  refine step_append_at (w := _) (base := 0) (size := 1) (v := .slice (some ⟨wb, 0, none⟩) f.ws.length c) (m := 1) (news := [.int .i64 z]) hgd (.tmp 32) (.tmp 48) _ ho Try.underlying74 hi1 hz1 hs1 hb1 rfl (by decide) hv (h.own.own.alloc _).drew hx rfl (fun j u hu => (show (w3.alloc (.cells #[.int .i64 z] 3)).cell? ⟨w3.heap.size, j, none⟩ = some u by rw [cell_fresh rfl]; simpa using hu)) (by simp [Value.oneCell']) (by unfold maxLen; omega) (by omega) (Nat.zero_le _) ?_
  intro v5 w5 hown5 hgr5 hbl5
  obtain ⟨A5, c5, rfl, f5, c5', W5⟩ := h.app2 (.cells #[.int .i64 z] 3) z rfl hown5 hgr5 hbl5
  exact hk A5 c5 w5 f5 c5' W5
theorem FoW.drew (h : FoW w B g n V pb pc f) : FoW w.drew B g n V pb pc f := h.drewN 1
end
theorem taken_ok {n t : Nat} {f : Fo} (ok : FoOk n t f) (ht : t + 1 < n) : (f.taken n).lf ≤ n ∧ (f.taken n).inn ≤ (f.taken n).ws.length ∧ (f.taken n).lf + (f.taken n).inn = f.lf + f.inn + 1 ∧ (f.taken n).ws = f.ws ∧ (f.taken n).ps = f.ps := by
  have h1 := ok.l1
  have h2 := ok.i2
  have h3 := ok.tot
  have h4 := ok.wl
  rcases Fo.some (f := f) (n := n) (M := n + t) h4 h1 h2 (by omega) with ⟨e, a⟩ | ⟨e, a⟩
  · rw [show f.taken n = { f with lf := f.lf + 1 } by unfold Fo.taken; rw [if_pos e]]
    exact ⟨a, by show f.inn ≤ f.ws.length; omega, by show f.lf + 1 + f.inn = _; omega, rfl, rfl⟩
  · rw [show f.taken n = { f with inn := f.inn + 1 } by unfold Fo.taken; rw [if_neg (by rw [e]; decide)]]
    exact ⟨h1, by show f.inn + 1 ≤ f.ws.length; omega, by show f.lf + (f.inn + 1) = _; omega, rfl, rfl⟩
theorem taken_same (n : Nat) (f : Fo) : (f.taken n).ws = f.ws ∧ (f.taken n).ps = f.ps := by unfold Fo.taken; split <;> exact ⟨rfl, rfl⟩

set_option maxHeartbeats 8000000 in
theorem join_any {w : World} {B g n t pb pc : Nat} {V : Value} {f : Fo} (h : FoW w B g n V pb pc f) (ok : FoOk n t f) (hn : n ≤ 256) (ht : t + 1 < n) :
    Calls Try.prog 58 #[.pointer (some ⟨g, 0, none⟩)] w fun e w' => e = .returned (.tuple #[]) ∧ (∃ V', FoW w' B g n V' pb pc (f.joined n)) ∧ Below B w w' := by
  obtain ⟨two, h5, h6⟩ := ok.two ht
  have h1 := ok.l1
  have h2 := ok.i2
  have h3 := ok.tot
  have h4 := ok.wl
  have h7 := ok.pl
  have h8 := ok.i1
  obtain ⟨t1, t2, t3, t4, t5⟩ := taken_ok ok ht
  have L1 := Lib.hid (light_any h hn h1 (by omega) (by omega) (by omega) (by omega) (by omega))
  have L2 := Lib.hid (fun w2 (h2' : FoW w2 B g n V pb pc (f.taken n)) => light_any h2' hn t1 t2 (by rw [t4]; omega) (by rw [t4]; omega) (by omega) (by rw [t4]; omega))
  have hE : (((f.taken n).taken n).ws = f.ws ∧ ((f.taken n).taken n).ps = f.ps) := ⟨(taken_same n _).1.trans t4, (taken_same n _).2.trans t5⟩
  have J := Lib.hid (joined_is ok)
  obtain ⟨F2, hF2⟩ : ∃ F2, F2 = (f.taken n).taken n := ⟨_, rfl⟩
  have c0 : w.cell? ⟨g, 0, none⟩ = some V := h.blk.cell 0
  obtain ⟨A, c, hV, hnc, hA⟩ := h.own.form
  have hown := h.own
  rw [hV] at hown c0
  obtain ⟨wb, rfl, -, -, -, -⟩ := hown.at_ (by omega)
  rw [← hF2] at L2 hE J
  have hne : f.least n ≠ (f.taken n).least n := by
    unfold Two at two
    rcases two with e | e | e | e <;> obtain ⟨e1, e2, -, -, e5⟩ := e <;> omega
  obtain ⟨q, hq⟩ : ∃ q, q = n + t := ⟨_, rfl⟩
  rw [← hq] at J h4
  generalize hla : f.least n = a at *
  generalize hlb : (f.taken n).least n = b at *
  obtain ⟨m2, hm2⟩ : ∃ m, m = 2 * n - 1 := ⟨_, rfl⟩
  have ham : a < m2 := by omega
  have hbm : b < m2 := by omega
  have hpl : F2.ps.length = m2 := by rw [hE.2, h7, hm2]
  have haw : a < q := by omega
  have hbw : b < q := by omega
  have hqb : q ≤ 512 := by omega
  have HV := Lib.hid hV
  have HE := Lib.hid hE
  have Hm2 := Lib.hid hm2
  have Hpl := Lib.hid hpl
  have H4 := Lib.hid h4
  clear two h5 h6 h1 h2 h3 h7 h8 t1 t2 t3 t4 t5 hown hV hF2 hla hlb hE hA hnc hm2 hpl hq h ok ht
  rw [h4] at c0
  clear h4
  go_enter Try.func58, Try.ntmps58
  go_wp2_with fail
  refine L1.out.mono ?_
  rintro e w1 ⟨rfl, f1, hb1⟩
  have HB1 := Lib.hid hb1
  have F1 := Lib.hid f1
  clear L1 c0 hb1 f1
  go_wp2_with fail
  refine (L2.out _ F1.out).mono ?_
  rintro e w2 ⟨rfl, f2, hb2⟩
  have HB2 := Lib.hid (HB1.out.trans (hb2.mono (Nat.le_refl _)))
  have W2 := Lib.hid f2
  clear L2 F1 HB1 hb2 f2
  have cp : w2.cell? ⟨g, 1, none⟩ = some (.slice (some ⟨pb, 0, none⟩) m2 pc) := by rw [Hm2.out]; exact W2.out.blk.cell 1
  have ca := W2.out.pcell (i := a) (by have := Hpl.out; omega)
  have cb := W2.out.pcell (i := b) (by have := Hpl.out; omega)
  have fa := W2.out.par.frozen a
  have fb := W2.out.par.frozen b
  have W3a := W2.out.set_par a (q : Int)
  have cb2 := W3a.pcell (i := b) (by rw [List.length_set]; have := Hpl.out; omega)
  have W3 := Lib.hid (W3a.set_par b (q : Int)).drew
  have HB3 := Lib.hid ((HB2.out.setCell (p := ⟨pb, a, none⟩) W2.out.pB (.int .i64 (q : Int))).setCell (p := ⟨pb, b, none⟩) W2.out.pB (.int .i64 (q : Int))).drew
  generalize (F2.ps.set a (q : Int)).getD b 0 = y2 at *
  generalize F2.ps.getD a 0 = y0 at *
  generalize F2.ps.getD b 0 = y1 at *
  have za : (0 : Int) ≤ (a : Int) ∧ (a : Int) < (m2 : Int) := by omega
  have zb : (0 : Int) ≤ (b : Int) ∧ (b : Int) < (m2 : Int) := by omega
  clear W3a
  go_wp2_with fail
  go_region
  all_goals (go_wp2_with fail)
  clear cp ca cb fa fb cb2 HB2 W2
  generalize ((w2.setCell ⟨pb, a, none⟩ (.int .i64 (q : Int))).setCell ⟨pb, b, none⟩ (.int .i64 (q : Int))).drew = w3 at *
  have c0 : w3.cell? ⟨g, 0, none⟩ = some V := W3.out.blk.cell 0
  have c0a : ∀ o, (w3.alloc o).cell? ⟨g, 0, none⟩ = some V := fun o => (W3.out.blk.alloc o).cell 0
  have hown := W3.out.own
  have hwl : F2.ws.length = q := by rw [HE.out.1, H4.out]
  have hcell := (show Row w3 _ _ _ (.slice (some ⟨wb, 0, none⟩) F2.ws.length c) _ _ from by rw [hwl, ← H4.out, ← HV.out]; exact hown)
  obtain ⟨_, hwb, -, -, hcell, -⟩ := hcell.at_ (by omega)
  obtain rfl : wb = _ := by simpa using hwb
  have ca := hcell a (by omega)
  have cb := hcell b (by omega)
  rw [ws_at (l := F2.ws) (i := a) (by rw [hwl]; exact haw)] at ca
  rw [ws_at (l := F2.ws) (i := b) (by rw [hwl]; exact hbw)] at cb
  obtain ⟨i1, hi1, hz1, hs1, hb1'⟩ := int_parts
  have HVs := HV.out
  rw [H4.out] at HVs
  rw [HVs] at c0 c0a
  have X := Lib.hid (show F2.ws.getD a 0 = f.ws.getD a 0 ∧ F2.ws.getD b 0 = f.ws.getD b 0 from by rw [HE.out.1]; exact ⟨rfl, rfl⟩)
  generalize F2.ws.getD a 0 = x at *
  generalize F2.ws.getD b 0 = y at *
  obtain ⟨z, hz⟩ : ∃ z, z = IntKind.i64.wrap (x + y) := ⟨_, rfl⟩
  have hz' : IntKind.i64.wrap (x + y) = z := hz.symm
  have Hz := Lib.hid hz
  have zaq : (0 : Int) ≤ (a : Int) ∧ (a : Int) < (q : Int) := by omega
  have zbq : (0 : Int) ≤ (b : Int) ∧ (b : Int) < (q : Int) := by omega
  have Hwl := Lib.hid hwl
  have H3 := Lib.hid (show FoW w3 B g n (.slice (some ⟨wb, 0, none⟩) q c) pb pc _ from by rw [← HVs]; exact W3.out)
  clear hz hown hcell hwl hwb hi1 hz1 hs1 hb1' i1
  go_wp2_with fail
  have End_ := Lib.hid (show ∀ A5 c5 w5, Hid (FoW (w5.setCell ⟨g, 0, none⟩ (.slice A5 (q + 1) c5)) B g n (.slice A5 (q + 1) c5) pb pc { ws := F2.ws ++ [z], ps := (F2.ps.set a (q : Int)).set b (q : Int), lf := F2.lf, inn := F2.inn } ∧ Below B w3 w5) → Ending.returned (.tuple #[]) = Ending.returned (.tuple #[]) ∧ (∃ V', FoW (w5.setCell ⟨g, 0, none⟩ (.slice A5 (q + 1) c5)) B g n V' pb pc (f.joined n)) ∧ Below B w (w5.setCell ⟨g, 0, none⟩ (.slice A5 (q + 1) c5)) from fun A5 c5 w5 W5 => by
    refine ⟨rfl, ⟨.slice A5 (q + 1) c5, ?_⟩, (HB3.out.trans W5.out.2).setCell W3.out.gB _⟩
    rw [J.out, ← HE.out.1, ← HE.out.2, show wrap64 (F2.ws.getD a 0 + F2.ws.getD b 0) = z from by rw [HE.out.1, ← X.out.1, ← X.out.2, Hz.out, IntKind.wrap_i64, wrap64]]
    exact W5.out.1)
  have hq6 : q ≤ 600 := by omega
  clear HV H4 Hm2 Hpl X HVs hne ham hbm haw hbw hn hqb HE J HB3
  go_region_law (first
    | (refine app_step H3.out Hwl.out hq6 z rfl rfl rfl rfl rfl ?_; intro A5 c5 w5 f5 c5' W5))
  all_goals
    go_wp2_with fail
    go_end0
    exact ⟨rfl, (End_.out _ _ _ W5).2⟩
end Go.Proofs.Ytnkgcibdibgmjaa
