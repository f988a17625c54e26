/- The program's map of free blocks, by contracts; the statements' awake. -/
import Derived.Test.YtfiafgmlbejboaaRtak
import Derived.Laws.StructEq
namespace Go.Proofs.Ytfiafgmlbejboaa
open Go.RowKit

/-- An integer of 64 bits. -/
def I64 (n : Int) : Prop := -9223372036854775808 ≤ n ∧ n < 9223372036854775808
/-- What an operation leaves: the map says F, and lies in old blocks of its own and in new ones. -/
def OpR (Rep : World → Nat → (Nat → Prop) → List Bool → Prop) (g : Nat) (X : Nat → Prop) (F : List Bool) (w w' : World) : Prop :=
  ∃ X', Rep w' g X' F ∧ (∀ b, X' b → X b ∨ w.heap.size ≤ b) ∧ Chg X w w'
/-- What is asked of the program: Rep w g X F: the map at block g says F, and lies in the blocks X. -/
structure RunsC (Rep : World → Nat → (Nat → Prop) → List Bool → Prop) : Prop where
  keep : ∀ {w w' : World} {g : Nat} {X : Nat → Prop} {F : List Bool}, Rep w g X F → (∀ b, X b → w'.heap[b]? = w.heap[b]?) → Rep w' g X F
  lt : ∀ {w : World} {g : Nat} {X : Nat → Prop} {F : List Bool}, Rep w g X F → ∀ b, X b → b < w.heap.size
  few : ∀ {w : World} {g : Nat} {X : Nat → Prop} {F : List Bool}, Rep w g X F → F.length ≤ 8192
  new : ∀ (n : Int) (w : World), I64 n → Calls Try.prog 13 #[.int .i64 n] w fun e w' => ∃ g X, e = .returned (.pointer (some ⟨g, 0, none⟩)) ∧ Rep w' g X (Rn.new n) ∧ (∀ b, X b → w.heap.size ≤ b) ∧ Below w.heap.size w w'
  take : ∀ {w : World} {g : Nat} {X : Nat → Prop} {F : List Bool}, Rep w g X F → ∀ n : Int, I64 n → Calls Try.prog 15 #[.pointer (some ⟨g, 0, none⟩), .int .i64 n] w fun e w' => e = .returned (.tuple #[.int .i64 ((Rn.take F n).1 : Int), .bool (Rn.take F n).2.1]) ∧ OpR Rep g X (Rn.take F n).2.2 w w'
  mark : ∀ {w : World} {g : Nat} {X : Nat → Prop} {F : List Bool}, Rep w g X F → ∀ a n : Int, I64 a → I64 n → Calls Try.prog 17 #[.pointer (some ⟨g, 0, none⟩), .int .i64 a, .int .i64 n] w fun e w' => e = .returned (.bool (Rn.mark F a n).1) ∧ OpR Rep g X (Rn.mark F a n).2 w w'
  give : ∀ {w : World} {g : Nat} {X : Nat → Prop} {F : List Bool}, Rep w g X F → ∀ a n : Int, I64 a → I64 n → Calls Try.prog 19 #[.pointer (some ⟨g, 0, none⟩), .int .i64 a, .int .i64 n] w fun e w' => e = .returned (.bool (Rn.give F a n).1) ∧ OpR Rep g X (Rn.give F a n).2 w w'
  copy : ∀ {w : World} {g : Nat} {X : Nat → Prop} {F : List Bool}, Rep w g X F → Calls Try.prog 22 #[.pointer (some ⟨g, 0, none⟩)] w fun e w' => ∃ g' X', e = .returned (.pointer (some ⟨g', 0, none⟩)) ∧ Rep w' g' X' F ∧ (∀ b, X' b → w.heap.size ≤ b) ∧ Below w.heap.size w w'
  free : ∀ {w : World} {g : Nat} {X : Nat → Prop} {F : List Bool}, Rep w g X F → Calls Try.prog 23 #[.pointer (some ⟨g, 0, none⟩)] w fun e w' => e = .returned (.int .i64 (Rn.freeN F : Int)) ∧ Below w.heap.size w w'
  greatest : ∀ {w : World} {g : Nat} {X : Nat → Prop} {F : List Bool}, Rep w g X F → Calls Try.prog 25 #[.pointer (some ⟨g, 0, none⟩)] w fun e w' => e = .returned (.int .i64 (Rn.greatest F : Int)) ∧ Below w.heap.size w w'
  list : ∀ {w : World} {g : Nat} {X : Nat → Prop} {F : List Bool}, Rep w g X F → Calls Try.prog 24 #[.pointer (some ⟨g, 0, none⟩)] w fun e w' => ∃ v, e = .returned v ∧ OwnR w' w.heap.size v (Rn.list F) ∧ Below w.heap.size w w'

/-- A map of one's own, above B. -/
def MineR (Rep : World → Nat → (Nat → Prop) → List Bool → Prop) (w : World) (B g : Nat) (F : List Bool) : Prop := ∃ X, Rep w g X F ∧ ∀ b, X b → B ≤ b
section
variable {Rep : World → Nat → (Nat → Prop) → List Bool → Prop} {w w' : World} {B g : Nat} {F : List Bool}
theorem OpR.mine {X : Nat → Prop} (h : OpR Rep g X F w w') (hB : B ≤ w.heap.size) (hx : ∀ b, X b → B ≤ b) : MineR Rep w' B g F ∧ Below B w w' := by
  obtain ⟨X', h1, h2, h3⟩ := h
  exact ⟨⟨X', h1, fun b hb => (h2 b hb).elim (hx b) (fun e => Nat.le_trans hB e)⟩, h3.below hB hx⟩
theorem MineR.below (hC : RunsC Rep) (h : MineR Rep w B g F) (hb : Below w.heap.size w w') : MineR Rep w' B g F := by
  obtain ⟨X, hr, hx⟩ := h
  exact ⟨X, hC.keep hr fun b hX => hb.block b (hC.lt hr b hX), hx⟩
theorem new_mine (hC : RunsC Rep) (n : Int) (w : World) (hn : I64 n) : Calls Try.prog 13 #[.int .i64 n] w fun e w' => ∃ g, e = .returned (.pointer (some ⟨g, 0, none⟩)) ∧ MineR Rep w' w.heap.size g (Rn.new n) ∧ Below w.heap.size w w' :=
  (hC.new n w hn).mono fun _ _ ⟨g, X, h1, h2, h3, h4⟩ => ⟨g, h1, ⟨X, h2, h3⟩, h4⟩
theorem take_mine (hC : RunsC Rep) (h : MineR Rep w B g F) (hB : B ≤ w.heap.size) (n : Int) (hn : I64 n) : Calls Try.prog 15 #[.pointer (some ⟨g, 0, none⟩), .int .i64 n] w fun e w' => e = .returned (.tuple #[.int .i64 ((Rn.take F n).1 : Int), .bool (Rn.take F n).2.1]) ∧ MineR Rep w' B g (Rn.take F n).2.2 ∧ Below B w w' := by
  obtain ⟨X, hr, hx⟩ := h
  exact (hC.take hr n hn).mono fun _ _ ⟨h1, h2⟩ => ⟨h1, h2.mine hB hx⟩
theorem mark_mine (hC : RunsC Rep) (h : MineR Rep w B g F) (hB : B ≤ w.heap.size) (a n : Int) (ha : I64 a) (hn : I64 n) : Calls Try.prog 17 #[.pointer (some ⟨g, 0, none⟩), .int .i64 a, .int .i64 n] w fun e w' => e = .returned (.bool (Rn.mark F a n).1) ∧ MineR Rep w' B g (Rn.mark F a n).2 ∧ Below B w w' := by
  obtain ⟨X, hr, hx⟩ := h
  exact (hC.mark hr a n ha hn).mono fun _ _ ⟨h1, h2⟩ => ⟨h1, h2.mine hB hx⟩
theorem give_mine (hC : RunsC Rep) (h : MineR Rep w B g F) (hB : B ≤ w.heap.size) (a n : Int) (ha : I64 a) (hn : I64 n) : Calls Try.prog 19 #[.pointer (some ⟨g, 0, none⟩), .int .i64 a, .int .i64 n] w fun e w' => e = .returned (.bool (Rn.give F a n).1) ∧ MineR Rep w' B g (Rn.give F a n).2 ∧ Below B w w' := by
  obtain ⟨X, hr, hx⟩ := h
  exact (hC.give hr a n ha hn).mono fun _ _ ⟨h1, h2⟩ => ⟨h1, h2.mine hB hx⟩
theorem list_mine (hC : RunsC Rep) (h : MineR Rep w B g F) : Calls Try.prog 24 #[.pointer (some ⟨g, 0, none⟩)] w fun e w' => ∃ v, e = .returned v ∧ OwnR w' w.heap.size v (Rn.list F) ∧ MineR Rep w' B g F ∧ Below w.heap.size w w' := by
  obtain ⟨X, hr, hx⟩ := h
  exact (hC.list hr).mono fun _ _ ⟨v, h1, h2, h3⟩ => ⟨v, h1, h2, MineR.below hC ⟨X, hr, hx⟩ h3, h3⟩
theorem free_mine (hC : RunsC Rep) (h : MineR Rep w B g F) : Calls Try.prog 23 #[.pointer (some ⟨g, 0, none⟩)] w fun e w' => e = .returned (.int .i64 (Rn.freeN F : Int)) ∧ MineR Rep w' B g F ∧ Below w.heap.size w w' := by
  obtain ⟨X, hr, hx⟩ := h
  exact (hC.free hr).mono fun _ _ ⟨h1, h3⟩ => ⟨h1, MineR.below hC ⟨X, hr, hx⟩ h3, h3⟩
theorem great_mine (hC : RunsC Rep) (h : MineR Rep w B g F) : Calls Try.prog 25 #[.pointer (some ⟨g, 0, none⟩)] w fun e w' => e = .returned (.int .i64 (Rn.greatest F : Int)) ∧ MineR Rep w' B g F ∧ Below w.heap.size w w' := by
  obtain ⟨X, hr, hx⟩ := h
  exact (hC.greatest hr).mono fun _ _ ⟨h1, h3⟩ => ⟨h1, MineR.below hC ⟨X, hr, hx⟩ h3, h3⟩
end

/-- Two runs compared. -/
theorem run_two (a b c d : Int) (w : World) : (binOp .eql 39 (.agg #[.int .i64 a, .int .i64 b]) (.agg #[.int .i64 c, .int .i64 d])).run Try.prog w = .ok (.bool (decide (a = c) && decide (b = d))) w := by
  have u3 := Try.underlying3
  have a3 := Try.isAgg3
  have z3 := Try.sizeOf3
  have hS : Try.prog.underlying 39 = some (.struct (Try.prog.fieldsOf 39)) := by kernel_rfl
  have hp : Try.prog.stoodInHeld 39 = false := by kernel_rfl
  rw [run_eql_struct, show (10000 : Nat) = 9999 + 1 from rfl, run_equalIn_agg w 9999 39 _ _ hS hp]
  simp only [Program.fieldsOf, Try.underlying39]
  go_simp
  by_cases h1 : a = c <;> by_cases h2 : b = d <;> simp [h1, h2]

def F0 : List Bool := [true, true, true, true, true, true, true, true]
def F1 : List Bool := [false, false, false, true, true, true, true, true]
def F2 : List Bool := [false, false, false, false, false, true, true, true]
def F3 : List Bool := [true, true, true, false, false, true, true, true]
theorem two_runs : Rn.list F3 = [(0, 3), (5, 3)] := by decide
set_option maxRecDepth 8000 in
set_option maxHeartbeats 8000000 in
theorem rawake_any {Rep : World → Nat → (Nat → Prop) → List Bool → Prop} (hC : RunsC Rep) (w : World) :
    Calls Try.prog 12 #[] w fun e w' => e = .returned (.bool true) ∧ Below w.heap.size w w' := by
  have kt := run_two
  obtain ⟨B, hB⟩ : ∃ B, B = w.heap.size := ⟨_, rfl⟩
  have N1 := Lib.hid (new_mine hC 8 w (by unfold I64; omega))
  have HC := Lib.hid hC
  have HBw := Lib.hid (show B ≤ w.heap.size by omega)
  rw [← hB] at N1 ⊢
  clear hC hB
  go_enter Try.func12, Try.ntmps12
  go_wp2_with fail
  refine N1.out.mono ?_
  rintro e w1 ⟨g, rfl, m1, hb1⟩
  have S1 := Lib.hid (Nat.le_trans HBw.out hb1.size)
  have H1 := Lib.hid hb1
  have N2 := take_mine HC.out m1 S1.out 3 (by unfold I64; omega)
  rw [show Rn.take (Rn.new 8) 3 = (0, true, F1) by decide] at N2
  have N2 := Lib.hid N2
  clear m1 hb1 N1
  go_wp2_with fail
  refine N2.out.mono ?_
  rintro e w2 ⟨rfl, m2, hb2⟩
  have S2 := Lib.hid (Nat.le_trans S1.out hb2.size)
  have H2 := Lib.hid (H1.out.trans hb2)
  have N3 := take_mine HC.out m2 S2.out 2 (by unfold I64; omega)
  rw [show Rn.take F1 2 = (3, true, F2) by decide] at N3
  have N3 := Lib.hid N3
  clear m2 hb2 N2 H1
  go_wp2_with fail
  refine N3.out.mono ?_
  rintro e w3 ⟨rfl, m3, hb3⟩
  have S3 := Lib.hid (Nat.le_trans S2.out hb3.size)
  have H3 := Lib.hid (H2.out.trans hb3)
  have N4 := give_mine HC.out m3 S3.out 0 3 (by unfold I64; omega) (by unfold I64; omega)
  rw [show Rn.give F2 0 3 = (true, F3) by decide] at N4
  have N4 := Lib.hid N4
  clear m3 hb3 N3 H2
  go_wp2_with fail
  refine N4.out.mono ?_
  rintro e w4 ⟨rfl, m4, hb4⟩
  have S4 := Lib.hid (Nat.le_trans S3.out hb4.size)
  have H4 := Lib.hid (H3.out.trans hb4)
  have N5 := list_mine HC.out m4
  rw [two_runs] at N5
  have N5 := Lib.hid N5
  clear m4 hb4 N4 H3
  go_wp2_with fail
  refine N5.out.mono ?_
  rintro e w5 ⟨v, rfl, own, m5, hb5⟩
  have H5 := Lib.hid (H4.out.trans (hb5.mono S4.out))
  obtain ⟨gl, c, rfl, hgl, hgl2, hcell, hfz, hset⟩ := ownR_at own (by decide)
  obtain ⟨c1, c2⟩ := hcell 0 (by decide)
  obtain ⟨c3, c4⟩ := hcell 1 (by decide)
  clear hcell hfz hset own m5 hb5 N5 H4
  change w5.cell? ⟨gl, 0, none⟩ = some (.int .i64 0) at c1
  change w5.cell? ⟨gl, 1, none⟩ = some (.int .i64 3) at c2
  change w5.cell? ⟨gl, 2, none⟩ = some (.int .i64 5) at c3
  change w5.cell? ⟨gl, 3, none⟩ = some (.int .i64 3) at c4
  go_wp2_with fail
  go_ret
  exact ⟨rfl, H5.out⟩
end Go.Proofs.Ytfiafgmlbejboaa
