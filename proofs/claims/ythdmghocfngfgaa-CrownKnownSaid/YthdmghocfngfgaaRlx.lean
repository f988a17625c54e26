/- The one long expression of the document's CrownMay: its operations may be walked in the text's order (checked in pieces: at once it is too much for the kernel). -/
import Derived.Test.YthdmghocfngfgaaLaw
import Derived.Test.YthdmghocfngfgaaChecked
import Derived.Deep.Quiet
namespace Go.Proofs.Ythdmghocfngfgaa

/-- The listing in which the first k of n are listed. -/
def LK (n k : Nat) : Array Bool := (List.replicate k true ++ List.replicate (n - k) false).toArray
theorem LK_set {n k : Nat} (h : k < n) : (LK n k).setIfInBounds k true = LK n (k + 1) := by
  unfold LK
  rw [List.setIfInBounds_toArray]
  congr 1
  rw [show n - k = (n - (k + 1)) + 1 by omega, List.replicate_succ, List.set_append_right _ _ (by simp)]
  simp only [List.length_replicate, Nat.sub_self, List.set_cons_zero]
  rw [List.replicate_succ', List.append_assoc]
  rfl
theorem LK_zero (n : Nat) : Array.replicate n false = LK n 0 := by
  unfold LK
  simp
/-- Whether operation k may come next. -/
def okAt (ops : Array Oper) (k : Nat) : Bool := (Region.ready .any ops (LK ops.size k)).contains k && Region.free .any ops (LK ops.size k) k
theorem lex_from (ops : Array Oper) (he : (Region.ready .any ops (LK ops.size ops.size)).isEmpty = true) : ∀ (f k : Nat), k + f = ops.size → (∀ j, k ≤ j → j < ops.size → okAt ops j = true) → Region.lexFrom .any ops f k (LK ops.size k) = true
  | 0, k, hk, _ => by
    have : k = ops.size := by omega
    subst this
    exact he
  | f + 1, k, hk, h => by
    have h0 := h k (Nat.le_refl _) (by omega)
    unfold okAt at h0
    unfold Region.lexFrom
    rw [h0, Bool.true_and, LK_set (by omega)]
    exact lex_from ops he f (k + 1) (by omega) fun j h1 h2 => h j (by omega) h2
theorem lex_of {ops : Array Oper} (hn : Region.noSelect ops = true) (he : (Region.ready .any ops (LK ops.size ops.size)).isEmpty = true) (h : ∀ j, j < ops.size → okAt ops j = true) : Region.lexB .any ops = true := by
  unfold Region.lexB
  rw [hn, Bool.true_and, LK_zero]
  exact lex_from ops he ops.size 0 (by omega) fun j _ hj => h j hj

/-- The operations of the first great region. -/
def bigOps : Code → Array Oper
  | .region _ ops _ => if 50 ≤ ops.size then ops else #[]
  | .seq a b => if (bigOps a).size = 0 then bigOps b else bigOps a
  | _ => #[]
def greatOps (F : Func) : Array Oper := bigOps ((Go.Func.body F).getD .skip)
theorem may_size : (greatOps Try.f15).size = 101 := by kernel_rfl
theorem may_sel : Region.noSelect (greatOps Try.f15) = true := by kernel_rfl
theorem may_end : (Region.ready .any (greatOps Try.f15) (LK (greatOps Try.f15).size (greatOps Try.f15).size)).isEmpty = true := by kernel_rfl
theorem may_0 : (List.range' 0 8).all (okAt (greatOps Try.f15)) = true := by kernel_rfl
theorem may_1 : (List.range' 8 8).all (okAt (greatOps Try.f15)) = true := by kernel_rfl
theorem may_2 : (List.range' 16 8).all (okAt (greatOps Try.f15)) = true := by kernel_rfl
theorem may_3 : (List.range' 24 8).all (okAt (greatOps Try.f15)) = true := by kernel_rfl
theorem may_4 : (List.range' 32 8).all (okAt (greatOps Try.f15)) = true := by kernel_rfl
theorem may_5 : (List.range' 40 8).all (okAt (greatOps Try.f15)) = true := by kernel_rfl
theorem may_6 : (List.range' 48 8).all (okAt (greatOps Try.f15)) = true := by kernel_rfl
theorem may_7 : (List.range' 56 8).all (okAt (greatOps Try.f15)) = true := by kernel_rfl
theorem may_8 : (List.range' 64 8).all (okAt (greatOps Try.f15)) = true := by kernel_rfl
theorem may_9 : (List.range' 72 8).all (okAt (greatOps Try.f15)) = true := by kernel_rfl
theorem may_10 : (List.range' 80 8).all (okAt (greatOps Try.f15)) = true := by kernel_rfl
theorem may_11 : (List.range' 88 8).all (okAt (greatOps Try.f15)) = true := by kernel_rfl
theorem may_12 : (List.range' 96 5).all (okAt (greatOps Try.f15)) = true := by kernel_rfl
theorem all_range {f : Nat → Bool} {a n j : Nat} (h : (List.range' a n).all f = true) (h1 : a ≤ j) (h2 : j < a + n) : f j = true := List.all_eq_true.1 h j (List.mem_range'_1.2 ⟨h1, h2⟩)
theorem may_lex : Region.lexB .any (greatOps Try.f15) = true := lex_of may_sel may_end fun j hj => by
  rw [may_size] at hj
  by_cases h0 : j < 8
  · exact all_range may_0 (by omega) (by omega)
  by_cases h1 : j < 16
  · exact all_range may_1 (by omega) (by omega)
  by_cases h2 : j < 24
  · exact all_range may_2 (by omega) (by omega)
  by_cases h3 : j < 32
  · exact all_range may_3 (by omega) (by omega)
  by_cases h4 : j < 40
  · exact all_range may_4 (by omega) (by omega)
  by_cases h5 : j < 48
  · exact all_range may_5 (by omega) (by omega)
  by_cases h6 : j < 56
  · exact all_range may_6 (by omega) (by omega)
  by_cases h7 : j < 64
  · exact all_range may_7 (by omega) (by omega)
  by_cases h8 : j < 72
  · exact all_range may_8 (by omega) (by omega)
  by_cases h9 : j < 80
  · exact all_range may_9 (by omega) (by omega)
  by_cases h10 : j < 88
  · exact all_range may_10 (by omega) (by omega)
  by_cases h11 : j < 96
  · exact all_range may_11 (by omega) (by omega)
  by_cases h12 : j < 101
  · exact all_range may_12 (by omega) (by omega)
  omega
end Go.Proofs.Ythdmghocfngfgaa
