/- Slice expressions b[:k] and b[k:] on slices of one-cell elements, as equations for the walk; what the pieces read as. -/
import Derived.Test.YtpaefpjggglmaaaLaw
import Derived.WalkKit
namespace Go.Proofs.Ytpaefpjggglmaaa
open Go.RowKit

/-- The address behind k elements (where nothing is left behind it, the address itself). -/
def cutA (A : Option Addr) (cap k : Nat) : Option Addr := if cap = k then A else A.map (·.add k)

section
variable {P : Program}
theorem run_slice_to {t e : TypeId} {i : TypeInfo} (ht : P.underlying t = some (.slice e)) (hi : P.info? e = some i) (A : Option Addr) (n cap k : Nat) (hk : k ≤ cap) (w : World) :
    (Instr.slice t (.slice A n cap) none (some (.int .i64 (k : Int))) none).run P w = .ok (.slice A k cap) w := by
  simp [Instr.slice, Instr.sliceBounds, Instr.sliceBound, run_underlying ht, sizeOf, typeInfo, hi, asIntOf, Addr.add]
  intro h; omega
theorem run_slice_from {t e : TypeId} {i : TypeInfo} (ht : P.underlying t = some (.slice e)) (hi : P.info? e = some i) (hs : i.size = 1) (A : Option Addr) (n cap k : Nat) (hk : k ≤ n) (w : World) :
    (Instr.slice t (.slice A n cap) (some (.int .i64 (k : Int))) none none).run P w = .ok (.slice (cutA A cap k) (n - k) (cap - k)) w := by
  simp [Instr.slice, Instr.sliceBounds, Instr.sliceBound, run_underlying ht, sizeOf, typeInfo, hi, asIntOf, hs, cutA]
  intro h; omega
theorem run_slice_mid {t e : TypeId} {i : TypeInfo} (ht : P.underlying t = some (.slice e)) (hi : P.info? e = some i) (hs : i.size = 1) (A : Option Addr) (n cap k m : Nat) (hk : k ≤ m) (hm : m ≤ cap) (w : World) :
    (Instr.slice t (.slice A n cap) (some (.int .i64 (k : Int))) (some (.int .i64 (m : Int))) none).run P w = .ok (.slice (cutA A cap k) (m - k) (cap - k)) w := by
  simp [Instr.slice, Instr.sliceBounds, Instr.sliceBound, run_underlying ht, sizeOf, typeInfo, hi, asIntOf, hs, cutA]
  rw [if_pos hm, if_pos hk]
end

theorem Sl.to {w : World} {B : Nat} {A : Option Addr} {xs : List Value} (h : Sl w B A xs) (k : Nat) : Sl w B A (xs.take k) := by
  rcases h with rfl | ⟨b, o, e, hB, hc⟩
  · exact .inl (by simp)
  · refine .inr ⟨b, o, e, hB, fun i hi => ?_⟩
    have : i < xs.length := by simp at hi; omega
    rw [hc i this]; simp
theorem Sl.from {w : World} {B : Nat} {A : Option Addr} {xs : List Value} (h : Sl w B A xs) {cap k : Nat} (hcap : xs.length ≤ cap) : Sl w B (cutA A cap k) (xs.drop k) := by
  rcases h with rfl | ⟨b, o, e, hB, hc⟩
  · exact .inl (by simp)
  · by_cases hk : xs.length ≤ k
    · exact .inl (List.drop_eq_nil_of_le hk)
    · refine .inr ⟨b, o + k, ?_, hB, fun i hi => ?_⟩
      · unfold cutA
        rw [if_neg (by omega), e]
        simp [Addr.add_lit]
      · have : k + i < xs.length := by simp at hi; omega
        have := hc (k + i) this
        rw [Nat.add_assoc, this]; simp
theorem byts_take (l : List Nat) (k : Nat) : (byts l).take k = byts (l.take k) := by unfold byts; rw [List.map_take]
theorem byts_drop (l : List Nat) (k : Nat) : (byts l).drop k = byts (l.drop k) := by unfold byts; rw [List.map_drop]


end Go.Proofs.Ytpaefpjggglmaaa
