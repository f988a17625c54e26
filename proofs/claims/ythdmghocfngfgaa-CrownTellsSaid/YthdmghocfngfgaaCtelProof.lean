/- CrownTellsSaid: for all arguments the statement CrownTells returns true. No condition. -/
import Derived.Test.YthdmghocfngfgaaCst6
import Derived.Test.YthdmghocfngfgaaCarg
import Derived.Test.YthdmghocfngfgaaArr
import Derived.Test.YthdmghocfngfgaaRows
import Derived.Test.YthdmghocfngfgaaLaw
import Derived.ProofKit
import Derived.OpenShut
namespace Go.Proofs.Ythdmghocfngfgaa
open Go.ChangeShapes Go.WideShapes Go.ChangeAt Go.RowKit

theorem two_of_list {zs : List Int} (h : zs.length = 2) : ∃ a b, zs = [a, b] := by
  match zs, h with
  | [a, b], _ => exact ⟨a, b, rfl⟩

theorem crownTells_own : ownKnob Try.prog.godebug = none := by kernel_rfl
theorem crownTells_laid : laidOutB Try.prog = true := by kernel_rfl
set_option maxRecDepth 100000 in
theorem crownTells_lifted (os : Os) (started : os.Started) (H : Type) (enc : TypeId × Value → H) :
    ReturnsInHanded {} Try.checked os 6 .any (Rows.crownTellsSpec.pre6 enc Try.prog Try.f6 Rows.crownTellsRow.domain false) (Rows.crownTellsSpec.post enc Try.prog Try.f6 false true false false) := by
  refine returnsInHanded_of_change (C := Try.checked) crownTells_own started (by kernel_rfl) Try.func6
    (ChangeSpec.witness6 (enc := enc) (C := Try.checked) false ⟨#[], #[.agg #[.int .i64 0, .int .i64 0, .int .i64 0, .float .f64 0, .int .i64 0, .int .i64 0, .int .i64 0, .int .i64 0], arrV .u32 (List.replicate 2 0)], []⟩ 8 (by kernel_rfl) (by kernel_rfl) (by kernel_rfl) (by kernel_rfl)) ?_
  intro W base args ds gs before hval0 hW hcnd _
  have hval : ∀ (j : Nat) t v, Try.f6.params[j]? = some t → args[j]? = some v → Value.okWide Try.prog W .any base t v := hval0
  have hW' := hW
  have hlt := hW.lt
  obtain ⟨p, q, hA0, hV, rfl, hfz, hnd⟩ := hW
  have hA : DataW.TrodAll enc Try.prog W 0 (fun _ => true) true Try.f6.params.toList args.toList ds p := hA0
  rw [Try.params6] at hA hval
  obtain ⟨v0, vs0, d0, ds0, p0, q0, hargs, rfl, rfl, h0, r0⟩ := trodAll_cons hA
  obtain ⟨v1, vs1, d1, ds1, p1, q1, rfl, rfl, rfl, h1, r1⟩ := trodAll_cons r0
  obtain ⟨rfl, rfl, rfl⟩ := trodAll_nil r1
  obtain rfl : args = #[v0, v1] := by cases args; simp_all
  obtain ⟨rfl, rfl⟩ := trodVars_none hV
  obtain ⟨s, ls, rfl, rfl, rfl, ws⟩ := open_arr_ints Try.underlying54 Try.underlying53 (by kernel_rfl) (by kernel_rfl) (hval 1 54 v1 rfl rfl) h1
  clear hA0 hval0
  obtain ⟨c, rfl, hg⟩ := crown_arg (hval 0 26 v0 rfl rfl) h0
  obtain ⟨a0, b0, rfl⟩ := two_of_list ls
  obtain ⟨a, rfl, ha⟩ := nat_of (b := 4294967296) (wf_nat32 (ws a0 (by simp)))
  obtain ⟨m, rfl, hm⟩ := nat_of (b := 4294967296) (wf_nat32 (ws b0 (by simp)))
  refine (ctells_any c hg a m ha hm _).mono fun e W' ⟨he, hb⟩ => ?_
  subst he
  exact ⟨_, rfl, law_post crownTells_laid (by kernel_rfl) hW' rfl rfl (by kernel_rfl) Try.underlying4 hb⟩

theorem crownTells_holds : Rows.CrownTellsSaid :=
  OpenClaim.holds_of_wide 6 Try.f6 rfl rfl rfl rfl rfl rfl rfl ⟨rfl, rfl, rfl, rfl, rfl⟩ rfl rfl rfl rfl rfl (by kernel_rfl) Try.func6 (by kernel_rfl)
    (of_decide_eq_true (by kernel_rfl)) (by unfold Func.isWrapper; first | (rw [if_pos (by decide +kernel)]; kernel_rfl) | (rw [if_neg (by decide +kernel)]; exact ⟨rfl, rfl⟩))
    (fun os started H enc _ => crownTells_lifted os started H enc)

end Go.Proofs.Ythdmghocfngfgaa
