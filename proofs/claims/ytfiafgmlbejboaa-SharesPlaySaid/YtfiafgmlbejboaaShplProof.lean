/- SharesPlaySaid: for all arguments the statement SharesPlay returns true. No condition. -/
import Derived.Test.YtfiafgmlbejboaaShpl
import Derived.Test.YtfiafgmlbejboaaSall
import Derived.Test.YtfiafgmlbejboaaDeed3
import Derived.Test.YtfiafgmlbejboaaRows
import Derived.Test.YtfiafgmlbejboaaLaw
import Derived.ProofKit
import Derived.OpenShut
namespace Go.Proofs.Ytfiafgmlbejboaa
open Go.ChangeShapes Go.WideShapes Go.ChangeAt Go.RowKit

theorem sharesPlay_own : ownKnob Try.prog.godebug = none := by kernel_rfl
theorem sharesPlay_laid : laidOutB Try.prog = true := by kernel_rfl
set_option maxRecDepth 100000 in
theorem sharesPlay_lifted (os : Os) (started : os.Started) (H : Type) (enc : TypeId × Value → H) :
    ReturnsInHanded {} Try.checked os 8 .any (Rows.sharesPlaySpec.pre6 enc Try.prog Try.f8 Rows.sharesPlayRow.domain false) (Rows.sharesPlaySpec.post enc Try.prog Try.f8 false true false false) := by
  refine returnsInHanded_of_change (C := Try.checked) sharesPlay_own started (by kernel_rfl) Try.func8
    (ChangeSpec.witness6 (enc := enc) (C := Try.checked) false ⟨#[], #[.slice none 0 0], []⟩ 8 (by kernel_rfl) (by kernel_rfl) (by kernel_rfl) (by kernel_rfl)) ?_
  intro W base args ds gs before hval0 hW hcnd _
  have hval : ∀ (j : Nat) t v, Try.f8.params[j]? = some t → args[j]? = some v → Value.okWide Try.prog W .any base t v := hval0
  have hW' := hW
  have hlt := hW.lt
  obtain ⟨p, q, hA0, hV, rfl, hfz, hnd⟩ := hW
  have hA : DataW.TrodAll enc Try.prog W 0 (fun _ => true) true Try.f8.params.toList args.toList ds p := hA0
  rw [Try.params8] at hA hval
  obtain ⟨v0, vs0, d0, ds0, p0, q0, hargs, rfl, rfl, h0, r0⟩ := trodAll_cons hA
  obtain ⟨rfl, rfl, rfl⟩ := trodAll_nil r0
  obtain rfl : args = #[v0] := by cases args; simp_all
  obtain ⟨rfl, rfl⟩ := trodVars_none hV
  obtain ⟨Al, capl, l, rfl, ll, ml, sl, ol, nl⟩ := threes_arg Try.underlying45 Try.underlying50 rfl rfl rfl rfl Try.underlying3 (by kernel_rfl) (by kernel_rfl) (hval 0 45 v0 rfl rfl) h0 (fun x hx => hlt x (by simp [hx]))
  clear hA0 hval0
  refine (shplay_any runs_are shares_are (fun i => l.getD i (0, 0, 0)) (fun i => (ThreesAt.wf ol i).2) sl).mono fun e W' ⟨he, hb⟩ => ?_
  subst he
  exact ⟨_, rfl, law_post sharesPlay_laid (by kernel_rfl) hW' rfl rfl (by kernel_rfl) Try.underlying4 hb⟩

theorem sharesPlay_holds : Rows.SharesPlaySaid :=
  OpenClaim.holds_of_wide 8 Try.f8 rfl rfl rfl rfl rfl rfl rfl ⟨rfl, rfl, rfl, rfl, rfl⟩ rfl rfl rfl rfl rfl (by kernel_rfl) Try.func8 (by kernel_rfl)
    (of_decide_eq_true (by kernel_rfl)) (by unfold Func.isWrapper; first | (rw [if_pos (by decide +kernel)]; kernel_rfl) | (rw [if_neg (by decide +kernel)]; exact ⟨rfl, rfl⟩))
    (fun os started H enc _ => sharesPlay_lifted os started H enc)

end Go.Proofs.Ytfiafgmlbejboaa
