/- DepthCostsSaid: for all arguments the statement DepthCosts returns true. No condition. -/
import Derived.Test.YthcppebfhjleiaaDcosts
import Derived.Test.YthcppebfhjleiaaDall
import Derived.Test.YthcppebfhjleiaaRows
import Derived.Test.YthcppebfhjleiaaLaw
import Derived.ProofKit
import Derived.OpenShut
namespace Go.Proofs.Ythcppebfhjleiaa
open Go.ChangeShapes Go.WideShapes Go.ChangeAt Go.RowKit

theorem depthCosts_own : ownKnob Try.prog.godebug = none := by kernel_rfl
theorem depthCosts_laid : laidOutB Try.prog = true := by kernel_rfl
set_option maxRecDepth 100000 in
theorem depthCosts_lifted (os : Os) (started : os.Started) (H : Type) (enc : TypeId × Value → H) :
    ReturnsInHanded {} Try.checked os 4 .any (Rows.depthCostsSpec.pre6 enc Try.prog Try.f4 Rows.depthCostsRow.domain false) (Rows.depthCostsSpec.post enc Try.prog Try.f4 false true false false) := by
  refine returnsInHanded_of_change (C := Try.checked) depthCosts_own started (by kernel_rfl) Try.func4
    (ChangeSpec.witness6 (enc := enc) (C := Try.checked) false ⟨#[], #[.slice none 0 0, .slice none 0 0, .slice none 0 0], []⟩ 8 (by kernel_rfl) (by kernel_rfl) (by kernel_rfl) (by kernel_rfl)) ?_
  intro W base args ds gs before hval0 hW hcnd _
  have hval : ∀ (j : Nat) t v, Try.f4.params[j]? = some t → args[j]? = some v → Value.okWide Try.prog W .any base t v := hval0
  have hW' := hW
  have hlt := hW.lt
  obtain ⟨p, q, hA0, hV, rfl, hfz, hnd⟩ := hW
  have hA : DataW.TrodAll enc Try.prog W 0 (fun _ => true) true Try.f4.params.toList args.toList ds p := hA0
  rw [Try.params4] at hA hval
  obtain ⟨v0, vs0, d0, ds0, p0, q0, hargs, rfl, rfl, h0, r0⟩ := trodAll_cons hA
  obtain ⟨v1, vs1, d1, ds1, p1, q1, rfl, rfl, rfl, h1, r1⟩ := trodAll_cons r0
  obtain ⟨v2, vs2, d2, ds2, p2, q2, rfl, rfl, rfl, h2, r2⟩ := trodAll_cons r1
  obtain ⟨rfl, rfl, rfl⟩ := trodAll_nil r2
  obtain rfl : args = #[v0, v1, v2] := by cases args; simp_all
  obtain ⟨rfl, rfl⟩ := trodVars_none hV
  obtain ⟨Aa, capa, a, rfl, la, ma, sa, ba, na⟩ := bytes_arg Try.underlying31 Try.underlying5 (by kernel_rfl) (hval 0 31 v0 rfl rfl) h0 (fun x hx => hlt x (by simp [hx]))
  obtain ⟨Al, capl, l, rfl, ll, ml, sl, wl, nl⟩ := ints_arg Try.underlying32 Try.underlying33 (by kernel_rfl) (hval 1 32 v1 rfl rfl) h1 (fun x hx => hlt x (by simp [hx]))
  obtain ⟨An, capn, n, rfl, ln, mn, sn, bn, nn⟩ := u32s_arg Try.underlying22 Try.underlying34 (by kernel_rfl) (hval 2 22 v2 rfl rfl) h2 (fun x hx => hlt x (by simp [hx]))
  clear hA0 hval0
  refine (dcosts_all kraft_is cost_is lens_is lens_ok W ba wl bn sa sl sn).mono fun e W' ⟨he, hb⟩ => ?_
  subst he
  exact ⟨_, rfl, law_post depthCosts_laid (by kernel_rfl) hW' rfl rfl (by kernel_rfl) Try.underlying4 hb⟩

theorem depthCosts_holds : Rows.DepthCostsSaid :=
  OpenClaim.holds_of_wide 4 Try.f4 rfl rfl rfl rfl rfl rfl rfl ⟨rfl, rfl, rfl, rfl, rfl⟩ rfl rfl rfl rfl rfl (by kernel_rfl) Try.func4 (by kernel_rfl)
    (of_decide_eq_true (by kernel_rfl)) (by unfold Func.isWrapper; first | (rw [if_pos (by decide +kernel)]; kernel_rfl) | (rw [if_neg (by decide +kernel)]; exact ⟨rfl, rfl⟩))
    (fun os started H enc _ => depthCosts_lifted os started H enc)

end Go.Proofs.Ythcppebfhjleiaa
