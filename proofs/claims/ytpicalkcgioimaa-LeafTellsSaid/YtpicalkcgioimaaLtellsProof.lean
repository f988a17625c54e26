/- LeafTellsSaid: for all arguments the statement LeafTells returns true. No condition. -/
import Derived.Test.YtpicalkcgioimaaLtells
import Derived.Test.YtpicalkcgioimaaArr
import Derived.Test.YtpicalkcgioimaaRows
import Derived.Test.YtpicalkcgioimaaLaw
import Derived.ProofKit
import Derived.OpenShut
namespace Go.Proofs.Ytpicalkcgioimaa
open Go.ChangeShapes Go.WideShapes Go.ChangeAt Go.RowKit

theorem two_of_list {zs : List Int} (h : zs.length = 2) : ∃ a b, zs = [a, b] := by
  match zs, h with
  | [a, b], _ => exact ⟨a, b, rfl⟩

theorem leafTells_own : ownKnob Try.prog.godebug = none := by kernel_rfl
theorem leafTells_laid : laidOutB Try.prog = true := by kernel_rfl
set_option maxRecDepth 100000 in
theorem leafTells_lifted (os : Os) (started : os.Started) (H : Type) (enc : TypeId × Value → H) :
    ReturnsInHanded {} Try.checked os 5 .any (Rows.leafTellsSpec.pre6 enc Try.prog Try.f5 Rows.leafTellsRow.domain false) (Rows.leafTellsSpec.post enc Try.prog Try.f5 false true false false) := by
  refine returnsInHanded_of_change (C := Try.checked) leafTells_own started (by kernel_rfl) Try.func5
    (ChangeSpec.witness6 (enc := enc) (C := Try.checked) false ⟨#[], #[.int .u8 0, .slice none 0 0, arrV .u32 (List.replicate 2 0)], []⟩ 8 (by kernel_rfl) (by kernel_rfl) (by kernel_rfl) (by kernel_rfl)) ?_
  intro W base args ds gs before hval0 hW hcnd _
  have hval : ∀ (j : Nat) t v, Try.f5.params[j]? = some t → args[j]? = some v → Value.okWide Try.prog W .any base t v := hval0
  have hW' := hW
  have hlt := hW.lt
  obtain ⟨p, q, hA0, hV, rfl, hfz, hnd⟩ := hW
  have hA : DataW.TrodAll enc Try.prog W 0 (fun _ => true) true Try.f5.params.toList args.toList ds p := hA0
  rw [Try.params5] at hA hval
  obtain ⟨v0, vs0, d0, ds0, p0, q0, hargs, rfl, rfl, h0, r0⟩ := trodAll_cons hA
  obtain ⟨v1, vs1, d1, ds1, p1, q1, rfl, rfl, rfl, h1, r1⟩ := trodAll_cons r0
  obtain ⟨v2, vs2, d2, ds2, p2, q2, rfl, rfl, rfl, h2, r2⟩ := trodAll_cons r1
  obtain ⟨rfl, rfl, rfl⟩ := trodAll_nil r2
  obtain rfl : args = #[v0, v1, v2] := by cases args; simp_all
  obtain ⟨rfl, rfl⟩ := trodVars_none hV
  obtain ⟨kk, rfl, rfl, rfl, wkk⟩ := open_int Try.underlying5 (hval 0 5 v0 rfl rfl) h0
  obtain ⟨Ad, capd, d, rfl, ld, md, sd, bd, nd⟩ := bytes_arg Try.underlying22 Try.underlying5 (by kernel_rfl) (hval 1 22 v1 rfl rfl) h1 (fun x hx => hlt x (by simp [hx]))
  obtain ⟨s, ls, rfl, rfl, rfl, ws⟩ := open_arr_ints Try.underlying41 Try.underlying40 (by kernel_rfl) (by kernel_rfl) (hval 2 41 v2 rfl rfl) h2
  clear hA0 hval0
  obtain ⟨k, rfl, hk⟩ := nat_of (b := 256) (wf_nat8 wkk)
  obtain ⟨a0, b0, rfl⟩ := two_of_list ls
  obtain ⟨a, rfl, -⟩ := nat_of (b := 4294967296) (wf_nat32 (ws a0 (by simp)))
  obtain ⟨m, rfl, hm⟩ := nat_of (b := 4294967296) (wf_nat32 (ws b0 (by simp)))
  refine (leafTells_any sd bd ld nd k hk a m hm).mono fun e W' ⟨he, hb⟩ => ?_
  subst he
  exact ⟨_, rfl, law_post leafTells_laid (by kernel_rfl) hW' rfl rfl (by kernel_rfl) Try.underlying4 hb⟩

theorem leafTells_holds : Rows.LeafTellsSaid :=
  OpenClaim.holds_of_wide 5 Try.f5 rfl rfl rfl rfl rfl rfl rfl ⟨rfl, rfl, rfl, rfl, rfl⟩ rfl rfl rfl rfl rfl (by kernel_rfl) Try.func5 (by kernel_rfl)
    (of_decide_eq_true (by kernel_rfl)) (by unfold Func.isWrapper; first | (rw [if_pos (by decide +kernel)]; kernel_rfl) | (rw [if_neg (by decide +kernel)]; exact ⟨rfl, rfl⟩))
    (fun os started H enc _ => leafTells_lifted os started H enc)

end Go.Proofs.Ytpicalkcgioimaa
