/- TreeWrongSaid: for all arguments the statement TreeWrong returns true. No condition. -/
import Derived.Test.YtlcchefiicalpaaZwa
import Derived.Test.YtlcchefiicalpaaZwdj
import Derived.ProofKit
import Derived.OpenShut
import Derived.Test.YtlcchefiicalpaaRows
namespace Go.Proofs.Ytlcchefiicalpaa
open Go.ChangeShapes Go.WideShapes Go.ChangeAt Go.RowKit
theorem four_of_list {zs : List Int} (h : zs.length = 4) : ∃ a b c d, zs = [a, b, c, d] := by
  match zs, h with
  | [a, b, c, d], _ => exact ⟨a, b, c, d, rfl⟩
theorem treeWrong_own : ownKnob Try.prog.godebug = none := by kernel_rfl
theorem treeWrong_laid : laidOutB Try.prog = true := by kernel_rfl
set_option maxRecDepth 100000 in
theorem treeWrong_lifted (os : Os) (started : os.Started) (H : Type) (enc : TypeId × Value → H) :
    ReturnsInHanded {} Try.checked os 12 .any (Rows.treeWrongSpec.pre6 enc Try.prog Try.f12 Rows.treeWrongRow.domain false) (Rows.treeWrongSpec.post enc Try.prog Try.f12 false true false false) := by
  refine returnsInHanded_of_change (C := Try.checked) treeWrong_own started (by kernel_rfl) Try.func12
    (ChangeSpec.witness6 (enc := enc) (C := Try.checked) false ⟨#[], #[.slice none 0 0, arrV .i64 (List.replicate 4 0), .slice none 0 0], []⟩ 8 (by kernel_rfl) (by kernel_rfl) (by kernel_rfl) (by kernel_rfl)) ?_
  intro W base args ds gs before hval0 hW hcnd _
  have hval : ∀ (j : Nat) t v, Try.f12.params[j]? = some t → args[j]? = some v → Value.okWide Try.prog W .any base t v := hval0
  have hW' := hW
  have hlt := hW.lt
  obtain ⟨p, q, hA0, hV, rfl, hfz, hnd⟩ := hW
  have hA : DataW.TrodAll enc Try.prog W 0 (fun _ => true) true Try.f12.params.toList args.toList ds p := hA0
  rw [Try.params12] at hA hval
  obtain ⟨v0, vs0, d0, ds0, p0, q0, hargs, rfl, rfl, h0, r0⟩ := trodAll_cons hA
  obtain ⟨v1, vs1, d1, ds1, p1, q1, rfl, rfl, rfl, h1, r1⟩ := trodAll_cons r0
  obtain ⟨v2, vs2, d2, ds2, p2, q2, rfl, rfl, rfl, h2, r2⟩ := trodAll_cons r1
  obtain ⟨rfl, rfl, rfl⟩ := trodAll_nil r2
  obtain rfl : args = #[v0, v1, v2] := by cases args; simp_all
  obtain ⟨rfl, rfl⟩ := trodVars_none hV
  obtain ⟨Aa, capa, a, rfl, la, ma, sa, na⟩ := nds_arg (hval 0 99 v0 rfl rfl) h0 (fun x hx => hlt x (by simp [hx]))
  obtain ⟨s, ls, rfl, rfl, rfl, ws⟩ := open_arr_ints Try.underlying100 Try.underlying3 (by kernel_rfl) (by kernel_rfl) (hval 1 100 v1 rfl rfl) h1
  obtain ⟨Ab, capb, b, rfl, lb, mb, sb, wb, nb⟩ := ints_arg Try.underlying22 Try.underlying3 (by kernel_rfl) (hval 2 22 v2 rfl rfl) h2 (fun x hx => hlt x (by simp [hx]))
  clear hA0 hval0
  obtain ⟨n0, n1, n2, n3, rfl⟩ := four_of_list ls
  have h0 := wf_int64 (ws n0 (by simp))
  have h3 := wf_int64 (ws n3 (by simp))
  refine (twrong_any n0 n1 n2 n3 _ sa ⟨lb, nb, sb⟩ (show -9223372036854775808 ≤ n0 ∧ n0 ≤ 9223372036854775807 by omega) (by omega)).mono fun e W' ⟨he, hb⟩ => ?_
  subst he
  exact ⟨_, rfl, law_post treeWrong_laid (by kernel_rfl) hW' rfl rfl (by kernel_rfl) Try.underlying4 hb⟩
theorem treeWrong_holds : Rows.TreeWrongSaid :=
  OpenClaim.holds_of_wide 12 Try.f12 rfl rfl rfl rfl rfl rfl rfl ⟨rfl, rfl, rfl, rfl, rfl⟩ rfl rfl rfl rfl rfl (by kernel_rfl) Try.func12 (by kernel_rfl)
    (of_decide_eq_true (by kernel_rfl)) (by unfold Func.isWrapper; first | (rw [if_pos (by decide +kernel)]; kernel_rfl) | (rw [if_neg (by decide +kernel)]; exact ⟨rfl, rfl⟩))
    (fun os started H enc _ => treeWrong_lifted os started H enc)
end Go.Proofs.Ytlcchefiicalpaa
