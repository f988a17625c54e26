/- TreeFailsSaid: for all arguments the statement TreeFails returns true. No condition. -/
import Derived.Test.YtlcchefiicalpaaZfa
import Derived.Test.YtlcchefiicalpaaZfec
import Derived.SizedLaws
import Derived.ProofKit
import Derived.OpenShut
import Derived.Test.YtlcchefiicalpaaRows
namespace Go.Proofs.Ytlcchefiicalpaa
open Go.ChangeShapes Go.WideShapes Go.ChangeAt Go.RowKit
theorem two_of_list {zs : List Int} (h : zs.length = 2) : ∃ a b, zs = [a, b] := by
  match zs, h with
  | [a, b], _ => exact ⟨a, b, rfl⟩
theorem treeFails_own : ownKnob Try.prog.godebug = none := by kernel_rfl
theorem treeFails_laid : laidOutB Try.prog = true := by kernel_rfl
set_option maxRecDepth 100000 in
theorem treeFails_lifted (os : Os) (started : os.Started) (H : Type) (enc : TypeId × Value → H) :
    ReturnsInHanded {} Try.checked os 11 .any (Rows.treeFailsSpec.pre6 enc Try.prog Try.f11 Rows.treeFailsRow.domain false) (Rows.treeFailsSpec.post enc Try.prog Try.f11 false true false false) := by
  refine returnsInHanded_of_change_sized (C := Try.checked) treeFails_own started (by kernel_rfl) Try.func11
    (ChangeSpec.witness6 (enc := enc) (C := Try.checked) false ⟨#[], #[.slice none 0 0, .agg #[.bool false, .slice none 0 0, .slice none 0 0], arrV .u8 (List.replicate 2 0)], []⟩ 8 (by kernel_rfl) (by kernel_rfl) (by kernel_rfl) (by kernel_rfl)) ?_
  intro W base args ds gs before hval0 hW hcnd hz _
  have hval : ∀ (j : Nat) t v, Try.f11.params[j]? = some t → args[j]? = some v → Value.okWide Try.prog W .any base t v := hval0
  have hW' := hW
  have hlt := hW.lt
  obtain ⟨p, q, hA0, hV, rfl, hfz, hnd⟩ := hW
  have hA : DataW.TrodAll enc Try.prog W 0 (fun _ => true) true Try.f11.params.toList args.toList ds p := hA0
  rw [Try.params11] at hA hval
  obtain ⟨v0, vs0, d0, ds0, p0, q0, hargs, rfl, rfl, h0, r0⟩ := trodAll_cons hA
  obtain ⟨v1, vs1, d1, ds1, p1, q1, rfl, rfl, rfl, h1, r1⟩ := trodAll_cons r0
  obtain ⟨v2, vs2, d2, ds2, p2, q2, rfl, rfl, rfl, h2, r2⟩ := trodAll_cons r1
  obtain ⟨rfl, rfl, rfl⟩ := trodAll_nil r2
  obtain rfl : args = #[v0, v1, v2] := by cases args; simp_all
  obtain ⟨rfl, rfl⟩ := trodVars_none hV
  obtain ⟨Aa, capa, a, rfl, la, ma, sa, oa, na⟩ := dvs_arg2 (hval 0 59 v0 rfl rfl) h0 (fun x hx => hlt x (by simp [hx])) (fun n hn => of_decide_eq_true (List.all_eq_true.1 hz n (DataW.weights_mem_each (j := 0) rfl rfl n hn)))
  obtain ⟨s, ls, rfl, rfl, rfl, ws⟩ := open_arr_ints Try.underlying96 Try.underlying5 (by kernel_rfl) (by kernel_rfl) (hval 2 96 v2 rfl rfl) h2
  clear hA0 hval0
  obtain ⟨d, rfl, hd⟩ := dv_arg (hval 1 77 v1 rfl rfl) h1 (fun x hx => hlt x (by simp [hx])) (fun n hn => of_decide_eq_true (List.all_eq_true.1 hz n (DataW.weights_mem_each (j := 1) rfl rfl n hn)))
  obtain ⟨a0, b0, rfl⟩ := two_of_list ls
  obtain ⟨i, rfl, hi⟩ := nat_of (b := 256) (wf_nat8 (ws a0 (by simp)))
  obtain ⟨m, rfl, hm⟩ := nat_of (b := 256) (wf_nat8 (ws b0 (by simp)))
  refine (tfails_any d i m _ sa oa (Nat.le_trans la ma) hd hi hm).mono fun e W' ⟨he, hb⟩ => ?_
  subst he
  exact ⟨_, rfl, law_post treeFails_laid (by kernel_rfl) hW' rfl rfl (by kernel_rfl) Try.underlying4 hb⟩
theorem treeFails_holds : Rows.TreeFailsSaid :=
  OpenClaim.holds_of_wide 11 Try.f11 rfl rfl rfl rfl rfl rfl rfl ⟨rfl, rfl, rfl, rfl, rfl⟩ rfl rfl rfl rfl rfl (by kernel_rfl) Try.func11 (by kernel_rfl)
    (of_decide_eq_true (by kernel_rfl)) (by unfold Func.isWrapper; first | (rw [if_pos (by decide +kernel)]; kernel_rfl) | (rw [if_neg (by decide +kernel)]; exact ⟨rfl, rfl⟩))
    (fun os started H enc _ => treeFails_lifted os started H enc)
end Go.Proofs.Ytlcchefiicalpaa
