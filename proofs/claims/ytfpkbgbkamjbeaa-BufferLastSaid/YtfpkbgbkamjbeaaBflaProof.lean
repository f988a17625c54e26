/- BufferLastSaid: for all arguments the statement BufferLast returns true. No condition. -/
import Derived.Test.YtfpkbgbkamjbeaaBfla
import Derived.Test.YtfpkbgbkamjbeaaRows
import Derived.Test.YtfpkbgbkamjbeaaLaw
import Derived.ProofKit
import Derived.OpenShut
namespace Go.Proofs.Ytfpkbgbkamjbeaa
open Go.ChangeShapes Go.WideShapes Go.ChangeAt Go.RowKit

theorem bufferLast_own : ownKnob Try.prog.godebug = none := by kernel_rfl
theorem bufferLast_laid : laidOutB Try.prog = true := by kernel_rfl
set_option maxRecDepth 100000 in
theorem bufferLast_lifted (os : Os) (started : os.Started) (H : Type) (enc : TypeId × Value → H) :
    ReturnsInHanded {} Try.checked os 3 .any (Rows.bufferLastSpec.pre6 enc Try.prog Try.f3 Rows.bufferLastRow.domain false) (Rows.bufferLastSpec.post enc Try.prog Try.f3 false true false false) := by
  refine returnsInHanded_of_change (C := Try.checked) bufferLast_own started (by kernel_rfl) Try.func3
    (ChangeSpec.witness6 (enc := enc) (C := Try.checked) false ⟨#[], #[.slice none 0 0], []⟩ 8 (by kernel_rfl) (by kernel_rfl) (by kernel_rfl) (by kernel_rfl)) ?_
  intro W base args ds gs before hval0 hW hcnd _
  have hval : ∀ (j : Nat) t v, Try.f3.params[j]? = some t → args[j]? = some v → Value.okWide Try.prog W .any base t v := hval0
  have hW' := hW
  have hlt := hW.lt
  obtain ⟨p, q, hA0, hV, rfl, hfz, hnd⟩ := hW
  have hA : DataW.TrodAll enc Try.prog W 0 (fun _ => true) true Try.f3.params.toList args.toList ds p := hA0
  rw [Try.params3] at hA hval
  obtain ⟨v0, vs0, d0, ds0, p0, q0, hargs, rfl, rfl, h0, r0⟩ := trodAll_cons hA
  obtain ⟨rfl, rfl, rfl⟩ := trodAll_nil r0
  obtain rfl : args = #[v0] := by cases args; simp_all
  obtain ⟨rfl, rfl⟩ := trodVars_none hV
  obtain ⟨Aa, capa, a, rfl, la, ma, sa, wa, na⟩ := ints_arg Try.underlying22 Try.underlying27 (by kernel_rfl) (hval 0 22 v0 rfl rfl) h0 (fun x hx => hlt x (by simp [hx]))
  clear hA0 hval0
  obtain ⟨l, rfl, hl⟩ := nats_of (b := 65536) (fun z hz => wf_nat16 (wa z hz))
  rw [List.map_map] at sa
  rw [List.length_map] at hW' ⊢
  refine (blast_any hl sa).mono fun e W' ⟨he, hb⟩ => ?_
  subst he
  exact ⟨_, rfl, law_post bufferLast_laid (by kernel_rfl) hW' rfl rfl (by kernel_rfl) Try.underlying4 hb⟩

theorem bufferLast_holds : Rows.BufferLastSaid :=
  OpenClaim.holds_of_wide 3 Try.f3 rfl rfl rfl rfl rfl rfl rfl ⟨rfl, rfl, rfl, rfl, rfl⟩ rfl rfl rfl rfl rfl (by kernel_rfl) Try.func3 (by kernel_rfl)
    (of_decide_eq_true (by kernel_rfl)) (by unfold Func.isWrapper; first | (rw [if_pos (by decide +kernel)]; kernel_rfl) | (rw [if_neg (by decide +kernel)]; exact ⟨rfl, rfl⟩))
    (fun os started H enc _ => bufferLast_lifted os started H enc)

end Go.Proofs.Ytfpkbgbkamjbeaa
