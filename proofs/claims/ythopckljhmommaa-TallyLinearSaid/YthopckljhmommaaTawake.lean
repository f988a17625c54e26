/- The statements' own check that the program is awake holds. -/
import Derived.Test.YthopckljhmommaaTal
import Derived.Test.YthopckljhmommaaApp
import Derived.Lib.SlBytesConst
namespace Go.Proofs.Ythopckljhmommaa
open Go.RowKit Crc

theorem byte_size : ∃ i, Try.prog.info? 5 = some i ∧ i.size = 1 := by
  cases h : Try.prog.info? 5 with
  | none => exact absurd (show (Try.prog.info? 5).isSome = true by kernel_rfl) (by rw [h]; decide)
  | some i =>
    refine ⟨i, rfl, ?_⟩
    have : (Try.prog.info? 5).map (·.size) = some 1 := by kernel_rfl
    rw [h] at this
    simpa using this

theorem run_const {w : World} {C : Array Value} {n c g : Nat} (hg : g = w.heap.size) :
    (convert 22 22 (.slice (some ⟨g, 0, none⟩) n c)).run Try.prog (w.alloc (.cells C 5)) = .ok (.slice (some ⟨g, 0, none⟩) n c) (w.alloc (.cells C 5 (C.size, C.size + 1))) := by
  subst hg
  exact Lib.run_convert_bytes_const w _ _ C n c Try.underlying22 Try.underlying5
theorem sl_one (b : Nat) (w : World) (hb : b < w.heap.size) (hc : w.cell? ⟨b, 0, none⟩ = some (.int .u8 97)) : Sl w w.heap.size (some ⟨b, 0, none⟩) (byts [97]) :=
  .inr ⟨b, 0, rfl, hb, fun i hi => by
    have : i = 0 := by simp [byts] at hi; omega
    subst this
    simpa [byts] using hc⟩
theorem sum_a {W w : World} (h : Below W.heap.size W w) (b : Nat) (hb : b < w.heap.size) (hc : w.cell? ⟨b, 0, none⟩ = some (.int .u8 97)) :
    Calls Try.prog 10 #[.slice (some ⟨b, 0, none⟩) 1 1] w fun e w' => e = .returned (.int .u32 ((sum [97] : Nat) : Int)) ∧ Below W.heap.size W w' :=
  sum_rel (some ⟨b, 0, none⟩) 1 [97] (by decide) (by decide) h (sl_one b w hb hc)
theorem rsum_a (b : Nat) (w : World) (hb : b < w.heap.size) (hc : w.cell? ⟨b, 0, none⟩ = some (.int .u8 97)) :
    Calls Try.prog 11 #[.slice (some ⟨b, 0, none⟩) 1 1] w fun e w' => e = .returned (.int .u32 ((sum [97] : Nat) : Int)) ∧ w = w' :=
  rsum_any (some ⟨b, 0, none⟩) 1 [97] (by decide) (by decide) w (sl_one b w hb hc)
theorem sum_nil {W w : World} (h : Below W.heap.size W w) :
    Calls Try.prog 10 #[.slice none 0 0] w fun e w' => e = .returned (.int .u32 0) ∧ Below W.heap.size W w' :=
  sum_rel none 0 [] (by decide) (by decide) h (Sl.nil _ _ _)
theorem sum_a_no : (((sum [97] : Nat) : Int) == 0) = false := by kernel_rfl
theorem sum_a_ne : (((sum [97] : Nat) : Int) != 0) = true := by kernel_rfl

set_option maxHeartbeats 1000000 in
theorem awake_any (w : World) :
    Calls Try.prog 8 #[] w fun e w' => e = .returned (.bool true) ∧ Below w.heap.size w w' := by
  have kc := @run_const
  have h1 := sum_a_no
  have h2 := sum_a_ne
  go_enter Try.func8, Try.ntmps8
  go_wp2_with (first
    | (go_at_call 10; ((with_reducible refine (sum_nil (Below.refl w.heap.size w)).mono ?_); rintro e w' ⟨rfl, hb⟩))
    | (go_at_call 10; ((with_reducible refine (sum_a (W := w) (by first | exact hb.alloc hb.size _ | exact (hb.alloc hb.size _).alloc (hb.alloc hb.size _).size _) _ (by simp) ((cell_fresh (by simp)).trans rfl)).mono ?_); rintro e w' ⟨rfl, hb⟩))
    | (go_at_call 11; ((with_reducible refine (rsum_a _ _ (by simp) ((cell_fresh (by simp)).trans rfl)).mono ?_); rintro e w' ⟨rfl, rfl⟩)))
  go_ret
  exact ⟨rfl, hb⟩

end Go.Proofs.Ythopckljhmommaa
