/- The statements' own check that the program is awake holds. -/
import Derived.Test.YtdengokonaljpaaPlain
import Derived.Deep.RegionHeldLaw
namespace Go.Proofs.Ytdengokonaljpaa
open Go.RowKit Go.Maps

set_option maxHeartbeats 1000000 in
theorem pawake (w : World) : Calls Try.prog 9 #[] w fun e w' => e = .returned (.bool true) ∧ Below w.heap.size w w' := by
  have M0 := mild_new 64
  have e1 : (newSt 64).write 3 (all64 7) = (0, ((newSt 64).count 2).put 3 (all64 7)) := write_yes rfl (by decide) (all64_length 7)
  have M1 := M0.put 2 3 (all64 7)
  generalize hS1 : ((newSt 64).count 2).put 3 (all64 7) = S1 at *
  have M2 := M1.crash []
  generalize hS2 : S1.crash [] = S2 at *
  have e3 : S2.read 3 = (0, S2.look 3) := read_yes M2.p (by rw [M2.b]; decide)
  have l3 : S2.look 3 = all64 0 := by rw [← hS2, ← hS1]; rfl
  have M3 := M2.count 1
  have e4 : (S2.count 1).write 3 (all64 7) = (0, ((S2.count 1).count 2).put 3 (all64 7)) := write_yes M3.p (by rw [M3.b]; decide) (all64_length 7)
  have M4 := M3.put 2 3 (all64 7)
  generalize hS4 : ((S2.count 1).count 2).put 3 (all64 7) = S4 at *
  have e5 := sync_yes M4.p
  have M5 := M4.sync S4.cache.length
  generalize hS5 : ({ S4.count 3 with blocks := applied S4 (fun _ => true) S4.cache.length, cache := [] } : PSt) = S5 at *
  have M6 := M5.crash []
  generalize hS6 : S5.crash [] = S6 at *
  have e6 : S6.read 3 = (0, S6.look 3) := read_yes M6.p (by rw [M6.b]; decide)
  have l6 : S6.look 3 = all64 7 := by rw [← hS6, ← hS5, ← hS4, ← hS2, ← hS1]; rfl
  go_enter Try.func9, Try.ntmps9
  go_wp2_with fail
  refine (at_new 64 (by omega) (by omega) _).mono ?_
  rintro e w1 ⟨rfl, A1, B1⟩
  go_wp2_with fail
  refine (at_full A1 7).mono ?_
  rintro e w2 ⟨rfl, A2, B2⟩
  go_wp2_with fail
  refine (wr A2 (M0.small (by omega) (by omega)) (List.mem_cons_self ..) (all64_length 7) (all64_bytes (by omega)) e1).mono ?_
  rintro e w3 ⟨rfl, A3, B3⟩
  go_wp2_with fail
  refine (cr0 A3 (M1.small (by omega) (by omega)) hS2).mono ?_
  rintro e w4 ⟨rfl, A4, B4⟩
  go_wp2_with fail
  rw [l3] at e3
  refine (rd A4 (M2.small (by omega) (by omega)) e3 (all64_length 0)).mono ?_
  rintro e w5 ⟨m5, rfl, A5, B5⟩
  go_wp2_with fail
  refine (at_full A5 7).mono ?_
  rintro e w6 ⟨rfl, A6, B6⟩
  go_wp2_with fail
  refine (wr A6 (M3.small (by omega) (by omega)) (List.mem_cons_self ..) (all64_length 7) (all64_bytes (by omega)) e4).mono ?_
  rintro e w7 ⟨rfl, A7, B7⟩
  go_wp2_with fail
  refine (sy A7 (M4.small (by omega) (by omega)) e5).mono ?_
  rintro e w8 ⟨rfl, A8, B8⟩
  go_wp2_with fail
  refine (cr0 A8 (M5.small (by omega) (by omega)) hS6).mono ?_
  rintro e w9 ⟨rfl, A9, B9⟩
  go_wp2_with fail
  rw [l6] at e6
  refine (rd A9 (M6.small (by omega) (by omega)) e6 (all64_length 7)).mono ?_
  rintro e w10 ⟨m10, rfl, A10, B10⟩
  have Bw : Below w.heap.size w w10 := ((((((((B1.trans B2).trans B3).trans B4).trans B5).trans B6).trans B7).trans B8).trans B9).trans B10
  have A0 := Lib.hid (A10.less (ks' := [(m10, all64 7), (m5, all64 0)]) (by simp)).drew
  have k1 := at_conv A0.out (m := m10) (by simp) (all64_length 7)
  have k2 := at_conv A0.out (m := m5) (by simp) (all64_length 0)
  obtain ⟨s0, hs0⟩ : ∃ s, str (all64 0) = s := ⟨_, rfl⟩
  obtain ⟨s7, hs7⟩ : ∃ s, str (all64 7) = s := ⟨_, rfl⟩
  rw [hs7] at k1
  rw [hs0] at k2
  have Hs0 := Lib.hid hs0
  have Hs7 := Lib.hid hs7
  clear hs0 hs7
  clear A1 A2 A3 A4 A5 A6 A7 A8 A9 A10 B1 B2 B3 B4 B5 B6 B7 B8 B9 B10 e1 e3 e4 e5 e6 l3 l6 M0 M1 M2 M3 M4 M5 M6 hS1 hS2 hS4 hS5 hS6
  go_wp2_with fail
  go_region_held_law (fun w' => (convert 49 9 (.slice (some ⟨m5, 0, none⟩) 64 64)).run Try.prog w' = .ok (.string s0) w' ∧ (convert 49 9 (.slice (some ⟨m10, 0, none⟩) 64 64)).run Try.prog w' = .ok (.string s7) w') (first | exact ⟨k2, k1⟩ | exact ⟨k5, k4⟩ | exact ⟨k9, k8⟩) (first
    | (go_at_call 19; refine (at_full AA.out 7).mono ?_; rintro e w12 ⟨rfl, AB, BB⟩; have k7 := at_conv AB (m := _) (List.mem_cons_self ..) (all64_length _); have k8 := at_conv AB (m := m10) (by simp) (all64_length 7); rw [Hs7.out] at k7 k8; have k9 := at_conv AB (m := m5) (by simp) (all64_length 0); rw [Hs0.out] at k9)
    | (go_at_call 19; refine (at_full A0.out 0).mono ?_; rintro e w11 ⟨rfl, AX, BX⟩; simp only [World.size_drew] at AX; have k3 := at_conv AX (m := _) (List.mem_cons_self ..) (all64_length _); have k4 := at_conv AX (m := m10) (by simp) (all64_length 7); have k5 := at_conv AX (m := m5) (by simp) (all64_length 0); rw [Hs0.out] at k3 k5; rw [Hs7.out] at k4; have AA := Lib.hid AX; clear AX))
  go_wp2_with fail
  go_ret
  exact ⟨rfl, (Bw.drew.trans BX).trans BB⟩
end Go.Proofs.Ytdengokonaljpaa
