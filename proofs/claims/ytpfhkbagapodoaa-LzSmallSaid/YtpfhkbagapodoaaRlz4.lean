/- The document's Unpack at any length asked, and its Plain. -/
import Derived.Test.YtpfhkbagapodoaaRlz3
import Derived.Laws.Small
namespace Go.Proofs.Ytpfhkbagapodoaa
open Go.RowKit

set_option maxRecDepth 4000 in
set_option maxHeartbeats 2000000 in
theorem runpack_bad (A : Option Addr) (cap N : Nat) (l : List Nat) (n : Int) (hn : n < 0 ∨ 4096 < n) (w : World) :
    Calls Try.prog 12 #[.slice A N cap, .int .i64 n] w (UnpR (Lz.unpack l n) w) := by
  have hr : Lz.unpack l n = ([], 1) := by unfold Lz.unpack; rw [if_pos hn]
  have HR := Lib.hid hr
  have early : ∀ x y : Bool, decide (n < 0) = x → decide (4096 < n) = y → (x = true ∨ y = true) → Calls Try.prog 12 #[.slice A N cap, .int .i64 n] w (UnpR (Lz.unpack l n) w) := by
    intro x y h1 h2 h
    clear hr hn
    cases x <;> cases y <;> first
      | (simp at h; done)
      | (clear h
         go_enter Try.func12, Try.ntmps12
         go_wp2_with fail
         go_returns
         exact unpR_no HR.out (Below.refl _ _))
  refine early _ _ rfl rfl ?_
  rcases hn with h | h
  · exact .inl (by simpa using h)
  · exact .inr (by simpa using h)
theorem runpack_by {w : World} {A : Option Addr} {c : Nat} {l : List Nat} (h : By w A c l) (hlen : l.length ≤ 100000) (n : Int) (N : Nat) (hN : N = l.length) :
    Calls Try.prog 12 #[.slice A N c, .int .i64 n] w (UnpR (Lz.unpack l n) w) := by
  by_cases hn : n < 0 ∨ 4096 < n
  · exact runpack_bad A c N l n hn w
  · obtain ⟨k, rfl⟩ : ∃ k : Nat, n = k := ⟨n.toNat, by omega⟩
    subst hN
    exact runpack_good A c l h.lt hlen h.cap h.nil k (by omega) h.sl

/-- New bytes. -/
def NewB (l : List Nat) (w : World) (e : Ending) (w' : World) : Prop := ∃ A c, e = .returned (.slice A l.length c) ∧ By w' A c l ∧ Below w.heap.size w w' ∧ w'.ownsRow w.heap.size 5 1 (.slice A l.length c) l.length (byts l)
theorem plain_split (n : Nat) (h : 15 ≤ n) : Lz.ext n = List.replicate ((n - 15) / 255) 255 ++ [(n - 15) % 255] := by unfold Lz.ext; rw [if_neg (by omega)]
set_option maxRecDepth 4000 in
set_option maxHeartbeats 4000000 in
theorem rplain_by {w : World} {A : Option Addr} {c : Nat} {l : List Nat} (h : By w A c l) (hlen : l.length ≤ 100000) (N : Nat) (hN : N = l.length) :
    Calls Try.prog 15 #[.slice A N c] w (NewB (Lz.encLast l) w) := by
  obtain ⟨i0, hi0, hz0, hs0, hb0⟩ := byte_parts (P := Try.prog) (e := 5) (by kernel_rfl)
  have hNb : N ≤ 100000 := by omega
  obtain ⟨T, hT⟩ : ∃ T : Nat, T = Lz.nib N * 16 := ⟨_, rfl⟩
  have hTb : T < 256 := by rw [hT]; unfold Lz.nib; omega
  have HY := Lib.hid h
  have Ll := Lib.hid (show (byts l).length = N by rw [byts_length, hN])
  have HN := Lib.hid hN
  have fin : ∀ (W : World) (A' : Option Addr) (c' m : Nat), Mine w W A' m c' ([T] ++ Lz.ext N ++ l) → NewB (Lz.encLast l) w (.returned (.slice A' m c')) W := by
    intro W A' c' m hm
    have e : [T] ++ Lz.ext N ++ l = Lz.encLast l := by unfold Lz.encLast; rw [hT, hN]; simp
    rw [e] at hm
    have hml := hm.len
    refine ⟨A', c', by rw [hml], By.of_own hm.own ?_ ?_, hm.bel, by rw [hml]; exact hm.own⟩
    · intro x hx
      rw [← e] at hx
      rcases List.mem_append.1 hx with hx | hx
      · rcases List.mem_append.1 hx with hx | hx
        · have : x = T := by simpa using hx
          omega
        · exact Lz.ext_lt x hx
      · exact h.lt x hx
    · rw [← e, List.length_append, List.length_append, List.length_singleton, Lz.ext_len]
      split <;> omega
  have Fin := Lib.hid fin
  have hTz : (if (15 : Int) < (N : Int) then (15 : Int) else (N : Int)) * 16 = (T : Int) := by rw [hT]; unfold Lz.nib; split <;> omega
  obtain ⟨V, hV⟩ : ∃ V : Nat, V = min N 15 := ⟨_, rfl⟩
  have hmin : ∀ (ts : Array TypeId) (t : TypeId) (W : World), (Builtin.min_ ts t #[.int .i64 (N : Int), .int .i64 15]).run Try.prog W = .ok (.int .i64 (V : Int)) W := fun ts t W => by
    rw [run_min_int2, show (if (15 : Int) < (N : Int) then (15 : Int) else (N : Int)) = (V : Int) by split <;> omega]
  have hVT : (V : Int) * 16 = (T : Int) := by rw [hV, hT]; unfold Lz.nib; omega
  have hV15 : V ≤ 15 := by omega
  have hTw : (T : Int) % 256 = (T : Int) := by omega
  have M1 := Lib.hid (show Mine w (w.alloc (.cells #[.int .u8 (T : Int)] 5)) (some ⟨w.heap.size, 0, none⟩) 1 1 [T] from ⟨World.ownsRow_lit (base := w.heap.size) (e := 5) (size := 1) w #[.int .u8 (T : Int)] 1 (Nat.le_refl _) (by decide) rfl, (Below.refl _ _).alloc (Nat.le_refl _) _⟩)
  clear h hN hT fin hTz hV hlen
  by_cases h15 : N < 15
  · have q1 : decide ((15 : Int) ≤ (N : Int)) = false := by rw [decide_eq_false_iff_not]; omega
    have q1' : decide (15 ≤ N) = false := by rw [decide_eq_false_iff_not]; omega
    have hx : Lz.ext N = [] := by unfold Lz.ext; rw [if_pos h15]
    have Hx := Lib.hid hx
    have Y1 := Lib.hid (HY.out.below M1.out.bel)
    clear hx h15 HY
    go_enter Try.func15, Try.ntmps15
    go_wp2_with (at_builtin; refine wpList_append_sl (base := w.heap.size) _ rfl (.tmp 28) (.tmp 29) _ rfl Try.underlying22 hi0 hz0 hs0 hb0 rfl rfl M1.out.own rfl Ll.out.symm Y1.out.nil Y1.out.sl (byts_one _) (by rw [Ll.out, HN.out]; exact Y1.out.cap) (by rw [Ll.out]; unfold maxLen; omega) (by rw [Ll.out]; omega) M1.out.bel.size ?_; intro v2 w2 h1 h2 _; obtain ⟨A2, c2, rfl, m2⟩ := M1.out.app HN.out.symm rfl h1 h2; have M2 := Lib.hid m2; clear h1 h2 m2)
    go_ret
    exact Fin.out _ _ _ _ (by rw [Hx.out]; exact M2.out)
  · have q1 : decide ((15 : Int) ≤ (N : Int)) = true := by rw [decide_eq_true_eq]; omega
    have q1' : decide (15 ≤ N) = true := by rw [decide_eq_true_eq]; omega
    have h15' : 15 ≤ N := by omega
    have Hx := Lib.hid (plain_split N h15')
    clear h15
    go_enter Try.func15, Try.ntmps15
    go_wp2_with fail
    go_loopw [3, 4] (fun a v wr => ∃ (j r : Nat) (A' : Option Addr) (c' : Nat), r + 255 * j = N - 15 ∧ a = .int .i64 r ∧ v = .slice A' (1 + j) c' ∧ Mine w wr A' (1 + j) c' ([T] ++ List.replicate j 255)) (fun a _ _ => (intOf a).toNat)
    case atStart => exact ⟨0, N - 15, _, _, by omega, by go_num, rfl, by simpa using M1.out⟩
    case round =>
      obtain ⟨j, r, A', c', hr, rfl, rfl, hm⟩ := hrel
      have M := Lib.hid hm
      clear hm M1
      by_cases h255 : 255 ≤ r
      · have q2 : decide ((255 : Int) ≤ (r : Int)) = true := by rw [decide_eq_true_eq]; omega
        have q2' : decide (255 ≤ r) = true := by rw [decide_eq_true_eq]; omega
        have Mz := Lib.hid (M.out.below (w' := wr.alloc (.cells #[.int .u8 255] 5)) ((Below.refl _ _).alloc (Nat.le_refl _) _))
        have Sz := Lib.hid (sl_cells (w := wr) (cs := #[.int .u8 255]) (l := [255]) rfl)
        clear M
        go_wp2_with (at_builtin; refine wpList_append_sl (base := w.heap.size) _ rfl (.tmp 20) (.tmp 21) _ rfl Try.underlying22 hi0 hz0 hs0 hb0 rfl rfl Mz.out.own rfl (byts_length [255]).symm (by simp) Sz.out (byts_one _) (by rw [byts_length]; exact Nat.le_refl _) (by rw [byts_length]; unfold maxLen; simp; omega) (by rw [byts_length]; simp; omega) Mz.out.bel.size ?_; intro v6 w6 h1 h2 _; obtain ⟨A6, c6, rfl, m6⟩ := Mz.out.app (r := [255]) rfl (show 1 + j + 1 = 1 + (j + 1) from rfl) h1 h2; have M6 := Lib.hid m6; clear h1 h2 m6)
        go_roundw
        case rel => exact ⟨j + 1, r - 255, A6, c6, by omega, by go_num, rfl, by rw [List.replicate_succ', ← List.append_assoc]; exact M6.out⟩
        case measure => simp [intOf]; omega
      · have q2 : decide ((255 : Int) ≤ (r : Int)) = false := by rw [decide_eq_false_iff_not]; omega
        have q2' : decide (255 ≤ r) = false := by rw [decide_eq_false_iff_not]; omega
        have hrb : r < 255 := by omega
        have hj : (N - 15) / 255 = j := by omega
        have hrm : (N - 15) % 255 = r := by omega
        have Hj := Lib.hid hj
        have Hrm := Lib.hid hrm
        have hjb : j ≤ 1000 := by omega
        have hrw : (r : Int) % 256 = (r : Int) := by omega
        have Mz := Lib.hid (M.out.below (w' := wr.alloc (.cells #[.int .u8 (r : Int)] 5)) ((Below.refl _ _).alloc (Nat.le_refl _) _))
        have Sz := Lib.hid (sl_cells (w := wr) (cs := #[.int .u8 (r : Int)]) (l := [r]) rfl)
        clear M hj hrm hr h255
        go_wp2_with (at_builtin; first
          | (refine wpList_append_sl (base := w.heap.size) _ rfl (.tmp 23) (.tmp 26) _ rfl Try.underlying22 hi0 hz0 hs0 hb0 rfl rfl Mz.out.own rfl (byts_length [r]).symm (by simp) Sz.out (byts_one _) (by rw [byts_length]; exact Nat.le_refl _) (by rw [byts_length]; unfold maxLen; simp; omega) (by rw [byts_length]; simp; omega) Mz.out.bel.size ?_; intro v6 w6 h1 h2 _; obtain ⟨A6, c6, rfl, m6⟩ := Mz.out.app (r := [r]) rfl (show 1 + j + 1 = 1 + j + 1 from rfl) h1 h2; have M6 := Lib.hid m6; have Y6 := Lib.hid (HY.out.below m6.bel); clear h1 h2 m6)
          | (refine wpList_append_sl (base := w.heap.size) _ rfl (.tmp 28) (.tmp 29) _ rfl Try.underlying22 hi0 hz0 hs0 hb0 rfl rfl M6.out.own rfl Ll.out.symm Y6.out.nil Y6.out.sl (byts_one _) (by rw [Ll.out, HN.out]; exact Y6.out.cap) (by rw [Ll.out]; unfold maxLen; omega) (by rw [Ll.out]; omega) M6.out.bel.size ?_; intro v2 w2 h1 h2 _; obtain ⟨A2, c2, rfl, m2⟩ := M6.out.app HN.out.symm rfl h1 h2; have M2 := Lib.hid m2; clear h1 h2 m2))
        go_ret
        refine Fin.out _ _ _ _ ?_
        rw [Hx.out, Hj.out, Hrm.out, ← List.append_assoc]
        exact M2.out
end Go.Proofs.Ytpfhkbagapodoaa
