/- FormLong: more bytes than may be have no form; as many as may be have one, whatever they are. -/
import Derived.Test.YtnkgcibdibgmjaaMoc
import Derived.Deep.LoopGhost
namespace Go.Proofs.Ytnkgcibdibgmjaa
open Go.RowKit Flt

theorem by_made (w : World) (n : Nat) (hn : n ≤ 1000000) : By (w.alloc (.cells (zcells n) 5)) (some ⟨w.heap.size, 0, none⟩) n (List.replicate n 0) :=
  ⟨byblk_sl (byblk_zeros w n), fun x hx => by rw [List.eq_of_mem_replicate hx]; decide, by rw [List.length_replicate]; exact Nat.le_refl _, by simp, by rw [List.length_replicate]; exact hn⟩

set_option maxRecDepth 8000 in
set_option maxHeartbeats 8000000 in
theorem mlong_any {P1 P2 : List Nat → List Nat} (hB : BestC P1 P2) (hO : OpenC) (hM : MoOk P1 P2) (w : World) :
    Calls Try.prog 4 #[] w fun e w' => e = .returned (.bool true) ∧ Below w.heap.size w w' := by
  have AW := Lib.hid (fun w => mawake_any hB hM w)
  have mk1 : ∀ W, (Instr.makeSlice 22 (.int .i64 4097) (.int .i64 4097)).run Try.prog W = .ok (.slice (some ⟨W.heap.size, 0, none⟩) 4097 4097) (W.alloc (.cells (zcells 4097) 5)) := fun W => make_bytes 4097 (by decide) W
  have mk2 : ∀ W, (Instr.makeSlice 22 (.int .i64 4096) (.int .i64 4096)).run Try.prog W = .ok (.slice (some ⟨W.heap.size, 0, none⟩) 4096 4096) (W.alloc (.cells (zcells 4096) 5)) := fun W => make_bytes 4096 (by decide) W
  have hno : Mo.best P1 P2 Mo.oneF (List.replicate 4097 0) = (0, []) := by unfold Mo.best; rw [if_pos (by rw [List.length_replicate]; decide)]
  have N0 := Lib.hid (fun W => hB (W.alloc (.cells (zcells 4097) 5)) _ _ _ Mo.oneF 4097 (by_made W 4097 (by decide)) (by rw [List.length_replicate]; decide) List.length_replicate.symm (by decide))
  rw [hno] at N0
  have NB := Lib.hid (fun W A' c' L (h : By W A' c' L) (hl : L.length = 4096) => hB W A' c' L Mo.oneF 4096 h (by omega) hl.symm (by decide))
  unfold Mo.oneF at N0 NB
  have NO := Lib.hid (fun W A' c' L N (h : By W A' c' L) (hl : L.length ≤ 4096) (hN : N = L.length) (k i : Int) => hO W A' c' L k i N h (by omega) hN)
  have N3 := Lib.hid (fun W => hO W none 0 [] 3 0 0 (By.none W) (by decide) rfl)
  rw [show Mo.open_ 3 [] 0 = ([], 1) from rfl] at N3
  have Back := Lib.hid (fun (L : List Nat) (h : ∀ x ∈ L, x < 256) (hl : L.length = 4096) => Mo.back hM h (by omega) 4607182418800017408)
  have Few := Lib.hid (fun (L : List Nat) (hl : L.length = 4096) => Mo.best_len (P1 := P1) (P2 := P2) (b := L) 4607182418800017408 (by omega))
  clear hB hO hM hno
  go_enter Try.func4, Try.ntmps4
  go_wp2_with fail
  refine (AW.out _).mono ?_
  rintro e w1 ⟨rfl, hb⟩
  have HB1 := Lib.hid hb
  clear hb AW
  go_wp2_with fail
  refine (N0.out _).mono ?_
  rintro e w2 ⟨A2, c2, rfl, -, b2⟩
  have HB2 := Lib.hid (HB1.out.trans (((Below.refl w1.heap.size w1).alloc (Nat.le_refl _) _).trans (b2.mono (by simp)) |>.mono HB1.out.size))
  have Z0 := Lib.hid (byblk_zeros w2 4096)
  obtain ⟨W3, hW3⟩ : ∃ W, W = w2.alloc (.cells (zcells 4096) 5) := ⟨_, rfl⟩
  have e3 : w2.alloc (.cells (zcells 4096) 5) = W3 := hW3.symm
  obtain ⟨g, hg⟩ : ∃ g, w2.heap.size = g := ⟨_, rfl⟩
  have B3 := Lib.hid (show ByBlk W3 g (List.replicate 4096 0) by rw [hW3, ← hg]; exact Z0.out)
  have HB3 := Lib.hid (show Below w.heap.size w W3 by rw [hW3]; exact HB2.out.alloc HB2.out.size _)
  have hgw : w.heap.size ≤ g := by rw [← hg]; exact HB2.out.size
  clear b2 HB1 HB2 Z0 hW3 N0 mk1
  go_wp2_with fail
  go_loopw [4, 5] (fun v i wr => ∃ (y k : Nat) (L : List Nat), v = .int .u32 (y : Int) ∧ y < 4294967296 ∧ i = .int .i64 (k : Int) ∧ k ≤ 4096 ∧ L.length = 4096 ∧ (∀ x ∈ L, x < 256) ∧ ByBlk wr g L ∧ Below w.heap.size w wr) (fun _ i _ => 4096 - (intOf i).toNat)
  case atStart => exact ⟨1, 0, _, rfl, by decide, rfl, by decide, List.length_replicate, fun x hx => by rw [List.eq_of_mem_replicate hx]; decide, B3.out, HB3.out⟩
  case round =>
    obtain ⟨y, k, L, rfl, hy, rfl, hk, hl, hlt, hb, hbe⟩ := hrel
    have Hl := Lib.hid hl
    have Hlt := Lib.hid hlt
    have Hb := Lib.hid hb
    have HBe := Lib.hid hbe
    clear hl hlt hb hbe B3 HB3 e3 hg mk2
    by_cases hk6 : k < 4096
    · have q0 : decide ((k : Int) < 4096) = true := by rw [decide_eq_true_eq]; omega
      have q0' : decide (k < 4096) = true := by rw [decide_eq_true_eq]; omega
      obtain ⟨y1, hy1⟩ : ∃ y1 : Nat, y1 = y * 1664525 % 4294967296 := ⟨_, rfl⟩
      obtain ⟨y2, hy2⟩ : ∃ y2 : Nat, y2 = (y1 + 1013904223) % 4294967296 := ⟨_, rfl⟩
      obtain ⟨q, hq⟩ : ∃ q : Nat, q = y2 / 16777216 := ⟨_, rfl⟩
      have s1 : IntKind.u32.wrap ((y : Int) * 1664525) = (y1 : Int) := by rw [IntKind.wrap_u32]; omega
      have s2 : IntKind.u32.wrap ((y1 : Int) + 1013904223) = (y2 : Int) := by rw [IntKind.wrap_u32]; omega
      have s3 : (y2 : Int) / 16777216 = (q : Int) := by omega
      have hq256 : q < 256 := by omega
      have s4 : IntKind.u8.wrap (q : Int) = (q : Int) := by rw [IntKind.wrap_u8]; omega
      have hy2b : y2 < 4294967296 := by omega
      have cx := byblk_cell Hb.out (i := k) (by rw [Hl.out]; exact hk6)
      have fx : wr.frozen? ⟨g, k, none⟩ = false := Blk.frozen Hb.out k
      have st := Lib.hid (byblk_set Hb.out k q (v := .int .u8 (q : Int)) rfl)
      have sb := Lib.hid (HBe.out.setCell (p := ⟨g, k, none⟩) hgw (.int .u8 (q : Int)))
      clear hy1 hy2 hq Hb HBe
      generalize L.getD k 0 = x0 at *
      go_wp2_with fail
      go_roundw
      case rel =>
        refine ⟨y2, k + 1, L.set k q, rfl, hy2b, by go_num, by omega, by rw [List.length_set]; exact Hl.out, fun x hx => ?_, st.out, sb.out⟩
        rcases List.mem_or_eq_of_mem_set hx with h | h
        · exact Hlt.out x h
        · rw [h]; exact hq256
      case measure => simp [intOf]; omega
    · have hk4 : k = 4096 := by omega
      subst hk4
      have q0 : decide ((4096 : Int) < 4096) = false := by simp
      have Y := Lib.hid (show By wr (some ⟨g, 0, none⟩) 4096 L from ⟨byblk_sl Hb.out, Hlt.out, by rw [Hl.out]; exact Nat.le_refl _, by simp, by rw [Hl.out]; decide⟩)
      obtain ⟨Z, hZ⟩ : ∃ Z, Z = Mo.best P1 P2 4607182418800017408 L := ⟨_, rfl⟩
      have N4 := Lib.hid (NB.out _ _ _ _ Y.out Hl.out)
      have back := Back.out L Hlt.out Hl.out
      have few := Few.out L Hl.out
      rw [← hZ] at N4 back few
      rw [Hl.out] at back few
      obtain ⟨zn, hzn⟩ : ∃ zn, zn = Z.2.length := ⟨_, rfl⟩
      obtain ⟨kk, hkk⟩ : ∃ kk, kk = Z.1 := ⟨_, rfl⟩
      obtain ⟨z, hz⟩ : ∃ z, z = Z.2 := ⟨_, rfl⟩
      rw [← hzn] at N4 few
      rw [← hkk, ← hz] at N4 back
      rw [← hz] at hzn
      have hBk := Lib.hid back
      have Hzn := Lib.hid hzn
      clear hZ hz hkk back Hb hzn Back Few NB hk hk6
      go_wp2_with fail
      refine N4.out.mono ?_
      rintro e w5 ⟨A5, c5, rfl, y5, b5⟩
      have Y5 := Lib.hid (Y.out.below b5)
      have HB5 := Lib.hid (HBe.out.trans (b5.mono HBe.out.size))
      have N5 := Lib.hid (NO.out _ _ _ _ zn y5 (by rw [← Hzn.out]; exact few) Hzn.out (kk : Int) ((4096 : Nat) : Int))
      rw [hBk.out] at N5
      clear y5 b5 N4 Y HBe NO
      go_wp2_with fail
      refine N5.out.mono ?_
      rintro e w6 ⟨A6, c6, rfl, y6, b6⟩
      have Y6 := Lib.hid (Y5.out.below b6)
      have U6 := Lib.hid y6
      have HB6 := Lib.hid (HB5.out.trans (b6.mono HB5.out.size))
      have N6 := Lib.hid (N3.out w6)
      clear y6 b6 N5 Y5 HB5 N3
      obtain ⟨st, hst⟩ : ∃ st, st = bstr L := ⟨_, rfl⟩
      have Hst := Lib.hid hst
      rw [show (L, 0).1.length = 4096 from Hl.out]
      clear hst
      go_wp2_with fail
      refine N6.out.mono ?_
      rintro e w7 ⟨A7, c7, rfl, y7, b7⟩
      have HB7 := Lib.hid (HB6.out.trans (b7.mono HB6.out.size))
      have k3 := conv_b (cap := c6) (U6.out.below b7).sl
      have k4 := conv_b (cap := 4096) (Y6.out.below b7).sl
      rw [Hl.out, ← Hst.out] at k3 k4
      have q5 : decide ((zn : Int) ≤ 4096) = true := by rw [decide_eq_true_eq]; omega
      have q5' : decide (zn ≤ 4096) = true := by rw [decide_eq_true_eq]; exact few
      clear y7 b7 N6 Y6 U6 HB6 few
      go_wp2_with fail
      go_ret
      exact ⟨rfl, HB7.out⟩
end Go.Proofs.Ytnkgcibdibgmjaa
