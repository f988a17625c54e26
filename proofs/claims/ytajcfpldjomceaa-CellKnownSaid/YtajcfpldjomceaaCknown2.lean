/- CellKnown, walked. -/
import Derived.Test.YtajcfpldjomceaaCknown
namespace Go.Proofs.Ytajcfpldjomceaa
open Go.RowKit Vint

abbrev kinCells : Array Value := #[.int .i64 0, .int .i64 1, .int .i64 127, .int .i64 128, .int .i64 16383, .int .i64 16384, .int .i64 2097151, .int .i64 2097152, .int .i64 268435455]
abbrev kszCells : Array Value := #[.int .i64 1, .int .i64 1, .int .i64 1, .int .i64 2, .int .i64 2, .int .i64 3, .int .i64 3, .int .i64 4, .int .i64 4]
theorem kin_cell (k : Nat) (h : k < 9) : kinCells[k]? = some (.int .i64 ((kin k : Nat) : Int)) := by
  have : k = 0 ∨ k = 1 ∨ k = 2 ∨ k = 3 ∨ k = 4 ∨ k = 5 ∨ k = 6 ∨ k = 7 ∨ k = 8 := by omega
  rcases this with rfl | rfl | rfl | rfl | rfl | rfl | rfl | rfl | rfl <;> rfl
theorem ksz_cell (k : Nat) (h : k < 9) : kszCells[k]? = some (.int .i64 ((ksz k : Nat) : Int)) := by
  have : k = 0 ∨ k = 1 ∨ k = 2 ∨ k = 3 ∨ k = 4 ∨ k = 5 ∨ k = 6 ∨ k = 7 ∨ k = 8 := by omega
  rcases this with rfl | rfl | rfl | rfl | rfl | rfl | rfl | rfl | rfl <;> rfl

/-- The writer's bytes, told of a world before. -/
def OutR (w : World) (n : Nat) (e : Ending) (w' : World) : Prop := ∃ A c, e = .returned (.slice A n c) ∧ Below w.heap.size w w'
theorem out_rel {w w1 : World} {B g : Nat} {l : List Nat} (h : Wn w B g l) (hl : l.length ≤ 1000000000) (hb : Below w.heap.size w w1) : Calls Try.prog 15 #[.pointer (some ⟨g, 0, none⟩)] w1 (OutR w l.length) := by
  refine (wn_out (h.below hb) hl).mono ?_
  rintro e w' ⟨A, c, rfl, _, hb1⟩
  exact ⟨A, c, rfl, hb.trans (hb1.mono hb.size)⟩

def badL (k : Nat) : List Nat := [[], [128], [128, 0], [255, 255, 255, 255], [255, 255, 255, 255, 1], [1, 1]].getD k []
abbrev badCells : Array Value := #[.string ⟨#[]⟩, .string ⟨#[128]⟩, .string ⟨#[128, 0]⟩, .string ⟨#[255, 255, 255, 255]⟩, .string ⟨#[255, 255, 255, 255, 1]⟩, .string ⟨#[1, 1]⟩]
abbrev wantCells : Array Value := #[.int .i64 2, .int .i64 2, .int .i64 4, .int .i64 4, .int .i64 4, .int .i64 3]
def badS (k : Nat) : ByteArray := ⟨((badL k).map fun n => UInt8.ofNat n).toArray⟩
theorem bad_cell (k : Nat) (h : k < 6) : badCells[k]? = some (.string (badS k)) := by
  have : k = 0 ∨ k = 1 ∨ k = 2 ∨ k = 3 ∨ k = 4 ∨ k = 5 := by omega
  rcases this with rfl | rfl | rfl | rfl | rfl | rfl <;> rfl
theorem want_cell (k : Nat) (h : k < 6) : wantCells[k]? = some (.int .i64 ((oneE (badL k) : Nat) : Int)) := by
  have : k = 0 ∨ k = 1 ∨ k = 2 ∨ k = 3 ∨ k = 4 ∨ k = 5 := by omega
  rcases this with rfl | rfl | rfl | rfl | rfl | rfl <;> rfl
theorem bad_facts : ∀ k, k < 6 → (badL k).length ≤ 5 ∧ (∀ x ∈ badL k, x < 256) := by decide
theorem badS_size (k : Nat) : (badS k).size = (badL k).length := by simp [badS, ByteArray.size]
theorem badS_at (k j : Nat) (hb : ∀ x ∈ badL k, x < 256) (h : j < (badL k).length) : ((badS k).data.toList.getD j 0).toNat = (badL k)[j] := by
  have hx := hb _ (List.getElem_mem h)
  simp [badS, List.getD, h]
  omega

theorem bw_below {W w : World} {e : TypeId} {s : ByteArray} (hb : Below W.heap.size W w) : Below W.heap.size W (Lib.bytesWorld w e s) := by
  refine ⟨?_, ?_, ?_, ?_, fun b h => (Lib.bytesWorld_at_old w e s b (Nat.lt_of_lt_of_le h hb.size)).trans (hb.block b h)⟩
  · rw [← hb.os]; simp [Lib.bytesWorld, World.freeze, World.alloc, World.drew, -World.alloc_eq, -World.drew_eq]
  · rw [← hb.tape]; simp [Lib.bytesWorld, World.freeze, World.alloc, World.drew, -World.alloc_eq, -World.drew_eq]
  · rw [← hb.output]; simp [Lib.bytesWorld, World.freeze, World.alloc, World.drew, -World.alloc_eq, -World.drew_eq]
  · rw [Lib.bytesWorld_size]; have := hb.size; omega
theorem k2_rel {W w : World} {k g : Nat} (hk : k < 6) (hg : g = w.heap.size) (hb : Below W.heap.size W w) :
    Calls Try.prog 16 #[.slice (some ⟨g, 0, none⟩) (badS k).size (grownCap w (badS k).size 0 5), .func (.func 29) #[] #[]] (Lib.bytesWorld w 5 (badS k)) fun e w' => e = .returned (.int .i64 ((oneE (badL k) : Nat) : Int)) ∧ Below W.heap.size W w' := by
  subst hg
  obtain ⟨hl, hx⟩ := bad_facts k hk
  have hs := badS_size k
  have hsl : Sl (Lib.bytesWorld w 5 (badS k)) (w.heap.size + 1) (some ⟨w.heap.size, 0, none⟩) (byts (badL k)) := .inr ⟨w.heap.size, 0, rfl, by omega, fun i hi => by
    have hi' : i < (badL k).length := by simpa [byts] using hi
    rw [Nat.zero_add, Lib.bytesWorld_cell w _ _ i (by omega), badS_at k i hx hi']
    simp [byts]⟩
  have hg := grownCap_ge w (badS k).size 0 5
  have hw := bw_below (e := 5) (s := badS k) hb
  rw [hs] at hg ⊢
  exact (known2_read hsl (by rw [Lib.bytesWorld_size]; omega) hg (by simp) hx (by omega)).mono fun e w' ⟨h1, h2⟩ => ⟨h1, hw.trans (h2.mono hw.size)⟩

theorem sl_cells {w : World} {cs : Array Value} {l : List Nat} (h : cs = (byts l).toArray) : Sl (w.alloc (.cells cs 5)) (w.heap.size + 1) (some ⟨w.heap.size, 0, none⟩) (byts l) := .inr ⟨w.heap.size, 0, rfl, by omega, fun i hi => by
  rw [Nat.zero_add, cell_fresh rfl, h]; simp [List.getElem?_eq_getElem hi]⟩
theorem known_r3 (w : World) : Calls Try.prog 16 #[.slice (some ⟨w.heap.size, 0, none⟩) 3 3, .func (.func 30) #[] #[]] (w.alloc (.cells #[.int .u8 2, .int .u8 1, .int .u8 2] 5)) fun e w' => e = .returned (.int .i64 3) ∧ Below w.heap.size w w' := by
  have h := bytes_read (l := [2, 1, 2]) (c := 3) (sl_cells (w := w) rfl) (by simp) (by decide) (by simp) (by decide) (by decide) 1 (by decide) 30 (fun a w => by kernel_rfl) (fun h => known3_any (by decide) h)
  exact h.mono fun e w' ⟨h1, h2⟩ => ⟨h1, ((Below.refl _ _).alloc (Nat.le_refl _) _).trans (h2.mono (by simp))⟩
theorem known_r4 (w : World) : Calls Try.prog 16 #[.slice (some ⟨w.heap.size, 0, none⟩) 2 2, .func (.func 31) #[] #[]] (w.alloc (.cells #[.int .u8 2, .int .u8 1] 5)) fun e w' => e = .returned (.int .i64 2) ∧ Below w.heap.size w w' := by
  have h := bytes_read (l := [2, 1]) (c := 2) (sl_cells (w := w) rfl) (by simp) (by decide) (by simp) (by decide) (by decide) 5 (by decide) 31 (fun a w => by kernel_rfl) (fun h => known4_any (by decide) h)
  exact h.mono fun e w' ⟨h1, h2⟩ => ⟨h1, ((Below.refl _ _).alloc (Nat.le_refl _) _).trans (h2.mono (by simp))⟩
theorem known_r5 (w : World) : Calls Try.prog 16 #[.slice none 0 0, .func (.func 32) #[] #[]] w fun e w' => e = .returned (.int .i64 0) ∧ Below w.heap.size w w' := by
  refine (read_ret none 0 [] w (.inl rfl) (Nat.le_refl _) (by decide) (by simp) (by simp) (by decide) 32 #[] (fun a w => by kernel_rfl) (fun _ => False) (fun _ h => h.elim) [] (fun _ => True) (fun w1 R hr _ => ?_) false 0 rfl rfl).mono fun e w' ⟨h1, h2⟩ => ⟨h1, did_none h2⟩
  refine (known5_any _ w1).mono ?_
  rintro e w2 ⟨rfl, rfl⟩
  exact ⟨rfl, hr, Chg.refl _ _, trivial⟩

set_option maxRecDepth 4000 in
set_option maxHeartbeats 4000000 in
theorem known_any (w : World) : Calls Try.prog 7 #[] w fun e w' => e = .returned (.bool true) ∧ Below w.heap.size w w' := by
  have hmf : ∀ (fn : Fn) (first cap : Array Value) (w : World), (Instr.makeFunc fn first cap).run Try.prog w = .ok (.func fn first cap) w := fun _ _ _ _ => rfl
  have Ha := Lib.hid (cawake w)
  go_enter Try.func7, Try.ntmps7
  go_wp2_with fail
  refine Ha.out.mono ?_
  rintro e w1 ⟨rfl, b1⟩
  have hI1 : Blk (w1.alloc (.cells kinCells 3)) w1.heap.size 3 kinCells := Blk.new _ _ _
  have hI2 := hI1.alloc (.cells kszCells 3)
  have hS2 : Blk ((w1.alloc (.cells kinCells 3)).alloc (.cells kszCells 3)) (w1.heap.size + 1) 3 kszCells := by
    have := Blk.new (w1.alloc (.cells kinCells 3)) 3 kszCells
    simpa using this
  have hb2 : Below w.heap.size w ((w1.alloc (.cells kinCells 3)).alloc (.cells kszCells 3)) := (b1.alloc b1.size _).alloc (by have := b1.size; simp; omega) _
  have hz1 := b1.size
  have HI := Lib.hid hI2
  have HS := Lib.hid hS2
  have HB := Lib.hid hb2
  clear b1 hI1 hI2 hS2 hb2 Ha
  go_wp2_with fail
  generalize hW : (w1.alloc (.cells kinCells 3)).alloc (.cells kszCells 3) = W at *
  generalize w1.heap.size + 1 = S at *
  generalize w1.heap.size = I at *
  clear hW
  go_loopw [3] (fun v wr => ∃ k : Nat, k ≤ 9 ∧ v = .int .i64 k ∧ Blk wr I 3 kinCells ∧ Blk wr S 3 kszCells ∧ Below w.heap.size w wr) (fun v _ => 9 - (intOf v).toNat)
  case atStart => exact ⟨0, by omega, rfl, HI.out, HS.out, HB.out⟩
  case round =>
    obtain ⟨k, hk, rfl, hI, hS, hb⟩ := hrel
    clear HI HS HB
    by_cases hlt : k < 9
    · have q1 : decide ((k : Int) < 9) = true := by simp; omega
      have ck : wr.cell? ⟨I, k, none⟩ = some (.int .i64 ((kin k : Nat) : Int)) := (hI.cell k).trans (kin_cell k hlt)
      have ck' := hI.alloc (.cells #[.slice none 0 0] 26)
      have ckw : (wr.alloc (.cells #[.slice none 0 0] 26)).cell? ⟨I, k, none⟩ = some (.int .i64 ((kin k : Nat) : Int)) := (ck'.cell k).trans (kin_cell k hlt)
      have hm := kin_lt k hlt
      have hkl := kin_len k hlt
      have hkc := Lib.hid (kin_cell k hlt)
      have hksc := Lib.hid (ksz_cell k hlt)
      generalize kin k = m at *
      generalize ksz k = sz at *
      obtain rfl := hkl
      have hz := hb.size
      have n1 := wn_num (wn_new wr hz) m hm (by decide)
      rw [List.nil_append] at n1
      have N1 := Lib.hid n1
      have HI := Lib.hid ck'
      have HS := Lib.hid (hS.alloc (.cells #[.slice none 0 0] 26))
      have HB := Lib.hid (hb.alloc hz (.cells #[.slice none 0 0] 26))
      clear n1 hI hS hb ck' ck
      go_wp2_with fail
      generalize hW2 : wr.alloc (.cells #[.slice none 0 0] 26) = W2 at *
      clear hW2
      generalize wr.heap.size = g at *
      refine N1.out.mono ?_
      rintro e w2 ⟨rfl, h2, o2⟩
      have hI2 := o2.kind _ _ _ HI.out (by decide) (by decide)
      have hS2 := o2.kind _ _ _ HS.out (by decide) (by decide)
      have hb2 := HB.out.trans (o2.below HB.out.size)
      have hz2 := hb2.size
      have h3 := h2.alloc (.cells #[.int .i64 (-1)] 3)
      have hI3 := hI2.alloc (.cells #[.int .i64 (-1)] 3)
      have hS3 := hS2.alloc (.cells #[.int .i64 (-1)] 3)
      have hx3 : Blk (w2.alloc (.cells #[.int .i64 (-1)] 3)) w2.heap.size 3 #[.int .i64 (-1)] := Blk.new _ _ _
      have N3 := Lib.hid (wn_out h3 (by have := vint_len hm; omega))
      have HW3 := Lib.hid h3
      have HI3 := Lib.hid hI3
      have HS3 := Lib.hid hS3
      have HX3 := Lib.hid hx3
      have HB3 := Lib.hid (hb2.alloc hz2 (.cells #[.int .i64 (-1)] 3))
      have hIx := hI2.lt
      have hSx := hS2.lt
      clear h2 o2 hI2 hS2 hb2 h3 hI3 hS3 hx3 N1 HI HS HB ckw
      go_wp2_with fail
      generalize hW3 : w2.alloc (.cells #[.int .i64 (-1)] 3) = W3 at *
      clear hW3
      generalize w2.heap.size = x at *
      refine N3.out.mono ?_
      rintro e w4 ⟨A4, c4, rfl, hown, b4⟩
      have R4 := Lib.hid (known1_read hm (HX3.out.keep (b4.block _ HX3.out.lt)) (Sl.of_own hown) (Nat.le_refl _) (own_len hown) (own_none hown))
      have HW4 := Lib.hid (HW3.out.below b4)
      have HI4 := Lib.hid (HI3.out.keep (b4.block _ HI3.out.lt))
      have HS4 := Lib.hid (HS3.out.keep (b4.block _ HS3.out.lt))
      have HX4 := Lib.hid (HX3.out.keep (b4.block _ HX3.out.lt))
      have HB4 := Lib.hid (HB3.out.trans (b4.mono HB3.out.size))
      clear hown b4 N3 HW3 HI3 HS3 HX3 HB3
      go_wp2_with fail
      refine R4.out.mono ?_
      rintro e w5 ⟨rfl, hx5, hc5⟩
      have hI5 := HI4.out.keep (hc5.block _ HI4.out.lt (by omega))
      have hS5 := HS4.out.keep (hc5.block _ HS4.out.lt (by omega))
      have h5 := HW4.out.chg hc5 fun b hb => ⟨_, _, hb ▸ HX4.out, by decide, by decide⟩
      have hb5 := HB4.out.trans (hc5.below HB4.out.size fun b hb => by omega)
      have x1 : w5.cell? ⟨I, k, none⟩ = some (.int .i64 (m : Int)) := (hI5.cell k).trans hkc.out
      have x2 : w5.cell? ⟨S, k, none⟩ = some (.int .i64 ((vint m).length : Int)) := (hS5.cell k).trans hksc.out
      have x3 := cell_at hx5
      have hIl := hI5.lt
      have hSl := hS5.lt
      have hxl := hx5.lt
      have keep : ∀ w', Below w5.heap.size w5 w' → w'.cell? ⟨I, k, none⟩ = some (.int .i64 (m : Int)) ∧ w'.cell? ⟨S, k, none⟩ = some (.int .i64 ((vint m).length : Int)) ∧ w'.cell? ⟨x, 0, none⟩ = some (.int .i64 (m : Int)) := fun w' h =>
        ⟨(h.cell (p := ⟨I, k, none⟩) hIl).trans x1, (h.cell (p := ⟨S, k, none⟩) hSl).trans x2, (h.cell (p := ⟨x, 0, none⟩) hxl).trans x3⟩
      have Kp := Lib.hid keep
      have hvl : (vint m).length ≤ 1000000000 := by have := vint_len hm; omega
      have H5 := Lib.hid h5
      have HI5 := Lib.hid hI5
      have HS5 := Lib.hid hS5
      have HB5 := Lib.hid hb5
      have hbc : Below w5.heap.size w5 w5.drew := (Below.refl _ _).drew
      clear keep x1 x2 x3 hx5 hc5 hI5 hS5 h5 hb5 R4 HW4 HI4 HS4 HX4 HB4
      go_wp2_with fail
      go_region_held_law (fun w' => w'.cell? ⟨I, k, none⟩ = some (.int .i64 (m : Int)) ∧ w'.cell? ⟨S, k, none⟩ = some (.int .i64 ((vint m).length : Int)) ∧ w'.cell? ⟨x, 0, none⟩ = some (.int .i64 (m : Int))) (exact Kp.out _ hbc) (first
        | (go_at_call 15; ((with_reducible refine (out_rel H5.out hvl hbc).mono ?_); rintro e w' ⟨A6, c6, rfl, hbc⟩)))
      all_goals
        go_wp2_with fail
        exact ⟨⟨k + 1, by omega, by go_num, HI5.out.keep (hbc.block _ hIl), HS5.out.keep (hbc.block _ hSl), HB5.out.trans (hbc.mono HB5.out.size)⟩, by simp [intOf]; omega⟩
    · have hk9 : k = 9 := by omega
      subst hk9
      have q1 : decide (((9 : Nat) : Int) < 9) = false := rfl
      have hz := hb.size
      have hI1 : Blk ((wr.alloc (.cells badCells 9)).alloc (.cells wantCells 39)) wr.heap.size 9 badCells := (Blk.new _ _ _).alloc _
      have hS1 : Blk ((wr.alloc (.cells badCells 9)).alloc (.cells wantCells 39)) (wr.heap.size + 1) 39 wantCells := by
        have := Blk.new (wr.alloc (.cells badCells 9)) 39 wantCells
        simpa using this
      have HI := Lib.hid hI1
      have HS := Lib.hid hS1
      have HB := Lib.hid ((hb.alloc hz (.cells badCells 9)).alloc (by simp; omega) (.cells wantCells 39))
      clear hI hS hb hI1 hS1 hk hlt
      go_wp2_with fail
      generalize hW3 : (wr.alloc (.cells badCells 9)).alloc (.cells wantCells 39) = W3 at *
      generalize wr.heap.size + 1 = Sw at *
      generalize wr.heap.size = Sb at *
      clear hW3
      go_loopw [9] (fun v wr => ∃ k : Nat, k ≤ 6 ∧ v = .int .i64 k ∧ Blk wr Sb 9 badCells ∧ Blk wr Sw 39 wantCells ∧ Below w.heap.size w wr) (fun v _ => 6 - (intOf v).toNat)
      case atStart => exact ⟨0, by omega, rfl, HI.out, HS.out, HB.out⟩
      case round =>
        obtain ⟨k, hk, rfl, hI, hS, hb⟩ := hrel
        clear HI HS HB
        by_cases hlt : k < 6
        · have q2 : decide ((k : Int) < 6) = true := by simp; omega
          have x1 : wr.cell? ⟨Sb, k, none⟩ = some (.string (badS k)) := (hI.cell k).trans (bad_cell k hlt)
          have x2 : wr.cell? ⟨Sw, k, none⟩ = some (.int .i64 ((oneE (badL k) : Nat) : Int)) := (hS.cell k).trans (want_cell k hlt)
          have hIl := hI.lt
          have hSl := hS.lt
          have keep : ∀ w', Below wr.heap.size wr w' → w'.cell? ⟨Sb, k, none⟩ = some (.string (badS k)) ∧ w'.cell? ⟨Sw, k, none⟩ = some (.int .i64 ((oneE (badL k) : Nat) : Int)) := fun w' h =>
            ⟨(h.cell (p := ⟨Sb, k, none⟩) hIl).trans x1, (h.cell (p := ⟨Sw, k, none⟩) hSl).trans x2⟩
          have hcv := fun (w : World) => Lib.run_convert_string_bytes (P := Try.prog) w 9 24 5 (badS k) Try.underlying9 Try.underlying24 Try.underlying5
          have Kp := Lib.hid keep
          have HI := Lib.hid hI
          have HS := Lib.hid hS
          have HB := Lib.hid hb
          have hbc : Below wr.heap.size wr wr.drew := (Below.refl _ _).drew
          have HK := Lib.hid (k2_rel (W := wr) (w := wr.drew) (g := wr.heap.size) hlt rfl hbc)
          clear keep x1 x2 hI hS hb
          generalize badS k = s at *
          generalize ((oneE (badL k) : Nat) : Int) = E at *
          go_wp2_with fail
          go_region_held_law (fun w' => w'.cell? ⟨Sb, k, none⟩ = some (.string s) ∧ w'.cell? ⟨Sw, k, none⟩ = some (.int .i64 E)) (first | exact Kp.out _ hbc | exact Kp.out _ (bw_below hbc)) (first
            | (go_at_call 16; ((with_reducible refine HK.out.mono ?_); rintro e w' ⟨rfl, hbc⟩)))
          all_goals
            go_wp2_with fail
            refine ⟨?ex, ?measure⟩
            case ex =>
              repeat' apply Exists.intro
              exact ⟨⟨k + 1, by omega, by go_num, HI.out.keep (hbc.block _ hIl), HS.out.keep (hbc.block _ hSl), HB.out.trans (hbc.mono HB.out.size)⟩, rfl⟩
            case measure => simp [intOf]; omega
        · have hk6 : k = 6 := by omega
          subst hk6
          have q2 : decide (((6 : Nat) : Int) < 6) = false := rfl
          clear hI hS hlt hk
          have HB := Lib.hid hb
          clear hb
          have hz6 := HB.out.size
          have r3 := Lib.hid (known_r3 wr)
          go_wp2_with fail
          refine r3.out.mono ?_
          rintro e w3 ⟨rfl, b3⟩
          have hb3 := HB.out.trans (b3.mono hz6)
          have r4 := Lib.hid (known_r4 w3)
          clear b3 r3
          go_wp2_with fail
          refine r4.out.mono ?_
          rintro e w4 ⟨rfl, b4⟩
          have hb4 := hb3.trans (b4.mono hb3.size)
          have r5 := Lib.hid (known_r5 w4)
          clear b4 r4 hb3
          have HB4 := Lib.hid hb4
          clear hb4
          go_wp2_with fail
          refine r5.out.mono ?_
          rintro e w5 ⟨rfl, b5⟩
          have HB5 := Lib.hid (HB4.out.trans (b5.mono HB4.out.size))
          clear b5
          go_wp2_with fail
          go_ret
          exact ⟨rfl, HB5.out⟩
end Go.Proofs.Ytajcfpldjomceaa
