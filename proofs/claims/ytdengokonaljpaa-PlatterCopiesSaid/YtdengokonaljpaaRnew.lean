/- The document's platter: what New does. -/
import Derived.Test.YtdengokonaljpaaRrot
import Derived.Deep.OwnRows
namespace Go.Proofs.Ytdengokonaljpaa
open Go.RowKit

/-- A block of zeros. -/
def zero64 : List Nat := List.replicate 64 0
/-- A platter as New makes it. -/
def newSt (n : Nat) : PSt := { blocks := List.replicate n zero64, cache := [], plan := [], ops := fun _ => 0, since := fun _ => 0 }

theorem pbyte_info : (Try.prog.info? 5).map (fun i => (i.zero, i.size, i.bytes)) = some (some (.int .u8 0), 1, 1) := by kernel_rfl
theorem prow_info : (Try.prog.info? 49).map (fun i => (i.zero, i.size, i.bytes)) = some (some (.slice none 0 0), 1, 24) := by kernel_rfl
theorem prow_parts : ∃ i, Try.prog.info? 49 = some i ∧ i.zero = some (.slice none 0 0) ∧ i.size = 1 ∧ i.bytes = 24 := by
  obtain ⟨i, hi, hh⟩ := Option.map_eq_some_iff.1 prow_info
  simp only [Prod.mk.injEq] at hh
  exact ⟨i, hi, hh.1, hh.2.1, hh.2.2⟩
def zblock : Array Value := madeCells #[.int .u8 0] 64
theorem make_block (w : World) :
    (Instr.makeSlice 49 (.int .i64 64) (.int .i64 64)).run Try.prog w = .ok (.slice (some ⟨w.heap.size, 0, none⟩) 64 64) (w.alloc (.cells zblock 5)) :=
  run_make_row' _ _ _ 1 Try.underlying49 pbyte_info rfl .i64 .i64 64 (by omega) (by omega) w
theorem zblock_list : zblock.toList = byts zero64 := by
  unfold zblock byts zero64
  rw [toList_madeCells_one, List.map_replicate]; rfl
theorem zblock_row (w : World) (G : Nat → Prop) (hG : G w.heap.size) : Held (w.alloc (.cells zblock 5)) G (.slice (some ⟨w.heap.size, 0, none⟩) 64 64) zero64 := by
  have h := World.ownsRow_lit (base := 0) (e := 5) (size := 1) w zblock 64 (Nat.zero_le _) (by unfold maxLen; omega) (by unfold zblock; rw [size_madeCells])
  rw [zblock_list] at h
  refine ⟨by decide, by decide, ⟨h, fun k hk => ?_⟩⟩
  have : w.heap.size = k := by simpa [Value.ownBlock] using hk
  exact this ▸ hG

set_option maxHeartbeats 4000000 in
theorem rnew_bad (n : Int) (hbad : n < 64 ∨ 8192 < n) (w : World) :
    Calls Try.prog 11 #[.int .i64 n] w fun e w' => e = .returned (.tuple #[.pointer none, .int .i64 1]) ∧ w' = w := by
  have bad : ∀ (x y : Bool), decide (n < 64) = x → decide (8192 < n) = y → (x = true ∨ y = true) →
      Calls Try.prog 11 #[.int .i64 n] w fun e w' => e = .returned (.tuple #[.pointer none, .int .i64 1]) ∧ w' = w := by
    intro x y h1 h2 hor
    cases x <;> cases y <;> first
      | (simp at hor; done)
      | (go_enter Try.func11, Try.ntmps11
         go_wp2_with fail
         go_ret2
         exact ⟨rfl, rfl⟩)
  exact bad _ _ rfl rfl (by simpa using hbad)

theorem new_next {w wr w3 : World} {j c3 : Nat} {A3 : Option Addr} {Bv : Value} {bs : List Value} (hblk : Blk wr w.heap.size 46 (refCells (newSt 0) Bv (.slice none 0 0) (.slice none 0 0)))
    (hB : Row wr (fun b => w.heap.size < b ∧ b < wr.heap.size) 49 1 Bv j bs) (hbs : AllHeld wr (fun b => w.heap.size < b ∧ b < wr.heap.size) bs (List.replicate j zero64)) (hbr : Below w.heap.size w wr) (hsz : w.heap.size < wr.heap.size)
    (hown3 : w3.ownsRow 0 49 1 (.slice A3 (j + 1) c3) (j + 1) (bs ++ [.slice (some ⟨wr.heap.size, 0, none⟩) 64 64]))
    (hgr3 : World.grownBy ((wr.alloc (.cells zblock 5)).alloc (.cells #[.slice (some ⟨wr.heap.size, 0, none⟩) 64 64] 49)).drew w3 Bv.ownBlock)
    (hbl3 : (Value.slice A3 (j + 1) c3).ownBlock = Bv.ownBlock ∨ (Value.slice A3 (j + 1) c3).ownBlock = some ((wr.alloc (.cells zblock 5)).alloc (.cells #[.slice (some ⟨wr.heap.size, 0, none⟩) 64 64] 49)).drew.heap.size) :
    ∃ bs', Blk (w3.setCell ⟨w.heap.size, 0, none⟩ (.slice A3 (j + 1) c3)) w.heap.size 46 (refCells (newSt 0) (.slice A3 (j + 1) c3) (.slice none 0 0) (.slice none 0 0)) ∧
      Row (w3.setCell ⟨w.heap.size, 0, none⟩ (.slice A3 (j + 1) c3)) (fun b => w.heap.size < b ∧ b < (w3.setCell ⟨w.heap.size, 0, none⟩ (.slice A3 (j + 1) c3)).heap.size) 49 1 (.slice A3 (j + 1) c3) (j + 1) bs' ∧
      AllHeld (w3.setCell ⟨w.heap.size, 0, none⟩ (.slice A3 (j + 1) c3)) (fun b => w.heap.size < b ∧ b < (w3.setCell ⟨w.heap.size, 0, none⟩ (.slice A3 (j + 1) c3)).heap.size) bs' (List.replicate (j + 1) zero64) ∧
      Below w.heap.size w (w3.setCell ⟨w.heap.size, 0, none⟩ (.slice A3 (j + 1) c3)) ∧ w.heap.size < (w3.setCell ⟨w.heap.size, 0, none⟩ (.slice A3 (j + 1) c3)).heap.size := by
  have hz' : (w3.setCell ⟨w.heap.size, 0, none⟩ (.slice A3 (j + 1) c3)).heap.size = w3.heap.size := by simp
  have hz3 := hgr3.size
  simp only [World.size_drew, World.size_alloc] at hz3 hbl3
  have hB2 := ((hB.alloc (.cells zblock 5)).alloc (.cells #[.slice (some ⟨wr.heap.size, 0, none⟩) 64 64] 49)).drew
  have hblk3 := Blk.grown (w := ((wr.alloc (.cells zblock 5)).alloc (.cells #[.slice (some ⟨wr.heap.size, 0, none⟩) 64 64] 49)).drew) ((hblk.alloc _).alloc _) hgr3 (hB.ne_ hblk (by decide))
  have hto : ∀ {F : Nat → Prop} {v : Value} {l : List Nat}, Held (wr.alloc (.cells zblock 5)) F v l → (∀ b, F b → w.heap.size < b ∧ b < w3.heap.size) → Held (w3.setCell ⟨w.heap.size, 0, none⟩ (.slice A3 (j + 1) c3)) (fun b => w.heap.size < b ∧ b < (w3.setCell ⟨w.heap.size, 0, none⟩ (.slice A3 (j + 1) c3)).heap.size) v l := by
    intro F v l hh hF
    have a1 := (hh.2.2.alloc (.cells #[.slice (some ⟨wr.heap.size, 0, none⟩) 64 64] 49)).drew
    have a2 := a1.grown hgr3 (fun k hk e => a1.other hB2 (by decide) e hk)
    have a3 := a2.set_far (p := ⟨w.heap.size, 0, none⟩) (a2.ne_ hblk3 (by decide)) (.slice A3 (j + 1) c3)
    exact ⟨hh.1, hh.2.1, a3.mono fun b hb => by rw [hz']; exact hF b hb⟩
  have hR : Row w3 (fun b => w.heap.size < b ∧ b < w3.heap.size) 49 1 (.slice A3 (j + 1) c3) (j + 1) (bs ++ [.slice (some ⟨wr.heap.size, 0, none⟩) 64 64]) := by
    refine ⟨hown3, fun k hk => ⟨?_, (hown3.lt k hk).2⟩⟩
    rcases hbl3 with e | e
    · rw [e] at hk; exact (hB.mem k hk).1
    · rw [e] at hk; injection hk with hk; omega
  have hR' := hR.set_far (p := ⟨w.heap.size, 0, none⟩) (hR.ne_ hblk3 (by decide)) (.slice A3 (j + 1) c3)
  refine ⟨bs ++ [.slice (some ⟨wr.heap.size, 0, none⟩) 64 64], hblk3.set_ 0 _, hR'.mono (fun b hb => by rw [hz']; exact hb), ⟨by have := hbs.1; simpa using this, fun i v l hv hl => ?_⟩, ?_, by omega⟩
  · have hbl : bs.length = j := by have := hbs.1; simpa using this
    by_cases hi : i < j
    · rw [List.getElem?_append_left (by omega)] at hv
      rw [List.getElem?_replicate] at hl
      have hl' : (List.replicate j zero64)[i]? = some l := by rw [List.getElem?_replicate, if_pos hi]; rwa [if_pos (by omega)] at hl
      have hh := hbs.2 i v l hv hl'
      exact hto ⟨hh.1, hh.2.1, hh.2.2.alloc _⟩ (fun b hb => ⟨hb.1, by omega⟩)
    · rw [List.getElem?_append_right (by omega)] at hv
      have hij : i = j := by
        rcases Nat.lt_or_ge (i - bs.length) 1 with h | h
        · omega
        · rw [List.getElem?_eq_none (by simpa using h)] at hv; cases hv
      subst hij
      rw [hbl] at hv
      simp at hv
      rw [List.getElem?_replicate, if_pos (by omega)] at hl
      injection hl with hl
      subst hv hl
      exact hto (zblock_row wr (fun b => b = wr.heap.size) rfl) (fun b hb => by omega)
  · have b1 : Below w.heap.size w ((wr.alloc (.cells zblock 5)).alloc (.cells #[.slice (some ⟨wr.heap.size, 0, none⟩) 64 64] 49)).drew := ((hbr.alloc hbr.size _).alloc (by simp; omega) _).drew
    have b2 := b1.grown hgr3 b1.size (fun k hk => by have := (hB.mem k hk).1; omega)
    refine b2.setCell ?_ _
    exact Nat.le_refl _

set_option maxHeartbeats 4000000 in
theorem rnew_good (n : Nat) (h1 : 64 ≤ n) (h2 : n ≤ 8192) (w : World) :
    Calls Try.prog 11 #[.int .i64 (n : Int)] w fun e w' => e = .returned (.tuple #[.pointer (some ⟨w.heap.size, 0, none⟩), .int .i64 0]) ∧ RefR w' (fun b => w.heap.size ≤ b ∧ b < w'.heap.size) w.heap.size (newSt n) ∧ Below w.heap.size w w' := by
  have d1 : decide ((n : Int) < 64) = false := by simp; omega
  have d2 : decide (8192 < (n : Int)) = false := by simp; omega
  obtain ⟨i0, hi0, hz0, hs0, hb0⟩ := prow_parts
  have k1 := make_block
  go_enter Try.func11, Try.ntmps11
  go_wp2_with fail
  generalize hw1 : w.alloc (.cells #[.slice none 0 0, .slice none 0 0, .slice none 0 0, .int .i64 0, .int .i64 0, .int .i64 0, .int .i64 0, .int .i64 0, .int .i64 0, .int .i64 0, .int .i64 0] 46) = w1
  have hz1 : w1.heap.size = w.heap.size + 1 := by rw [← hw1]; simp
  have hblk1 : Blk w1 w.heap.size 46 (refCells (newSt 0) (.slice none 0 0) (.slice none 0 0) (.slice none 0 0)) := by
    rw [← hw1]; exact Blk.new w _ _
  have hb1 : Below w.heap.size w w1 := by rw [← hw1]; exact (Below.refl _ w).alloc (Nat.le_refl _) _
  clear hw1
  go_loopw [5] (fun i wr => ∃ (j : Nat) (Bv : Value) (bs : List Value), j ≤ n ∧ i = .int .i64 j ∧ Blk wr w.heap.size 46 (refCells (newSt 0) Bv (.slice none 0 0) (.slice none 0 0)) ∧
    Row wr (fun b => w.heap.size < b ∧ b < wr.heap.size) 49 1 Bv j bs ∧ AllHeld wr (fun b => w.heap.size < b ∧ b < wr.heap.size) bs (List.replicate j zero64) ∧ Below w.heap.size w wr ∧ w.heap.size < wr.heap.size) (fun i _ => n - (intOf i).toNat)
  case atStart => exact ⟨0, .slice none 0 0, [], Nat.zero_le _, rfl, hblk1, Row.nil _ _ _ _, ⟨rfl, fun i v l hv _ => by simp at hv⟩, hb1, by omega⟩
  case round =>
    obtain ⟨j, Bv, bs, hj, rfl, hblk, hB, hbs, hbr, hsz⟩ := hrel
    clear hblk1 hb1 hz1
    have c0 : wr.cell? ⟨w.heap.size, 0, none⟩ = some Bv := hblk.cell 0
    have f0 := hblk.frozen 0
    by_cases hlt : j < n
    · have hBo : Row wr.drew (fun b => w.heap.size < b ∧ b < wr.heap.size) 49 1 Bv j bs := hB.drew
      have c0a : ∀ o, (wr.alloc o).cell? ⟨w.heap.size, 0, none⟩ = some Bv := fun o => (hblk.alloc o).cell 0
      have c0b : ∀ o o', ((wr.alloc o).alloc o').cell? ⟨w.heap.size, 0, none⟩ = some Bv := fun o o' => ((hblk.alloc o).alloc o').cell 0
      have Hbs := Lib.hid hbs
      have Hbr := Lib.hid hbr
      have HB := Lib.hid hB
      have Hblk := Lib.hid hblk
      clear hbs hbr hB hblk
      go_wp2_with fail
      go_region_law (first
        | (refine step_append_at (w := _) (base := 0) (size := 1) (v := Bv) (m := 1) (news := [.slice (some ⟨wr.heap.size, 0, none⟩) 64 64]) rfl (.tmp 23) (.tmp 25) _ rfl Try.underlying42 hi0 hz0 hs0 hb0 rfl (by decide) rfl ((HB.out.alloc _).alloc _).drew.own rfl rfl (fun j u hu => by rw [World.cell?_drew, cell_fresh (by simp)]; simpa using hu) (by simp [Value.oneCell']) (by unfold maxLen; omega) (by omega) (Nat.zero_le _) ?_
           intro v3 w3 hown3 hgr3 hbl3
           obtain ⟨A3, c3, rfl⟩ := own_slice hown3
           have hblk3 := Blk.grown (w := ((wr.alloc (.cells zblock 5)).alloc (.cells #[.slice (some ⟨wr.heap.size, 0, none⟩) 64 64] 49)).drew) ((Hblk.out.alloc _).alloc _) hgr3 (HB.out.ne_ Hblk.out (by decide))
           have f3 := hblk3.frozen 0
           have c3' : w3.cell? ⟨w.heap.size, 0, none⟩ = some Bv := hblk3.cell 0))
      all_goals
        go_wp2_with fail
        go_roundw
        case rel =>
          obtain ⟨bs', n1, n2, n3, n4, n5⟩ := new_next Hblk.out HB.out Hbs.out Hbr.out hsz hown3 hgr3 hbl3
          exact ⟨j + 1, _, bs', by omega, by go_num, n1, n2, n3, n4, n5⟩
        case measure => simp [intOf]; omega
    · have hjn : j = n := by omega
      subst hjn
      go_wp2_with fail
      go_ret2
      refine ⟨rfl, ⟨fun b hb => hb.2, ⟨Nat.le_refl _, hsz⟩, Bv, .slice none 0 0, .slice none 0 0, bs, [], hblk, ?_, ?_, Row.nil _ _ _ _, ⟨rfl, fun i v l hv _ => by simp at hv⟩, Row.nil _ _ _ _⟩, hbr⟩
      · have := hB.mono (G := fun b => w.heap.size ≤ b ∧ b < wr.heap.size) (fun b hb => ⟨Nat.le_of_lt hb.1, hb.2⟩)
        simpa [newSt] using this
      · exact hbs.mono (fun b hb => ⟨Nat.le_of_lt hb.1, hb.2⟩)

end Go.Proofs.Ytdengokonaljpaa
