/- TallyParts returns true for all arguments; the memory that was there stays as it is. -/
import Derived.Test.YthopckljhmommaaTawake
import Derived.Test.YthopckljhmommaaApp
namespace Go.Proofs.Ythopckljhmommaa
open Go.RowKit Crc

/-- The first j rows, one behind the other. -/
def flat (rs : List ByteRow) (j : Nat) : List Nat := (rs.take j).flatMap ByteRow.l
theorem flat_next {rs : List ByteRow} {j : Nat} (h : j < rs.length) : flat rs (j + 1) = flat rs j ++ rs[j].l := by
  unfold flat; rw [List.take_succ_eq_append_getElem h, List.flatMap_append]; simp
theorem flat_bytes {rs : List ByteRow} {w : World} {B : Nat} (h : ∀ y ∈ rs, y.ok w B) (j : Nat) : ∀ x ∈ flat rs j, x < 256 := by
  intro x hx
  unfold flat at hx
  obtain ⟨r, hr, hxr⟩ := List.mem_flatMap.1 hx
  exact (h r (List.mem_of_mem_take hr)).2.2.2.1 x hxr
theorem byts_append (a b : List Nat) : byts a ++ byts b = byts (a ++ b) := by unfold byts; rw [List.map_append]
theorem own_below {w w' : World} {base : Nat} {e : TypeId} {size n : Nat} {v : Value} {xs : List Value} (h : w.ownsRow base e size v n xs) (hb : Below w.heap.size w w') : w'.ownsRow base e size v n xs := by
  refine ⟨h.1, ?_⟩
  rcases h.2 with h0 | ⟨g, cap, cur, hv, hbs, hg, rest⟩
  · exact .inl h0
  · refine .inr ⟨g, cap, cur, hv, hbs, ?_, rest⟩
    rw [hb.block g (by
      rcases Nat.lt_or_ge g w.heap.size with hlt | hge
      · exact hlt
      · rw [Array.getElem?_eq_none hge] at hg; cases hg)]
    exact hg
set_option maxHeartbeats 4000000 in
theorem parts_any (A : Option Addr) (cap : Nat) (rs : List ByteRow) (w : World) (hrs : ∀ y ∈ rs, y.ok w w.heap.size) (hsl : Sl w w.heap.size A (rs.map ByteRow.val)) :
    Calls Try.prog 6 #[.slice A rs.length cap] w fun e w' => e = .returned (.bool true) ∧ Below w.heap.size w w' := by
  by_cases h60 : 60 < rs.length
  · go_enter Try.func6, Try.ntmps6
    go_wp2_with fail
    refine (awake_any _).mono ?_
    rintro e w1 ⟨rfl, hb1⟩
    go_wp2_with fail
    go_ret
    exact ⟨rfl, hb1⟩
  obtain ⟨i0, hi0, hz0, hs0, hb0⟩ := byte_parts (P := Try.prog) (e := 5) (by kernel_rfl)
  go_enter Try.func6, Try.ntmps6
  go_wp2_with fail
  refine (awake_any _).mono ?_
  rintro e w1 ⟨rfl, hb1⟩
  go_wp2_with (go_at_call 10; refine (sum_nil hb1).mono ?_; rintro e w2 ⟨rfl, hb2⟩)
  go_loopw [3, 4, 5] (fun s v i wr => ∃ j : Nat, j ≤ rs.length ∧ i = .int .i64 j ∧ s = .int .u32 ((sum (flat rs j) : Nat) : Int) ∧ (flat rs j).length ≤ 200 * j ∧ wr.ownsRow w.heap.size 5 1 v (flat rs j).length (byts (flat rs j)) ∧ Below w.heap.size w wr) (fun _ _ i _ => rs.length - (intOf i).toNat)
  case atStart => exact ⟨0, by omega, rfl, by rw [show flat rs 0 = [] from rfl]; rfl, by simp [flat], World.ownsRow_nil _ _ _ _, hb2⟩
  case round =>
    obtain ⟨j, hj, rfl, rfl, hfl, hrow, hbr⟩ := hrel
    by_cases hlt : j < rs.length
    · obtain ⟨ba, oa, rfl, hba, hc⟩ := (hsl.below hbr).at_ (i := j) (by simpa using hlt)
      have hcell : wr.cell? ⟨ba, oa + j, none⟩ = some (.slice rs[j].A rs[j].l.length rs[j].cap) := by
        have := hc j (by simpa using hlt)
        rw [this]; simp [ByteRow.val]
      have hcb : ba < wr.heap.size := Nat.lt_of_lt_of_le hba hbr.size
      clear hc
      have hok := hrs rs[j] (List.getElem_mem _)
      have Hn := Lib.hid (flat_next hlt)
      have hfb := flat_bytes hrs j
      generalize rs[j] = r at *
      obtain ⟨h1, h2, h3, h4, h5⟩ := hok
      by_cases h200 : 200 < r.l.length
      · go_wp2_with fail
        go_ret
        exact ⟨rfl, hbr⟩
      have c1 := more_any (sum (flat rs j)) (more_lt (by decide) _) r.A r.cap r.l h4 (by omega) wr (sl_keep h3 hbr)
      rw [← sum_append, ← Hn.out] at c1
      have C1 := Lib.hid c1
      have HBR := Lib.hid hbr
      clear c1 hbr
      go_wp2_with fail
      refine Calls.mono C1.out ?_
      rintro e w3 ⟨rfl, hb3⟩
      have hrow3 : w3.ownsRow w.heap.size 5 1 u4 (flat rs j).length (byts (flat rs j)) := own_below hrow hb3
      have hbr3 : Below w.heap.size w w3 := HBR.out.trans (hb3.mono HBR.out.size)
      have hcell3 : w3.cell? ⟨ba, oa + j, none⟩ = some (.slice r.A r.l.length r.cap) := (hb3.cell (p := ⟨ba, oa + j, none⟩) hcb).trans hcell
      have Hb3 := Lib.hid hbr3
      clear hb3 hbr3 hrow hcell
      go_wp2_with (at_builtin; refine wpList_append_sl (base := w.heap.size) _ rfl (.tmp 30) (.tmp 34) _ rfl Try.underlying22 hi0 hz0 hs0 hb0 rfl rfl hrow3 rfl (byts_length r.l).symm h5 (sl_keep h3 Hb3.out) (byts_one r.l) (by rw [byts_length]; exact h1) (by rw [byts_length]; unfold maxLen; omega) (by rw [byts_length]; omega) Hb3.out.size ?_; intro v2 w2 hown hgr hbl)
      have hown2 : w2.ownsRow w.heap.size 5 1 v2 ((flat rs j).length + r.l.length) (byts (flat rs j) ++ byts r.l) := by simpa [byts_length] using hown
      go_roundw
      case rel => exact ⟨j + 1, by omega, by go_num, rfl, by rw [Hn.out, List.length_append]; omega, by rw [Hn.out, List.length_append, ← byts_append]; exact hown2, Hb3.out.grown hgr Hb3.out.size (fun g hg => (hrow3.lt g hg).1)⟩
      case measure => simp [intOf]; omega
    · have hjn : j = rs.length := by omega
      subst hjn
      obtain ⟨B, c, rfl⟩ := own_slice hrow
      have c1 := Lib.hid (sum_any B c (flat rs rs.length) (flat_bytes hrs _) (by omega) wr (Sl.of_own hrow))
      have HBR := Lib.hid hbr
      clear hrow hbr
      go_wp2_with (go_at_call 10; refine Calls.mono c1.out ?_; rintro e w' ⟨rfl, hbc⟩)
      go_ret
      exact ⟨rfl, HBR.out.trans (hbc.mono HBR.out.size)⟩

end Go.Proofs.Ythopckljhmommaa
