/- The document's Shares: change, More, Less; NewShares. -/
import Derived.Test.YtfiafgmlbejboaaSref
namespace Go.Proofs.Ytfiafgmlbejboaa
open Go.RowKit

theorem ucs_set2 : ∀ (l : List Sh.U) (k m : Nat), k < l.length → ((ucs l).set (k * 4 + 2) (.int .i64 (m : Int))).set (k * 4 + 3) (.bool (m == 0)) = ucs (Sh.setU l k m)
  | u :: l, 0, m, _ => rfl
  | u :: l, k + 1, m, h => by
    have := ucs_set2 l k m (by simpa using h)
    rw [show (k + 1) * 4 + 2 = k * 4 + 2 + 1 + 1 + 1 + 1 by omega, show (k + 1) * 4 + 3 = k * 4 + 3 + 1 + 1 + 1 + 1 by omega, ucs]
    simp only [List.set_cons_succ]
    rw [this]
    rfl
theorem Blk.pair {w : World} {g : Nat} {t : TypeId} {a b c v : Value} (h : Blk w g t #[a, b, c]) : Blk (w.setCell ⟨g, 1, none⟩ v) g t #[a, v, c] := h.set_ 1 v
/-- What a change of the row in use leaves. -/
def ShR (B gs gm gb : Nat) (F : List Bool) (R : Bool × List Sh.U) (was : List Sh.U) (w : World) (e : Ending) (w' : World) : Prop :=
  e = .returned (.bool R.1) ∧ SRef w' B gs gm gb F R.2 was ∧ Chg (fun b => b = gs) w w'

section
variable {w : World} {B gs gm gb : Nat} {F : List Bool} {now was : List Sh.U}
set_option maxRecDepth 8000 in
set_option maxHeartbeats 8000000 in
theorem schange_any (h : SRef w B gs gm gb F now was) (hB : B ≤ w.heap.size) (a : Int) (more : Bool) (d : Int) (hd : d = if more = true then 1 else -1) (hok : UOk (Sh.change now a more).2) :
    Calls Try.prog 58 #[.pointer (some ⟨gs, 0, none⟩), .int .i64 a, .int .i64 d] w (ShR B gs gm gb F (Sh.change now a more) was w) := by
  obtain ⟨R, hR⟩ : ∃ R, R = Sh.change now a more := ⟨_, rfl⟩
  rw [← hR] at hok ⊢
  unfold Sh.change at hR
  have N1 := Lib.hid (sat_any h a)
  have HS := Lib.hid h
  cases hx : Sh.idx now a with
  | none =>
    have hV : Sh.idxV now a = -1 := by unfold Sh.idxV; rw [hx]
    rw [hx] at hR
    simp only at hR
    rw [hV] at N1
    subst hR
    clear hx hV h hd hok
    go_enter Try.func58, Try.ntmps58
    go_wp2_with fail
    refine N1.out.mono ?_
    rintro e w' ⟨rfl, rfl⟩
    go_wp2_with fail
    go_ret
    exact ⟨rfl, HS.out, Chg.refl _ _⟩
  | some k =>
    obtain ⟨hk, -⟩ := Sh.idx_some hx
    have hV : Sh.idxV now a = (k : Int) := by unfold Sh.idxV; rw [hx]
    rw [hx] at hR
    simp only at hR
    rw [hV] at N1
    obtain ⟨v1, v2, hbk, hu1, hu2⟩ := h.sh
    obtain ⟨A, c, rfl, hc, hA⟩ := ownU_slice hu1
    obtain ⟨q, hq⟩ : ∃ q, q = now.length := ⟨_, rfl⟩
    have hq5 : q ≤ 100000 := by rw [hq]; exact h.ok.1
    have cn : w.cell? ⟨gs, 1, none⟩ = some (.slice A q c) := by rw [hq]; exact hbk.cell 1
    have hsl := ownU_sl hu1
    obtain ⟨g, c', hv, -, -, hcell⟩ := ownU_at hu1 (by omega)
    injection hv with hA1 hw1 hw2
    subst hA1
    obtain ⟨-, -, -, e4⟩ := hcell k hk
    have hkq : k < q := by omega
    have zk : decide ((k : Int) < 0) = false := by rw [decide_eq_false_iff_not]; omega
    have hxo := (h.ok.at_ k).2.2
    clear hw1 hw2 hcell hx hV h
    by_cases hz : (Sh.at_ now k).2.2 = 0
    · have hl : Sh.isLate (Sh.at_ now k) = true := by unfold Sh.isLate; rw [hz]; rfl
      rw [hl] at e4
      rw [if_pos hz] at hR
      subst hR
      clear hz hl hd hok hsl hbk hu1 hu2 hq hk
      go_enter Try.func58, Try.ntmps58
      go_wp2_with fail
      refine N1.out.mono ?_
      rintro e w' ⟨rfl, rfl⟩
      go_wp2_with fail
      go_ret
      exact ⟨rfl, HS.out, Chg.refl _ _⟩
    · have hl : Sh.isLate (Sh.at_ now k) = false := by unfold Sh.isLate; rw [beq_eq_false_iff_ne]; exact hz
      rw [hl] at e4
      rw [if_neg hz] at hR
      obtain ⟨i0, hi0, hz0, hs0, hb0⟩ := use_parts
      obtain ⟨x, hxx⟩ : ∃ x, x = (Sh.at_ now k).2.2 := ⟨_, rfl⟩
      rw [← hxx] at hxo hz hR
      obtain ⟨y, hy⟩ : ∃ y : Nat, y = (if more = true then x + 1 else x - 1) := ⟨_, rfl⟩
      rw [← hy] at hR
      have hyd : (x : Int) + d = (y : Int) := by
        rw [hy, hd]
        cases more with
        | true => simp
        | false => simp; omega
      have hy9 : y ≤ 2000000000 := by rw [hy]; split <;> omega
      have HR := Lib.hid hR
      have HOK := Lib.hid hok
      have hne : gs ≠ g := fun e => by
        have := (own_keep hu1 (w' := w) fun _ _ _ => rfl)
        rcases hu1.2 with ⟨h', _⟩ | ⟨g2, cap, cur, h', _, hg2, _⟩
        · cases h'
        · injection h' with hA1 _ _
          injection hA1 with hA1
          injection hA1 with hA1 _ _
          rw [e, hA1] at hbk
          rw [Blk, hg2] at hbk
          injection hbk with hbk
          injection hbk with _ hbk _
          exact absurd hbk (by decide)
      have HQ := Lib.hid hq
      have Sl1 := Lib.hid hsl
      have HX := Lib.hid hxx
      have Hbk := Lib.hid hbk
      have Hu2 := Lib.hid hu2
      have w1 : IntKind.i64.wrap ((x : Int) + d) = (y : Int) := by rw [hyd, IntKind.wrap_i64]; omega
      have w2 : IntKind.i64.wrap (y : Int) = (y : Int) := by rw [IntKind.wrap_i64]; omega
      have zy : ((y : Int) == 0) = (y == 0) := by
        cases hb : (y == 0) with
        | true => rw [beq_iff_eq] at hb ⊢; omega
        | false => rw [beq_eq_false_iff_ne] at hb ⊢; omega
      rw [← hq] at hc
      clear hxx hR hok hl hz hd hy hsl hbk hu1 hu2 hk hq
      have ONil := World.ownsRow_nil w w.heap.size 80 4
      go_enter Try.func58, Try.ntmps58
      go_wp2_with fail
      refine N1.out.mono ?_
      rintro e w' ⟨rfl, rfl⟩
      go_upto_region 5 with (at_builtin; refine wpList_append_sls (base := w.heap.size) _ rfl (.const (.slice none 0 0)) (.tmp 27) _ rfl Try.underlying73 hi0 hz0 hs0 hb0 rfl (by decide) rfl ONil (m := q) (news := ucs now) rfl (by rw [ucs_len, HQ.out]) (by simp) hc Sl1.out (ucs_one now) (by unfold maxLen; omega) (by omega) (Nat.le_refl _) ?_; intro v8 w8 k1 k2 _; rw [Nat.zero_add, List.nil_append] at k1; obtain ⟨A8, c8, rfl⟩ := own_slice k1; have K1 := Lib.hid k1; have b8 := (Below.refl w.heap.size w).grown k2 (Nat.le_refl _) (fun g hg => by cases hg); have B8 := Lib.hid b8; have bk8 := Hbk.out.keep (b8.block gs Hbk.out.lt); have cg8 : w8.cell? ⟨gs, 1, none⟩ = some (.slice (some ⟨g, 0, none⟩) q c) := (by rw [HQ.out]; exact bk8.cell 1); have fz8 := bk8.frozen 1; have BK8 := Lib.hid bk8; clear k1 k2 b8 bk8)
      clear cn e4 cg8 fz8
      obtain ⟨g8, c8', hv8, hg8, hg82, hcell8⟩ := ownU_at (B := w.heap.size) (l := now) (v := .slice A8 q c8) (by have := K1.out; unfold OwnU; rw [← HQ.out]; exact this) (by rw [← HQ.out]; omega)
      injection hv8 with hA1 hw1 hw2
      subst hA1
      subst hw2
      obtain ⟨-, -, f3, f4⟩ := hcell8 k (by rw [← HQ.out]; exact hkq)
      rw [← HX.out] at f3
      have hne8 : g8 ≠ gs := fun e => by have := Hbk.out.lt; omega
      have bk9 := BK8.out.pair (v := .slice (some ⟨g8, 0, none⟩) q c8)
      have own9 := own_far K1.out (p := ⟨gs, 1, none⟩) (by simp [Value.ownBlock]; exact hne8) (.slice (some ⟨g8, 0, none⟩) q c8)
      have f39 : (w8.setCell ⟨gs, 1, none⟩ (.slice (some ⟨g8, 0, none⟩) q c8)).cell? ⟨g8, k * 4 + 2, none⟩ = some (.int .i64 (x : Int)) := by rw [own9.cellAt (k * 4 + 2) (by omega), ← K1.out.cellAt (k * 4 + 2) (by omega)]; exact f3
      have ch9 : Chg (fun b => b = gs) w (w8.setCell ⟨gs, 1, none⟩ (.slice (some ⟨g8, 0, none⟩) q c8)) := (Chg.of_below (fun b => b = gs) B8.out).setCell (p := ⟨gs, 1, none⟩) (.inl rfl) _
      generalize w8.setCell ⟨gs, 1, none⟩ (.slice (some ⟨g8, 0, none⟩) q c8) = w9 at *
      have r1 := (own9.stored (k * 4 + 2) (.int .i64 (y : Int))).1
      have fz9 := own9.frozenAt (k * 4 + 2)
      have cg9 : w9.cell? ⟨gs, 1, none⟩ = some (.slice (some ⟨g8, 0, none⟩) q c8) := bk9.cell 1
      have bk10 := bk9.far (p := ⟨g8, k * 4 + 2, none⟩) hne8 (.int .i64 (y : Int))
      have ch10 : Chg (fun b => b = gs) w ((w9.setCell ⟨g8, k * 4 + 2, none⟩ (.int .i64 (y : Int))).drew) := (ch9.setCell (p := ⟨g8, k * 4 + 2, none⟩) (.inr hg8) _).drew
      have r2 := own_keep (w' := (w9.setCell ⟨g8, k * 4 + 2, none⟩ (.int .i64 (y : Int))).drew) r1 (fun _ _ _ => rfl)
      have bk11 := bk10.keep (w' := (w9.setCell ⟨g8, k * 4 + 2, none⟩ (.int .i64 (y : Int))).drew) rfl
      have R2 := Lib.hid r2
      have BK11 := Lib.hid bk11
      have CH10 := Lib.hid ch10
      clear hw1 hcell8 f3 f4 own9 bk9 bk10 ch9 r1 r2 bk11 ch10 BK8 K1 B8
      go_region
      clear f39 fz9 cg9
      generalize (w9.setCell ⟨g8, k * 4 + 2, none⟩ (.int .i64 (y : Int))).drew = w10 at *
      have cg10 : w10.cell? ⟨gs, 1, none⟩ = some (.slice (some ⟨g8, 0, none⟩) q c8) := BK11.out.cell 1
      have f10 : w10.cell? ⟨g8, k * 4 + 2, none⟩ = some (.int .i64 (y : Int)) := by
        rw [R2.out.cellAt (k * 4 + 2) (by omega), List.getElem?_set_self]
        rw [ucs_len, ← HQ.out]; omega
      have fz10 := R2.out.frozenAt (k * 4 + 3)
      obtain ⟨y3, f103⟩ : ∃ u, w10.cell? ⟨g8, k * 4 + 3, none⟩ = some u := by
        have hl : ((ucs now).set (k * 4 + 2) (.int .i64 (y : Int))).length = q * 4 := by rw [List.length_set, ucs_len, ← HQ.out]
        exact ⟨_, (R2.out.cellAt (k * 4 + 3) (by omega)).trans (List.getElem?_eq_getElem (by omega))⟩
      have r3 := (R2.out.stored (k * 4 + 3) (.bool (y == 0))).1
      rw [ucs_set2 now k y (by rw [← HQ.out]; exact hkq)] at r3
      have bk12 := BK11.out.far (p := ⟨g8, k * 4 + 3, none⟩) hne8 (.bool (y == 0))
      have ch12 : Chg (fun b => b = gs) w ((w10.setCell ⟨g8, k * 4 + 3, none⟩ (.bool (y == 0))).drew) := (CH10.out.setCell (p := ⟨g8, k * 4 + 3, none⟩) (.inr hg8) _).drew
      have r4 := own_keep (w' := (w10.setCell ⟨g8, k * 4 + 3, none⟩ (.bool (y == 0))).drew) r3 (fun _ _ _ => rfl)
      have Fin := Lib.hid (show ShR B gs gm gb F R was w (.returned (.bool true)) ((w10.setCell ⟨g8, k * 4 + 3, none⟩ (.bool (y == 0))).drew) from by
        refine ⟨by rw [HR.out], ⟨⟨_, v2, bk12, ?_, own_keep Hu2.out fun b hb hlt => ch12.block b hlt fun e => ?_⟩, HS.out.map.keep (ch12.block gm HS.out.map.map.lt ?_) (ch12.block gb HS.out.map.blks.lt ?_), HOK.out, HS.out.ok2⟩, ch12⟩
        · rw [HR.out]
          show World.ownsRow _ _ _ _ _ _ _
          rw [Sh.setU_len, ← HQ.out]
          exact World.ownsRow_base r4 hB
        · subst e
          obtain ⟨cur, hcur⟩ : ∃ cur, Blk w b 80 cur := by
            rcases Hu2.out.2 with ⟨h', _⟩ | ⟨g2, cap, cur, h', _, hg2, _⟩
            · subst h'; cases hb
            · subst h'; injection hb with hb; subst hb; exact ⟨cur, hg2⟩
          exact Hbk.out.ne_ hcur (by decide) rfl
        · exact HS.out.map.map.ne_ Hbk.out (by decide)
        · exact HS.out.map.blks.ne_ Hbk.out (by decide))
      clear r3 r4 bk12 ch12 R2 BK11 CH10
      go_upto_region 6 with fail
      go_region
      generalize (w10.setCell ⟨g8, k * 4 + 3, none⟩ (.bool (y == 0))).drew = w11 at *
      go_wp2_with fail
      go_ret
      exact Fin.out

set_option maxHeartbeats 2000000 in
theorem smore_any (h : SRef w B gs gm gb F now was) (hB : B ≤ w.heap.size) (a : Int) (hok : UOk (Sh.change now a true).2) :
    Calls Try.prog 32 #[.pointer (some ⟨gs, 0, none⟩), .int .i64 a] w (ShR B gs gm gb F (Sh.change now a true) was w) := by
  have N1 := Lib.hid (schange_any h hB a true 1 rfl hok)
  clear h hok
  go_enter Try.func32, Try.ntmps32
  go_wp2_with fail
  refine N1.out.mono ?_
  rintro e w' ⟨rfl, h2, h3⟩
  have Fin := Lib.hid (show ShR B gs gm gb F (Sh.change now a true) was w (.returned (.bool (Sh.change now a true).1)) w' from ⟨rfl, h2, h3⟩)
  clear h2 h3
  go_wp2_with fail
  go_ret
  exact Fin.out
set_option maxHeartbeats 2000000 in
theorem sless_any (h : SRef w B gs gm gb F now was) (hB : B ≤ w.heap.size) (a : Int) (hok : UOk (Sh.change now a false).2) :
    Calls Try.prog 34 #[.pointer (some ⟨gs, 0, none⟩), .int .i64 a] w (ShR B gs gm gb F (Sh.change now a false) was w) := by
  have N1 := Lib.hid (schange_any h hB a false (-1) rfl hok)
  clear h hok
  go_enter Try.func34, Try.ntmps34
  go_wp2_with fail
  refine N1.out.mono ?_
  rintro e w' ⟨rfl, h2, h3⟩
  have Fin := Lib.hid (show ShR B gs gm gb F (Sh.change now a false) was w (.returned (.bool (Sh.change now a false).1)) w' from ⟨rfl, h2, h3⟩)
  clear h2 h3
  go_wp2_with fail
  go_ret
  exact Fin.out
theorem uok_nil : UOk [] := ⟨by decide, by simp⟩
set_option maxHeartbeats 2000000 in
theorem snew_any (h : RRef w gm gb F) (B : Nat) :
    Calls Try.prog 28 #[.pointer (some ⟨gm, 0, none⟩)] w fun e w' => ∃ gs, e = .returned (.pointer (some ⟨gs, 0, none⟩)) ∧ SRef w' B gs gm gb F [] [] ∧ w.heap.size ≤ gs ∧ Below w.heap.size w w' := by
  have H := Lib.hid h
  clear h
  go_enter Try.func28, Try.ntmps28
  go_wp2_with fail
  go_ret
  have hb : Below w.heap.size w (w.alloc (.cells #[.pointer (some ⟨gm, 0, none⟩), .slice none 0 0, .slice none 0 0] 75)) := (Below.refl _ _).alloc (Nat.le_refl _) _
  exact ⟨_, rfl, ⟨⟨_, _, Blk.new _ _ _, World.ownsRow_nil _ _ _ _, World.ownsRow_nil _ _ _ _⟩, H.out.keep (hb.block _ H.out.map.lt) (hb.block _ H.out.blks.lt), uok_nil, uok_nil⟩, Nat.le_refl _, hb⟩
end
end Go.Proofs.Ytfiafgmlbejboaa
