/- The program's New, Add, More, Less, Uses. -/
import Derived.Test.YtfiafgmlbejboaaSfi
import Derived.Test.YtfiafgmlbejboaaSins
namespace Go.Proofs.Ytfiafgmlbejboaa
open Go.RowKit

theorem kcs_one' (a n : Nat) : kcs [(a, n, 1, 0)] = [.int .i64 (a : Int), .int .i64 (n : Int), .int .i64 1, .int .i64 0] := rfl
/-- slices.Insert of one run, whatever the row. -/
theorem sins_all {w : World} {B Bv i vb a n : Nat} {v : Value} {l : List Sk.K} (hB : B ≤ w.heap.size) (h : OwnK w B v l) (hv : w.ownsRow Bv 78 4 (.slice (some ⟨vb, 0, none⟩) 1 1) 1 (kcs [(a, n, 1, 0)])) (hne : v.ownBlock ≠ some vb) (hi : i ≤ l.length) (hbig : l.length + 1 ≤ 100000) :
    Calls Try.prog 55 #[v, .int .i64 (i : Int), .slice (some ⟨vb, 0, none⟩) 1 1] w (RepS B v.ownBlock (l.length + 1) (kcs (Sk.insK l i a n)) w) := by
  have e : kcs (Sk.insK l i a n) = (kcs l).take (i * 4) ++ kcs [(a, n, 1, 0)] ++ (kcs l).drop (i * 4) := by
    unfold Sk.insK
    rw [kcs_app, kcs_app, kcs_take, kcs_drop]
  rw [e]
  have h1 := kcs_one l
  have hv1 := kcs_one [(a, n, 1, 0)]
  rcases h.2 with ⟨rfl, h0⟩ | ⟨g, c, cur, rfl, _⟩
  · have hl0 : l = [] := List.eq_nil_of_length_eq_zero h0
    subst hl0
    have hi0 : i = 0 := by simpa using hi
    subst hi0
    exact sins_nil hB hv (Nat.le_refl _) hv1 (by decide)
  · exact sinsert_any h hv (fun e => hne (by rw [e]; rfl)) (Nat.le_refl _) hi h1 hv1 hbig

section
variable {w w1 w2 : World} {g gs : Nat} {X Xr : Nat → Prop} {F : List Bool} {l l2 : List Sk.K} {v v2 : Value}
theorem opS_same (h : RepSV w g gs X Xr F l v) (hb : Below w.heap.size w w1) : OpS RepB g gs X F (Sk.ofN l) (Sk.ofW l) w w1 :=
  ⟨X, ⟨Xr, l, v, h.below hb, rfl, rfl⟩, fun _ hX => .inl hX, Chg.of_below X hb⟩
/-- A change behind a stretch that changed nothing. -/
theorem opS_below {X : Nat → Prop} {F : List Bool} {now was : List Sh.U} (hb : Below w.heap.size w w1) (h : OpS RepB g gs X F now was w1 w2) : OpS RepB g gs X F now was w w2 := by
  obtain ⟨X', h1, h2, h3⟩ := h
  exact ⟨X', h1, fun b hX => (h2 b hX).imp id fun e => Nat.le_trans hb.size e, (Chg.of_below X hb).then_ h3⟩
/-- The row put anew: how a change ends. -/
theorem sput_fin (h : RepSV w g gs X Xr F l v) (hb : Below w.heap.size w w1) (hr : OwnK w2 0 v2 l2) (hg : w1.grownBy w2 v.ownBlock) (ho : v2.ownBlock = v.ownBlock ∨ v2.ownBlock = some w1.heap.size) (hs : Sk.Asc l2) :
    Blk w2 gs 72 #[.pointer (some ⟨g, 0, none⟩), v] ∧ OpS RepB g gs X F (Sk.ofN l2) (Sk.ofW l2) w (w2.setCell ⟨gs, 1, none⟩ v2) := by
  have hgs : gs < w.heap.size := h.blk.lt
  have hXg : X gs := (h.at_ gs).2 (.inr (.inl rfl))
  have hrow : v.ownBlock ≠ some gs := fun e => (h.row_ne e).1 rfl
  have hv2 : v2.ownBlock ≠ some gs := by
    rcases ho with e | e <;> rw [e]
    · exact hrow
    · intro h'; injection h' with h'; have := hb.size; omega
  have hblk : Blk w2 gs 72 #[.pointer (some ⟨g, 0, none⟩), v] := (h.blk.keep (hb.block gs hgs)).grown hg hrow
  have hc : Chg X w w2 := (Chg.of_below X hb).grown hg fun k hk => .inl ((h.at_ k).2 (.inr (.inr hk)))
  refine ⟨hblk, fun b => Xr b ∨ b = gs ∨ v2.ownBlock = some b, ⟨Xr, l2, v2, ⟨hblk.set_ 1 v2, own_far hr hv2 v2, runs_are.keep h.map fun b hX => ?_, hs, fun b => Iff.rfl⟩, rfl, rfl⟩, fun b hbx => ?_, hc.setCell (p := ⟨gs, 1, none⟩) (.inl hXg) v2⟩
  · have hlt := runs_are.lt h.map b hX
    have e1 : (w2.setCell ⟨gs, 1, none⟩ v2).heap[b]? = w2.heap[b]? := Below.heap_setCell w2 _ v2 b (fun e => h.gs_ne (by have e : b = gs := e; rw [← e]; exact hX))
    rw [e1, hg.block b (Nat.lt_of_lt_of_le hlt hb.size) (fun e => (h.row_ne e.symm).2 hX)]
    exact hb.block b hlt
  · rcases hbx with hX | rfl | hbx
    · exact .inl ((h.at_ b).2 (.inl hX))
    · exact .inl hXg
    · rcases ho with e | e
      · rw [e] at hbx; exact .inl ((h.at_ b).2 (.inr (.inr hbx)))
      · rw [e] at hbx; injection hbx with hbx; exact .inr (by rw [← hbx]; exact hb.size)
/-- One cell of the row changed. -/
theorem scell_fin {b c j : Nat} {u : Value} (h : RepSV w g gs X Xr F l (.slice (some ⟨b, 0, none⟩) l.length c)) (hb : Below w.heap.size w w1) (he : (kcs l).set j u = kcs l2) (hl : l2.length = l.length) (hs : Sk.Asc l2) :
    OpS RepB g gs X F (Sk.ofN l2) (Sk.ofW l2) w (w1.setCell ⟨b, j, none⟩ u) := by
  obtain ⟨hne, hnX⟩ := h.row_ne (b := b) rfl
  have hXb : X b := (h.at_ b).2 (.inr (.inr rfl))
  have h1 := h.below hb
  refine ⟨X, ⟨Xr, l2, _, ⟨h1.blk.far (p := ⟨b, j, none⟩) hne u, ?_, runs_are.keep h1.map fun k hX => Below.heap_setCell w1 ⟨b, j, none⟩ u k (fun e => hnX (by have e : k = b := e; rw [← e]; exact hX)), hs, h.at_⟩, rfl, rfl⟩, fun _ hX => .inl hX, (Chg.of_below X hb).setCell (p := ⟨b, j, none⟩) (.inl hXb) u⟩
  have := (h1.row.stored j u).1
  rw [he] at this
  show World.ownsRow _ _ _ _ _ _ _
  rw [hl]
  exact this

set_option maxHeartbeats 2000000 in
theorem snew_any' {X : Nat → Prop} (h : RepP w g X F) : Calls Try.prog 27 #[.pointer (some ⟨g, 0, none⟩)] w fun e w' => ∃ gs, e = .returned (.pointer (some ⟨gs, 0, none⟩)) ∧ OpS RepB g gs X F [] [] w w' := by
  obtain ⟨b, hb⟩ : ∃ b, w.heap.size = b := ⟨_, rfl⟩
  obtain ⟨W, hW⟩ : ∃ W, w.alloc (.cells #[.pointer (some ⟨g, 0, none⟩), .slice none 0 0] 72) = W := ⟨_, rfl⟩
  have hal : Below w.heap.size w W := by rw [← hW]; exact (Below.refl _ _).alloc (Nat.le_refl _) _
  have hbk : Blk W b 72 #[.pointer (some ⟨g, 0, none⟩), .slice none 0 0] := by rw [← hW, ← hb]; exact Blk.new _ _ _
  have hmap : RepP W g X F := runs_are.keep h fun b hX => hal.block b (runs_are.lt h b hX)
  have Fin := Lib.hid (show ∃ gs, Ending.returned (.pointer (some ⟨b, 0, none⟩)) = Ending.returned (.pointer (some ⟨gs, 0, none⟩)) ∧ OpS RepB g gs X F [] [] w W from
    ⟨b, rfl, fun x => X x ∨ x = b ∨ (Value.slice none 0 0).ownBlock = some x, ⟨X, [], _, ⟨hbk, World.ownsRow_nil _ _ _ _, hmap, List.Pairwise.nil, fun _ => Iff.rfl⟩, rfl, rfl⟩, (fun x hx => by
      rcases hx with hx | hx | hx
      · exact .inl hx
      · exact .inr (by omega)
      · cases hx), Chg.of_below X hal⟩)
  clear hal hbk hmap h
  go_enter Try.func27, Try.ntmps27
  go_wp2_with fail
  go_ret
  exact Fin.out

set_option maxRecDepth 8000 in
set_option maxHeartbeats 8000000 in
theorem sadd_any' (h : RepSV w g gs X Xr F l v) (hk : KB l) (a n : Int) (hok : UOk (Sh.add (Sk.ofN l) a n).2) :
    Calls Try.prog 29 #[.pointer (some ⟨gs, 0, none⟩), .agg #[.int .i64 a, .int .i64 n]] w fun e w' => e = .returned (.bool (Sh.add (Sk.ofN l) a n).1) ∧ OpS RepB g gs X F (Sh.add (Sk.ofN l) a n).2 (Sk.ofW l) w w' := by
  obtain ⟨R, hR⟩ : ∃ R, R = Sh.add (Sk.ofN l) a n := ⟨_, rfl⟩
  rw [← hR] at hok ⊢
  obtain ⟨b0, hb0⟩ : ∃ g, w.heap.size = g := ⟨_, rfl⟩
  obtain ⟨W, hW⟩ : ∃ W, w.alloc (.cells #[.int .i64 a, .int .i64 n] 39) = W := ⟨_, rfl⟩
  have hal : Below w.heap.size w W := by rw [← hW]; exact (Below.refl _ _).alloc (Nat.le_refl _) _
  have bx : Blk W b0 39 #[.int .i64 a, .int .i64 n] := by rw [← hW, ← hb0]; exact Blk.new _ _ _
  have x0 : W.cell? ⟨b0, 0, none⟩ = some (.int .i64 a) := bx.cell 0
  have x1 : W.cell? ⟨b0, 1, none⟩ = some (.int .i64 n) := bx.cell 1
  have HAl := Lib.hid hal
  have BX := Lib.hid bx
  have H := Lib.hid h
  have N1 := Lib.hid (find_any (h.below hal) hk.few a)
  have few := hk.few
  clear hal bx
  by_cases h1 : n < 1
  · rw [Sk.add_no (l := l) (.inl h1)] at hR
    subst hR
    have z1 : decide (n < 1) = true := by rw [decide_eq_true_eq]; exact h1
    have Fin := Lib.hid (opS_same h HAl.out)
    clear h1 hok N1 h hk few
    go_enter Try.func29, Try.ntmps29
    go_wp2_with fail
    go_ret
    exact ⟨rfl, Fin.out⟩
  have z1 : decide (n < 1) = false := by rw [decide_eq_false_iff_not]; exact h1
  by_cases h2 : a < 0
  · rw [Sk.add_no (l := l) (.inr h2)] at hR
    subst hR
    have z2 : decide (a < 0) = true := by rw [decide_eq_true_eq]; exact h2
    have Fin := Lib.hid (opS_same h HAl.out)
    clear h1 h2 hok N1 h hk few
    go_enter Try.func29, Try.ntmps29
    go_wp2_with fail
    go_ret
    exact ⟨rfl, Fin.out⟩
  have z2 : decide (a < 0) = false := by rw [decide_eq_false_iff_not]; exact h2
  obtain ⟨a', rfl⟩ : ∃ m : Nat, a = (m : Int) := ⟨a.toNat, by omega⟩
  obtain ⟨n', rfl⟩ : ∃ m : Nat, n = (m : Int) := ⟨n.toNat, by omega⟩
  have HOK := Lib.hid hok
  have HR := Lib.hid hR
  have Hn1 := Lib.hid (show 1 ≤ n' by omega)
  obtain ⟨q, hq⟩ : ∃ q, q = l.length := ⟨_, rfl⟩
  have Hq := Lib.hid hq
  obtain ⟨A, c, rfl, -, -⟩ := ownK_slice h.row
  have Kc := Lib.hid (fun (W' : World) (hb : Below w.heap.size w W') => show W'.cell? ⟨gs, 1, none⟩ = some (.slice A q c) by rw [hq]; exact ((h.below hb).blk.cell 1))
  clear hok h hk h1 h2 hq hR
  go_enter Try.func29, Try.ntmps29
  go_wp2_with fail
  refine N1.out.mono ?_
  rintro e w1 ⟨i, is, rfl, hf, hb1⟩
  clear N1
  have HF := Lib.hid hf
  have HB1 := Lib.hid (HAl.out.trans (hb1.mono HAl.out.size))
  have X0 := Lib.hid ((hb1.cell (p := ⟨b0, 0, none⟩) BX.out.lt).trans x0)
  have X1 := Lib.hid ((hb1.cell (p := ⟨b0, 1, none⟩) BX.out.lt).trans x1)
  clear hf hb1 x0 x1
  cases is with
  | true =>
    have Fin := Lib.hid (show Ending.returned (.bool false) = Ending.returned (.bool R.1) ∧ OpS RepB g gs X F R.2 (Sk.ofW l) w w1 from by rw [HR.out, Sk.add_known HF.out]; exact ⟨rfl, opS_same H.out HB1.out⟩)
    go_wp2_with fail
    go_ret
    exact Fin.out
  | false =>
    have hadd := HR.out.trans (Sk.add_new H.out.asc HF.out Hn1.out)
    have hR2 : R.2 = Sk.ofN (Sk.insK l i a' n') := by rw [hadd]
    have hR1 : R.1 = true := by rw [hadd]
    rw [hR2] at HOK
    have HR2 := Lib.hid hR2
    have HR1 := Lib.hid hR1
    clear hadd hR2 hR1
    have hiq : i ≤ q := by rw [Hq.out]; exact HF.out.le
    have hl1 : q + 1 ≤ 100000 := by have := HOK.out.1; rw [Sk.ofN_len, Sk.insK_len _ _ _ _ HF.out.le, ← Hq.out] at this; exact this
    have x0 := X0.out
    have x1 := X1.out
    have g1 := Kc.out w1 HB1.out
    obtain ⟨Wb, hWb⟩ : ∃ Wb, w1.drew.alloc (.cells #[.int .i64 (a' : Int), .int .i64 (n' : Int), .int .i64 1, .int .i64 0] 78) = Wb := ⟨_, rfl⟩
    have HBb := Lib.hid (show Below w.heap.size w Wb by rw [← hWb]; exact HB1.out.drew.alloc HB1.out.size _)
    have hsz : w1.heap.size < Wb.heap.size := by rw [← hWb]; simp
    have hrow : Wb.ownsRow 0 78 4 (.slice (some ⟨w1.heap.size, 0, none⟩) 1 1) 1 (kcs [(a', n', 1, 0)]) := by
      have h := World.ownsRow_lit (base := 0) (e := 78) (size := 4) w1.drew #[.int .i64 (a' : Int), .int .i64 (n' : Int), .int .i64 1, .int .i64 0] 1 (Nat.zero_le _) (by unfold maxLen; omega) rfl
      rw [hWb] at h
      exact h
    have hB := H.out.below HBb.out
    have NI := Lib.hid (show Calls Try.prog 55 #[.slice A q c, .int .i64 (i : Int), .slice (some ⟨w1.heap.size, 0, none⟩) 1 1] Wb fun e w9 => ∃ A9 p9 c9, e = .returned (.slice A9 p9 c9) ∧ w9.cell? ⟨gs, 1, none⟩ = some (.slice A q c) ∧ w9.frozen? ⟨gs, 1, none⟩ = false ∧ (Ending.returned (.bool true) = Ending.returned (.bool R.1) ∧ OpS RepB g gs X F R.2 (Sk.ofW l) w (w9.setCell ⟨gs, 1, none⟩ (.slice A9 p9 c9))) by
      rw [Hq.out]
      refine (sins_all (B := 0) (a := a') (n := n') (Nat.zero_le _) hB.row hrow (fun e => ?_) HF.out.le (by rw [← Hq.out]; exact hl1)).mono ?_
      · have := (H.out.row.lt _ e).2
        have := HB1.out.size
        omega
      · rintro e w9 ⟨v9, rfl, o9, gr9, ow9⟩
        have o9' : OwnK w9 0 v9 (Sk.insK l i a' n') := by
          unfold OwnK
          rw [Sk.insK_len _ _ _ _ HF.out.le]
          exact o9
        obtain ⟨A9, c9, rfl⟩ := own_slice o9
        obtain ⟨hbk, hop⟩ := sput_fin H.out HBb.out o9' gr9 ow9 (Sk.asc_ins H.out.asc HF.out n')
        rw [Sk.ofW_ins] at hop
        exact ⟨_, _, _, rfl, hbk.cell 1, hbk.frozen 1, by rw [HR1.out], by rw [HR2.out]; exact hop⟩)
    have gb1 : Wb.cell? ⟨gs, 1, none⟩ = some (.slice A q c) := Kc.out Wb HBb.out
    have hbsz : w1.drew.heap.size = w1.heap.size := rfl
    have hi8 : i ≤ 100000 := by omega
    clear hsz hrow hB X0 X1 HF HOK HR1 HR2 HR
    go_wp2_with fail
    go_region_with (go_at_call 55; ((with_reducible refine NI.out.mono ?_); rintro e9 w9 ⟨A9, p9, c9, rfl, cg9, fg9, hfin⟩; have Fin := Lib.hid hfin; clear hfin))
    all_goals
      go_wp2_with fail
      first | exact Fin.out | (go_ret; exact Fin.out)
end
end Go.Proofs.Ytfiafgmlbejboaa
