/- The document's Shares: Add. -/
import Derived.Test.YtfiafgmlbejboaaScha
import Derived.Deep.RegionLaw
import Derived.Deep.RegionHeldLaw
namespace Go.Proofs.Ytfiafgmlbejboaa
open Go.RowKit

theorem step_append_sls {P : Program} (w : World) {ops : Array Oper} {o : Oper} {a : Act} {K : Act → World → Prop} {Q : Exit → Act → World → Prop} {E : Prop} (hgd : o.guard = none) (s x : Operand) (t : TypeId)
    (ho : o.op = .call { callee := .builtin .append, args := #[s, x], argTypes := #[t, t] })
    {base : Nat} {e : TypeId} {i : TypeInfo} {z : Value} {size bytes : Nat} (ht : P.underlying t = some (.slice e)) (hi : P.info? e = some i) (hz : i.zero = some z) (hs : i.size = size) (hb : i.bytes = bytes) (hzs : z.cells.size = size) (hsz : 0 < size)
    {v : Value} {n : Nat} {xs : List Value} (hv : a.eval s = v) (hown : w.ownsRow base e size v n xs) {B : Nat} {A : Option Addr} {m c : Nat} {news : List Value} (hx : a.eval x = .slice A m c) (hl : news.length = m * size) (hA : A = none → c = 0) (hmc : m ≤ c) (hr : Sl w B A news) (h1 : ∀ u ∈ news, u.oneCell' = true)
    (h63 : n + m ≤ maxLen) (hbytes : (n + m) * bytes ≤ 140737488355328) (hbase : base ≤ w.heap.size)
    (h : ∀ v' w', w'.ownsRow base e size v' (n + m) (xs ++ news) → w.grownBy w' v.ownBlock → (v'.ownBlock = v.ownBlock ∨ v'.ownBlock = some w.heap.size) → K (a.put o.dst v') w') :
    if Region.wanted o (yielded ops a.tmps) = true then Oper.wp P o a w K Q else E := by
  rw [if_pos (by simp [Region.wanted, hgd])]
  obtain ⟨v', w', hrun, h2, h3, h4⟩ := run_append_sls (P := P) w (ty := o.type) ht hi hz hs hb hzs hsz hown hl hA hmc hr h1 h63 hbytes hbase
  unfold Oper.wp execOp
  simp only [ho, resolve, invoke, builtin, Sem.run_bind, Sem.run_pure, Result.andThen_ok, List.map_toArray, List.map_cons, List.map_nil, hv, hx, hrun]
  exact h v' w' h2 h3 h4
def cutB (A : Option Addr) (cap k size : Nat) : Option Addr := if cap = k then A else A.map (·.add (k * size))
theorem run_slice_fromB {P : Program} {t e : TypeId} {i : TypeInfo} {size : Nat} (ht : P.underlying t = some (.slice e)) (hi : P.info? e = some i) (hs : i.size = size) (A : Option Addr) (n cap k : Nat) (hk : k ≤ n) (w : World) :
    (Instr.slice t (.slice A n cap) (some (.int .i64 (k : Int))) none none).run P w = .ok (.slice (cutB A cap k size) (n - k) (cap - k)) w := by
  simp [Instr.slice, Instr.sliceBounds, Instr.sliceBound, run_underlying ht, sizeOf, typeInfo, hi, asIntOf, hs, cutB]
  intro h; omega
theorem Sl.fromB {w : World} {B : Nat} {A : Option Addr} {xs : List Value} (h : Sl w B A xs) {cap k size : Nat} (hcap : xs.length ≤ cap * size) : Sl w B (cutB A cap k size) (xs.drop (k * size)) := by
  rcases h with rfl | ⟨b, o, e, hB, hc⟩
  · exact .inl (by simp)
  · by_cases hk : xs.length ≤ k * size
    · exact .inl (List.drop_eq_nil_of_le hk)
    · refine .inr ⟨b, o + k * size, ?_, hB, fun i hi => ?_⟩
      · have hne : cap ≠ k := fun e => by subst e; omega
        unfold cutB
        rw [if_neg hne, e]
        simp [Addr.add_lit]
      · have : k * size + i < xs.length := by simp at hi; omega
        have := hc (k * size + i) this
        rw [Nat.add_assoc, this]; simp
theorem sl_four {w : World} {a b c d : Value} {t : TypeId} : Sl (w.alloc (.cells #[a, b, c, d] t)) (w.heap.size + 1) (some ⟨w.heap.size, 0, none⟩) [a, b, c, d] := .inr ⟨w.heap.size, 0, rfl, by omega, fun i hi => by
  have : i < 4 := hi
  have : i = 0 ∨ i = 1 ∨ i = 2 ∨ i = 3 := by omega
  rcases this with rfl | rfl | rfl | rfl <;> exact (Blk.new w t _).cell _⟩
theorem ucs_one' (a n : Nat) : ucs [(a, n, 1)] = [.int .i64 (a : Int), .int .i64 (n : Int), .int .i64 1, .bool false] := rfl

section
variable {w : World} {B gs gm gb : Nat} {F : List Bool} {now was : List Sh.U}
set_option maxRecDepth 8000 in
set_option maxHeartbeats 8000000 in
theorem sadd_any (h : SRef w B gs gm gb F now was) (hB : B ≤ w.heap.size) (a n : Int) (hok : UOk (Sh.add now a n).2) :
    Calls Try.prog 30 #[.pointer (some ⟨gs, 0, none⟩), .agg #[.int .i64 a, .int .i64 n]] w (ShR B gs gm gb F (Sh.add now a n) was w) := by
  obtain ⟨R, hR⟩ : ∃ R, R = Sh.add now a n := ⟨_, rfl⟩
  rw [← hR] at hok ⊢
  unfold Sh.add at hR
  obtain ⟨g0, hg0⟩ : ∃ g, w.heap.size = g := ⟨_, rfl⟩
  obtain ⟨W, hW⟩ : ∃ W, w.alloc (.cells #[.int .i64 a, .int .i64 n] 39) = W := ⟨_, rfl⟩
  have hal : Below w.heap.size w W := by rw [← hW]; exact (Below.refl _ _).alloc (Nat.le_refl _) _
  have bx : Blk W g0 39 #[.int .i64 a, .int .i64 n] := by rw [← hW, ← hg0]; exact Blk.new _ _ _
  have x0 : W.cell? ⟨g0, 0, none⟩ = some (.int .i64 a) := bx.cell 0
  have x1 : W.cell? ⟨g0, 1, none⟩ = some (.int .i64 n) := bx.cell 1
  have HS := Lib.hid (h.below hal)
  have HAl := Lib.hid hal
  have BX := Lib.hid bx
  have N1 := Lib.hid (sat_any HS.out a)
  clear h hal bx
  by_cases h1 : n < 1
  · rw [if_pos (.inl h1)] at hR
    subst hR
    have z1 : decide (n < 1) = true := by rw [decide_eq_true_eq]; exact h1
    clear h1 hok N1
    go_enter Try.func30, Try.ntmps30
    go_wp2_with fail
    go_ret
    exact ⟨rfl, HS.out, Chg.of_below _ HAl.out⟩
  have z1 : decide (n < 1) = false := by rw [decide_eq_false_iff_not]; exact h1
  by_cases h2 : a < 0
  · rw [if_pos (.inr (.inl h2))] at hR
    subst hR
    have z2 : decide (a < 0) = true := by rw [decide_eq_true_eq]; exact h2
    clear h1 h2 hok N1
    go_enter Try.func30, Try.ntmps30
    go_wp2_with fail
    go_ret
    exact ⟨rfl, HS.out, Chg.of_below _ HAl.out⟩
  have z2 : decide (a < 0) = false := by rw [decide_eq_false_iff_not]; exact h2
  obtain ⟨V, hV⟩ : ∃ V, V = Sh.idxV now a := ⟨_, rfl⟩
  rw [← hV] at N1 hR
  by_cases h3 : 0 ≤ V
  · rw [if_pos (.inr (.inr h3))] at hR
    subst hR
    have z3 : decide (0 ≤ V) = true := by rw [decide_eq_true_eq]; exact h3
    clear h1 h2 h3 hok hV
    go_enter Try.func30, Try.ntmps30
    go_wp2_with fail
    refine N1.out.mono ?_
    rintro e w' ⟨rfl, rfl⟩
    go_wp2_with fail
    go_ret
    exact ⟨rfl, HS.out, Chg.of_below _ HAl.out⟩
  have z3 : decide (0 ≤ V) = false := by rw [decide_eq_false_iff_not]; exact h3
  rw [if_neg (by omega)] at hR
  obtain ⟨i0, hi0, hz0, hs0, hb0⟩ := use_parts
  obtain ⟨a', rfl⟩ : ∃ m : Nat, a = (m : Int) := ⟨a.toNat, by omega⟩
  obtain ⟨n', rfl⟩ : ∃ m : Nat, n = (m : Int) := ⟨n.toNat, by omega⟩
  rw [Int.toNat_natCast, Int.toNat_natCast] at hR
  obtain ⟨v1, v2, hbk, hu1, hu2⟩ := HS.out.sh
  obtain ⟨A, c, rfl, hc, hA⟩ := ownU_slice hu1
  obtain ⟨q, hq⟩ : ∃ q, q = now.length := ⟨_, rfl⟩
  have hq5 : q ≤ 100000 := by rw [hq]; exact HS.out.ok.1
  have cn : W.cell? ⟨gs, 1, none⟩ = some (.slice A q c) := by rw [hq]; exact hbk.cell 1
  have Sl1 := Lib.hid (ownU_sl hu1)
  have HQ := Lib.hid hq
  have Hbk := Lib.hid hbk
  have Hu2 := Lib.hid hu2
  have HR := Lib.hid hR
  have HOK := Lib.hid hok
  rw [← hq] at hc
  clear hR hok hbk hu1 hu2 hq hV h1 h2 h3
  have ONil := World.ownsRow_nil W W.heap.size 80 4
  go_enter Try.func30, Try.ntmps30
  go_wp2_with fail
  refine N1.out.mono ?_
  rintro e w' ⟨rfl, rfl⟩
  go_wp2_with (at_builtin; refine wpList_append_sls (base := W.heap.size) _ rfl (.const (.slice none 0 0)) (.tmp 25) _ rfl Try.underlying73 hi0 hz0 hs0 hb0 rfl (by decide) rfl ONil (m := q) (news := ucs now) rfl (by rw [ucs_len, HQ.out]) hA hc Sl1.out (ucs_one now) (by unfold maxLen; omega) (by omega) (Nat.le_refl _) ?_; intro v8 w8 k1 k2 _; rw [Nat.zero_add, List.nil_append] at k1; obtain ⟨A8, c8, rfl⟩ := own_slice k1; have K1 := Lib.hid k1; have b8 := (Below.refl W.heap.size W).grown k2 (Nat.le_refl _) (fun g hg => by cases hg); have B8 := Lib.hid b8; clear k1 k2 b8)
  clear cn x0 x1
  go_loopw [6] (fun v6 wr => ∃ k : Nat, v6 = .int .i64 (k : Int) ∧ k ≤ q ∧ (∀ j, j < k → (Sh.at_ now j).1 < a') ∧ ∃ m, wr = w8.drewN m) (fun v6 _ => q - (intOf v6).toNat)
  case atStart => exact ⟨0, rfl, Nat.zero_le _, fun j hj => absurd hj (Nat.not_lt_zero j), 0, (drewN_zero _).symm⟩
  case round =>
    obtain ⟨k, rfl, hk, hb, m, rfl⟩ := hrel
    have O8 := Lib.hid (show OwnU w8 W.heap.size (.slice A8 q c8) now by unfold OwnU; rw [← HQ.out]; exact K1.out)
    have xa : w8.cell? ⟨g0, 0, none⟩ = some (.int .i64 (a' : Int)) := (BX.out.keep (B8.out.block g0 BX.out.lt)).cell 0
    have HB := Lib.hid hb
    clear hb
    by_cases hkq : k < q
    · have z4 : decide ((k : Int) < (q : Int)) = true := by rw [decide_eq_true_eq]; omega
      have z4' : decide (k < q) = true := by rw [decide_eq_true_eq]; exact hkq
      have zk : (0 : Int) ≤ (k : Int) ∧ (k : Int) < (q : Int) := by omega
      obtain ⟨g8, c8', hv, -, -, hcell⟩ := ownU_at O8.out (by rw [← HQ.out]; omega)
      injection hv with hA8' hw1 hw2
      subst hA8'
      obtain ⟨e1, -⟩ := hcell k (by rw [← HQ.out]; exact hkq)
      clear hw1 hw2 hcell
      obtain ⟨x, hx⟩ : ∃ x, x = (Sh.at_ now k).1 := ⟨_, rfl⟩
      rw [← hx] at e1
      by_cases hxa : x < a'
      · have z5 : decide ((x : Int) < (a' : Int)) = true := by rw [decide_eq_true_eq]; omega
        have z5' : decide (x < a') = true := by rw [decide_eq_true_eq]; exact hxa
        have Nx := Lib.hid (show ∀ j, j < k + 1 → (Sh.at_ now j).1 < a' from fun j hj => by
          rcases Nat.lt_or_ge j k with h | h
          · exact HB.out j h
          · rw [show j = k by omega, ← hx]; exact hxa)
        clear hx hxa
        go_wp2_with fail
        go_quiet (fail)
        go_wp2_with fail
        go_roundw
        case rel => exact ⟨k + 1, by go_num, by omega, Nx.out, m + nq, rfl⟩
        case measure => simp [intOf]; omega
      · have z5 : decide ((x : Int) < (a' : Int)) = false := by rw [decide_eq_false_iff_not]; omega
        have z5' : decide (x < a') = false := by rw [decide_eq_false_iff_not]; exact hxa
        have hbel := Sh.below_here (l := now) (a := a') (k := k) (by rw [← HQ.out]; exact hk) HB.out (fun _ => by rw [← hx]; exact hxa)
        clear hx hxa
        go_wp2_with fail
        go_quiet (fail)
        clear e1 xa O8
        have HQB := Lib.hid (show Sh.below now a' = k from hbel)
        clear hbel
        obtain ⟨w9, hw9⟩ : ∃ w9, (w8.drewN m).drewN nq = w9 := ⟨_, rfl⟩
        have B9 := Lib.hid (show Below W.heap.size W w9 by rw [← hw9]; exact B8.out.trans (((drewN_below m).trans ((drewN_below nq).mono (Nat.le_refl _))).mono B8.out.size))
        have O9 := Lib.hid (show World.ownsRow w9 W.heap.size 80 4 (.slice (some ⟨g8, 0, none⟩) q c8) q (ucs now) by rw [← hw9]; exact own_keep K1.out fun _ _ _ => rfl)
        rw [hw9]
        clear hw9
        have hA8 := own_none O9.out
        have hc8 := own_len O9.out
        have hk8 : k ≤ c8 := by omega
        have Lt := Lib.hid (show (ucs (now.take k)).length = k * 4 by rw [ucs_len, List.length_take, ← HQ.out]; omega)
        have Ld := Lib.hid (show (ucs (now.drop k)).length = (q - k) * 4 by rw [ucs_len, List.length_drop, ← HQ.out])
        have osl := ownU_sl (w := w9) (B := W.heap.size) (A := (some ⟨g8, 0, none⟩)) (c := c8) (l := now) (by unfold OwnU; rw [← HQ.out]; exact O9.out)
        have St := Lib.hid (fun X (hb : Below w9.heap.size w9 X) => show Sl X w9.heap.size (some ⟨g8, 0, none⟩) (ucs (now.take k)) by rw [← ucs_take]; exact (osl.below hb).to (k * 4))
        have Sd := Lib.hid (fun X (hb : Below w9.heap.size w9 X) => show Sl X w9.heap.size (cutB (some ⟨g8, 0, none⟩) c8 k 4) (ucs (now.drop k)) by rw [← ucs_drop]; exact (osl.below hb).fromB (cap := c8) (by rw [ucs_len, ← HQ.out]; omega))
        have hA9 : cutB (some ⟨g8, 0, none⟩) c8 k 4 = none → c8 - k = 0 := by
          unfold cutB
          by_cases hck : c8 = k
          · intro _; omega
          · rw [if_neg hck]
            intro hn
            have := hA8 (Option.map_eq_none_iff.1 hn)
            omega
        have hc9 : q - k ≤ c8 - k := by omega
        have cut1 : ∀ w, (Instr.slice 73 (.slice (some ⟨g8, 0, none⟩) q c8) none (some (.int .i64 (k : Int))) none).run Try.prog w = .ok (.slice (some ⟨g8, 0, none⟩) k c8) w := run_slice_to (P := Try.prog) Try.underlying73 hi0 (some ⟨g8, 0, none⟩) q c8 k hk8
        have cut2 : ∀ w, (Instr.slice 73 (.slice (some ⟨g8, 0, none⟩) q c8) (some (.int .i64 (k : Int))) none none).run Try.prog w = .ok (.slice (cutB (some ⟨g8, 0, none⟩) c8 k 4) (q - k) (c8 - k)) w := run_slice_fromB (P := Try.prog) Try.underlying73 hi0 hs0 (some ⟨g8, 0, none⟩) q c8 k hk
        have Facts := Lib.hid (fun X (hb : Below w9.heap.size w9 X) => show X.cell? ⟨gs, 1, none⟩ = some (.slice A q c) ∧ X.frozen? ⟨gs, 1, none⟩ = false ∧ X.cell? ⟨g0, 0, none⟩ = some (.int .i64 (a' : Int)) ∧ X.cell? ⟨g0, 1, none⟩ = some (.int .i64 (n' : Int)) by
          have hbX : Below W.heap.size W X := B9.out.trans (hb.mono B9.out.size)
          have b1 := Hbk.out.keep (hbX.block gs Hbk.out.lt)
          have b2 := BX.out.keep (hbX.block g0 BX.out.lt)
          exact ⟨by rw [HQ.out]; exact b1.cell 1, b1.frozen 1, b2.cell 0, b2.cell 1⟩)
        obtain ⟨x0, x1, x2, x3⟩ := Facts.out w9 (Below.refl _ _)
        clear osl K1 B8 ONil
        generalize hC : cutB (some ⟨g8, 0, none⟩) c8 k 4 = A9 at *
        have hbc := (Below.refl w9.heap.size w9).drew
        have Kp := Lib.hid (fun X (hb : Below w9.heap.size w9 X) => show X.cell? ⟨g0, 0, none⟩ = some (.int .i64 (a' : Int)) ∧ X.cell? ⟨g0, 1, none⟩ = some (.int .i64 (n' : Int)) ∧ (Instr.slice 73 (.slice (some ⟨g8, 0, none⟩) q c8) none (some (.int .i64 (k : Int))) none).run Try.prog X = .ok (.slice (some ⟨g8, 0, none⟩) k c8) X ∧ (Instr.slice 73 (.slice (some ⟨g8, 0, none⟩) q c8) (some (.int .i64 (k : Int))) none none).run Try.prog X = .ok (.slice A9 (q - k) (c8 - k)) X from ⟨(Facts.out X hb).2.2.1, (Facts.out X hb).2.2.2, cut1 X, cut2 X⟩)
        have hg0s : g0 ≠ gs := fun e => by
          have h1 := BX.out
          rw [e] at h1
          exact (h1.ne_ Hbk.out (by decide)) rfl
        have Kq := Lib.hid (fun X (v : Value) (hb : Below w9.heap.size w9 X) => show (X.setCell ⟨gs, 1, none⟩ v).cell? ⟨g0, 0, none⟩ = some (.int .i64 (a' : Int)) ∧ (X.setCell ⟨gs, 1, none⟩ v).cell? ⟨g0, 1, none⟩ = some (.int .i64 (n' : Int)) ∧ (Instr.slice 73 (.slice (some ⟨g8, 0, none⟩) q c8) none (some (.int .i64 (k : Int))) none).run Try.prog (X.setCell ⟨gs, 1, none⟩ v) = .ok (.slice (some ⟨g8, 0, none⟩) k c8) (X.setCell ⟨gs, 1, none⟩ v) ∧ (Instr.slice 73 (.slice (some ⟨g8, 0, none⟩) q c8) (some (.int .i64 (k : Int))) none none).run Try.prog (X.setCell ⟨gs, 1, none⟩ v) = .ok (.slice A9 (q - k) (c8 - k)) (X.setCell ⟨gs, 1, none⟩ v) from by
          have b2 := (BX.out.keep ((B9.out.trans (hb.mono B9.out.size)).block g0 BX.out.lt)).far (p := ⟨gs, 1, none⟩) hg0s.symm v
          exact ⟨b2.cell 0, b2.cell 1, cut1 _, cut2 _⟩)
        go_wp2_with fail
        go_region_held_law (fun X => X.cell? ⟨g0, 0, none⟩ = some (.int .i64 (a' : Int)) ∧ X.cell? ⟨g0, 1, none⟩ = some (.int .i64 (n' : Int)) ∧ (Instr.slice 73 (.slice (some ⟨g8, 0, none⟩) q c8) none (some (.int .i64 (k : Int))) none).run Try.prog X = .ok (.slice (some ⟨g8, 0, none⟩) k c8) X ∧ (Instr.slice 73 (.slice (some ⟨g8, 0, none⟩) q c8) (some (.int .i64 (k : Int))) none none).run Try.prog X = .ok (.slice A9 (q - k) (c8 - k)) X) (first | exact Kp.out _ hbc | exact Kp.out _ (hbc.alloc hbc.size _) | exact Kp.out _ ((Below.refl _ _).alloc (Nat.le_refl _) _).drew | exact ⟨x2, x3, cut1 _, cut2 _⟩ | exact Kq.out _ _ hbc) (first
          | (refine step_append_sls (base := w9.heap.size) _ rfl (.const (.slice none 0 0)) (.tmp 47) _ rfl Try.underlying73 hi0 hz0 hs0 hb0 rfl (by decide) rfl (World.ownsRow_nil _ _ _ _) (m := k) (news := ucs (now.take k)) rfl Lt.out hA8 hk8 (St.out _ hbc) (ucs_one _) (by unfold maxLen; omega) (by omega) (Below.size hbc) ?_; intro v10 w10 h1 h2 _; have hsx := trivial; have hbc := (hbc).grown h2 (Below.size hbc) (fun g hg => by cases hg); rw [Nat.zero_add, List.nil_append] at h1; obtain ⟨A10, c10, rfl⟩ := own_slice h1; have M10 := Lib.hid h1; have SX := Lib.hid hsx; clear h1 h2 hsx)
          | (refine step_append_sls (base := w9.heap.size) _ rfl (.const (.slice none 0 0)) (.tmp 47) _ rfl Try.underlying73 hi0 hz0 hs0 hb0 rfl (by decide) rfl (World.ownsRow_nil _ _ _ _) (m := k) (news := ucs (now.take k)) rfl Lt.out hA8 hk8 (St.out _ (((Below.refl w9.heap.size w9).alloc (Nat.le_refl _) _).drew)) (ucs_one _) (by unfold maxLen; omega) (by omega) (Below.size (((Below.refl w9.heap.size w9).alloc (Nat.le_refl _) _).drew)) ?_; intro v10 w10 h1 h2 _; have hsx := (show Sl w10 w10.heap.size (some ⟨w9.heap.size, 0, none⟩) (ucs [(a', n', 1)]) from ((sl_four.below (Below.refl _ _).drew).more (by simp)).below ((Below.refl _ _).grown h2 (Nat.le_refl _) (fun g hg => by cases hg)) |>.more h2.size); have hbc := ((((Below.refl w9.heap.size w9).alloc (Nat.le_refl _) _).drew)).grown h2 (Below.size (((Below.refl w9.heap.size w9).alloc (Nat.le_refl _) _).drew)) (fun g hg => by cases hg); rw [Nat.zero_add, List.nil_append] at h1; obtain ⟨A10, c10, rfl⟩ := own_slice h1; have M10 := Lib.hid h1; have SX := Lib.hid hsx; clear h1 h2 hsx)
          | (refine step_append_sls (base := w9.heap.size) _ rfl (.tmp 48) (.tmp 51) _ rfl Try.underlying73 hi0 hz0 hs0 hb0 rfl (by decide) rfl (own_keep M10.out fun b _ hlt => Below.heap_alloc _ _ b hlt) (m := 1) (news := ucs [(a', n', 1)]) rfl rfl (by simp) (Nat.le_refl _) sl_four (ucs_one _) (by unfold maxLen; omega) (by omega) (Below.size (hbc.alloc hbc.size _)) ?_; intro v11 w11 h1 h2 _; have hbc := ((hbc.alloc hbc.size _)).grown h2 (Below.size (hbc.alloc hbc.size _)) (fun g hg => (M10.out.lt g hg).1); rw [← ucs_app] at h1; obtain ⟨A11, c11, rfl⟩ := own_slice h1; have M11 := Lib.hid h1; clear h1 h2)
          | (refine step_append_sls (base := w9.heap.size) _ rfl (.tmp 48) (.tmp 51) _ rfl Try.underlying73 hi0 hz0 hs0 hb0 rfl (by decide) rfl M10.out (m := 1) (news := ucs [(a', n', 1)]) rfl rfl (by simp) (Nat.le_refl _) SX.out (ucs_one _) (by unfold maxLen; omega) (by omega) (Below.size hbc) ?_; intro v11 w11 h1 h2 _; have hbc := (hbc).grown h2 (Below.size hbc) (fun g hg => (M10.out.lt g hg).1); rw [← ucs_app] at h1; obtain ⟨A11, c11, rfl⟩ := own_slice h1; have M11 := Lib.hid h1; clear h1 h2)
          | (refine step_append_sls (base := w9.heap.size) _ rfl (.tmp 52) (.tmp 55) _ rfl Try.underlying73 hi0 hz0 hs0 hb0 rfl (by decide) rfl M11.out (m := q - k) (news := ucs (now.drop k)) rfl Ld.out hA9 hc9 (Sd.out _ hbc) (ucs_one _) (by unfold maxLen; omega) (by omega) (Below.size hbc) ?_; intro v12 w12 h1 h2 _; have hbc := hbc.grown h2 (Below.size hbc) (fun g hg => (M11.out.lt g hg).1); rw [← ucs_app] at h1; obtain ⟨A12, c12, rfl⟩ := own_slice h1; have M12 := Lib.hid h1; obtain ⟨y0, y1, y2, y3⟩ := Facts.out _ hbc; clear h1 h2))
        all_goals
          have Fin := Lib.hid (show ShR B gs gm gb F R was w (.returned (.bool true)) (w12.setCell ⟨gs, 1, none⟩ (.slice A12 (k + 1 + (q - k)) c12)) from by
            have hbW := B9.out.trans (hbc.mono B9.out.size)
            have hbw := HAl.out.trans (hbW.mono HAl.out.size)
            have bk12 := (Hbk.out.keep (hbW.block gs Hbk.out.lt)).pair (v := .slice A12 (k + 1 + (q - k)) c12)
            have ch12 : Chg (fun b => b = gs) w (w12.setCell ⟨gs, 1, none⟩ (.slice A12 (k + 1 + (q - k)) c12)) := (Chg.of_below (fun b => b = gs) hbw).setCell (p := ⟨gs, 1, none⟩) (.inl rfl) _
            have chW : Chg (fun b => b = gs) W (w12.setCell ⟨gs, 1, none⟩ (.slice A12 (k + 1 + (q - k)) c12)) := (Chg.of_below (fun b => b = gs) hbW).setCell (p := ⟨gs, 1, none⟩) (.inl rfl) _
            refine ⟨by rw [HR.out], ⟨⟨_, v2, bk12, ?_, own_keep Hu2.out fun b hb hlt => chW.block b hlt fun e => ?_⟩, HS.out.map.keep (chW.block gm HS.out.map.map.lt ?_) (chW.block gb HS.out.map.blks.lt ?_), HOK.out, HS.out.ok2⟩, ch12⟩
            · have hi : R.2 = now.take k ++ [(a', n', 1)] ++ now.drop k := by rw [HR.out]; show Sh.ins now a' n' = _; unfold Sh.ins; rw [HQB.out]
              have hl : R.2.length = k + 1 + (q - k) := by rw [hi, List.length_append, List.length_append, List.length_take, List.length_drop, List.length_singleton, ← HQ.out]; omega
              show World.ownsRow _ _ _ _ _ _ _
              rw [hl, hi]
              refine World.ownsRow_base (own_far M12.out (p := ⟨gs, 1, none⟩) (fun h => ?_) _) (b := w9.heap.size) (Nat.le_trans hB (Nat.le_trans HAl.out.size B9.out.size))
              have := (M12.out.lt gs h).1
              have := Nat.lt_of_lt_of_le Hbk.out.lt B9.out.size
              omega
            · subst e
              obtain ⟨cur, hcur⟩ : ∃ cur, Blk W b 80 cur := by
                rcases Hu2.out.2 with ⟨h', _⟩ | ⟨g2, cap, cur, h', _, hg2, _⟩
                · subst h'; cases hb
                · subst h'; injection hb with hb; subst hb; exact ⟨cur, hg2⟩
              exact Hbk.out.ne_ hcur (by decide) rfl
            · exact HS.out.map.map.ne_ Hbk.out (by decide)
            · exact HS.out.map.blks.ne_ Hbk.out (by decide))
          clear y0 y1 y2 y3 hbc M12 M11 M10 SX
          generalize w12.setCell ⟨gs, 1, none⟩ (.slice A12 (k + 1 + (q - k)) c12) = w13 at *
          go_wp2_with fail
          go_ret
          exact Fin.out
    · have hkq' : k = q := by omega
      have z4 : decide ((k : Int) < (q : Int)) = false := by rw [decide_eq_false_iff_not]; omega
      have z4' : decide (k < q) = false := by rw [decide_eq_false_iff_not]; exact hkq
      have hbel := Sh.below_here (l := now) (a := a') (k := k) (by rw [← HQ.out]; exact hk) HB.out (fun h => absurd h (by rw [← HQ.out]; exact hkq))
      clear xa O8 hkq'
      go_wp2_with fail
      go_quiet (fail)
      have HQB := Lib.hid (show Sh.below now a' = k from hbel)
      clear hbel
      obtain ⟨w9, hw9⟩ : ∃ w9, (w8.drewN m).drewN nq = w9 := ⟨_, rfl⟩
      have B9 := Lib.hid (show Below W.heap.size W w9 by rw [← hw9]; exact B8.out.trans (((drewN_below m).trans ((drewN_below nq).mono (Nat.le_refl _))).mono B8.out.size))
      have O9 := Lib.hid (show World.ownsRow w9 W.heap.size 80 4 (.slice A8 q c8) q (ucs now) by rw [← hw9]; exact own_keep K1.out fun _ _ _ => rfl)
      rw [hw9]
      clear hw9
      have hA8 := own_none O9.out
      have hc8 := own_len O9.out
      have hk8 : k ≤ c8 := by omega
      have Lt := Lib.hid (show (ucs (now.take k)).length = k * 4 by rw [ucs_len, List.length_take, ← HQ.out]; omega)
      have Ld := Lib.hid (show (ucs (now.drop k)).length = (q - k) * 4 by rw [ucs_len, List.length_drop, ← HQ.out])
      have osl := ownU_sl (w := w9) (B := W.heap.size) (A := A8) (c := c8) (l := now) (by unfold OwnU; rw [← HQ.out]; exact O9.out)
      have St := Lib.hid (fun X (hb : Below w9.heap.size w9 X) => show Sl X w9.heap.size A8 (ucs (now.take k)) by rw [← ucs_take]; exact (osl.below hb).to (k * 4))
      have Sd := Lib.hid (fun X (hb : Below w9.heap.size w9 X) => show Sl X w9.heap.size (cutB A8 c8 k 4) (ucs (now.drop k)) by rw [← ucs_drop]; exact (osl.below hb).fromB (cap := c8) (by rw [ucs_len, ← HQ.out]; omega))
      have hA9 : cutB A8 c8 k 4 = none → c8 - k = 0 := by
        unfold cutB
        by_cases hck : c8 = k
        · intro _; omega
        · rw [if_neg hck]
          intro hn
          have := hA8 (Option.map_eq_none_iff.1 hn)
          omega
      have hc9 : q - k ≤ c8 - k := by omega
      have cut1 : ∀ w, (Instr.slice 73 (.slice A8 q c8) none (some (.int .i64 (k : Int))) none).run Try.prog w = .ok (.slice A8 k c8) w := run_slice_to (P := Try.prog) Try.underlying73 hi0 A8 q c8 k hk8
      have cut2 : ∀ w, (Instr.slice 73 (.slice A8 q c8) (some (.int .i64 (k : Int))) none none).run Try.prog w = .ok (.slice (cutB A8 c8 k 4) (q - k) (c8 - k)) w := run_slice_fromB (P := Try.prog) Try.underlying73 hi0 hs0 A8 q c8 k hk
      have Facts := Lib.hid (fun X (hb : Below w9.heap.size w9 X) => show X.cell? ⟨gs, 1, none⟩ = some (.slice A q c) ∧ X.frozen? ⟨gs, 1, none⟩ = false ∧ X.cell? ⟨g0, 0, none⟩ = some (.int .i64 (a' : Int)) ∧ X.cell? ⟨g0, 1, none⟩ = some (.int .i64 (n' : Int)) by
        have hbX : Below W.heap.size W X := B9.out.trans (hb.mono B9.out.size)
        have b1 := Hbk.out.keep (hbX.block gs Hbk.out.lt)
        have b2 := BX.out.keep (hbX.block g0 BX.out.lt)
        exact ⟨by rw [HQ.out]; exact b1.cell 1, b1.frozen 1, b2.cell 0, b2.cell 1⟩)
      obtain ⟨x0, x1, x2, x3⟩ := Facts.out w9 (Below.refl _ _)
      clear osl K1 B8 ONil
      generalize hC : cutB A8 c8 k 4 = A9 at *
      have hbc := (Below.refl w9.heap.size w9).drew
      have Kp := Lib.hid (fun X (hb : Below w9.heap.size w9 X) => show X.cell? ⟨g0, 0, none⟩ = some (.int .i64 (a' : Int)) ∧ X.cell? ⟨g0, 1, none⟩ = some (.int .i64 (n' : Int)) ∧ (Instr.slice 73 (.slice A8 q c8) none (some (.int .i64 (k : Int))) none).run Try.prog X = .ok (.slice A8 k c8) X ∧ (Instr.slice 73 (.slice A8 q c8) (some (.int .i64 (k : Int))) none none).run Try.prog X = .ok (.slice A9 (q - k) (c8 - k)) X from ⟨(Facts.out X hb).2.2.1, (Facts.out X hb).2.2.2, cut1 X, cut2 X⟩)
      have hg0s : g0 ≠ gs := fun e => by
        have h1 := BX.out
        rw [e] at h1
        exact (h1.ne_ Hbk.out (by decide)) rfl
      have Kq := Lib.hid (fun X (v : Value) (hb : Below w9.heap.size w9 X) => show (X.setCell ⟨gs, 1, none⟩ v).cell? ⟨g0, 0, none⟩ = some (.int .i64 (a' : Int)) ∧ (X.setCell ⟨gs, 1, none⟩ v).cell? ⟨g0, 1, none⟩ = some (.int .i64 (n' : Int)) ∧ (Instr.slice 73 (.slice A8 q c8) none (some (.int .i64 (k : Int))) none).run Try.prog (X.setCell ⟨gs, 1, none⟩ v) = .ok (.slice A8 k c8) (X.setCell ⟨gs, 1, none⟩ v) ∧ (Instr.slice 73 (.slice A8 q c8) (some (.int .i64 (k : Int))) none none).run Try.prog (X.setCell ⟨gs, 1, none⟩ v) = .ok (.slice A9 (q - k) (c8 - k)) (X.setCell ⟨gs, 1, none⟩ v) from by
        have b2 := (BX.out.keep ((B9.out.trans (hb.mono B9.out.size)).block g0 BX.out.lt)).far (p := ⟨gs, 1, none⟩) hg0s.symm v
        exact ⟨b2.cell 0, b2.cell 1, cut1 _, cut2 _⟩)
      go_wp2_with fail
      go_region_held_law (fun X => X.cell? ⟨g0, 0, none⟩ = some (.int .i64 (a' : Int)) ∧ X.cell? ⟨g0, 1, none⟩ = some (.int .i64 (n' : Int)) ∧ (Instr.slice 73 (.slice A8 q c8) none (some (.int .i64 (k : Int))) none).run Try.prog X = .ok (.slice A8 k c8) X ∧ (Instr.slice 73 (.slice A8 q c8) (some (.int .i64 (k : Int))) none none).run Try.prog X = .ok (.slice A9 (q - k) (c8 - k)) X) (first | exact Kp.out _ hbc | exact Kp.out _ (hbc.alloc hbc.size _) | exact Kp.out _ ((Below.refl _ _).alloc (Nat.le_refl _) _).drew | exact ⟨x2, x3, cut1 _, cut2 _⟩ | exact Kq.out _ _ hbc) (first
        | (refine step_append_sls (base := w9.heap.size) _ rfl (.const (.slice none 0 0)) (.tmp 47) _ rfl Try.underlying73 hi0 hz0 hs0 hb0 rfl (by decide) rfl (World.ownsRow_nil _ _ _ _) (m := k) (news := ucs (now.take k)) rfl Lt.out hA8 hk8 (St.out _ hbc) (ucs_one _) (by unfold maxLen; omega) (by omega) (Below.size hbc) ?_; intro v10 w10 h1 h2 _; have hsx := trivial; have hbc := (hbc).grown h2 (Below.size hbc) (fun g hg => by cases hg); rw [Nat.zero_add, List.nil_append] at h1; obtain ⟨A10, c10, rfl⟩ := own_slice h1; have M10 := Lib.hid h1; have SX := Lib.hid hsx; clear h1 h2 hsx)
        | (refine step_append_sls (base := w9.heap.size) _ rfl (.const (.slice none 0 0)) (.tmp 47) _ rfl Try.underlying73 hi0 hz0 hs0 hb0 rfl (by decide) rfl (World.ownsRow_nil _ _ _ _) (m := k) (news := ucs (now.take k)) rfl Lt.out hA8 hk8 (St.out _ (((Below.refl w9.heap.size w9).alloc (Nat.le_refl _) _).drew)) (ucs_one _) (by unfold maxLen; omega) (by omega) (Below.size (((Below.refl w9.heap.size w9).alloc (Nat.le_refl _) _).drew)) ?_; intro v10 w10 h1 h2 _; have hsx := (show Sl w10 w10.heap.size (some ⟨w9.heap.size, 0, none⟩) (ucs [(a', n', 1)]) from ((sl_four.below (Below.refl _ _).drew).more (by simp)).below ((Below.refl _ _).grown h2 (Nat.le_refl _) (fun g hg => by cases hg)) |>.more h2.size); have hbc := ((((Below.refl w9.heap.size w9).alloc (Nat.le_refl _) _).drew)).grown h2 (Below.size (((Below.refl w9.heap.size w9).alloc (Nat.le_refl _) _).drew)) (fun g hg => by cases hg); rw [Nat.zero_add, List.nil_append] at h1; obtain ⟨A10, c10, rfl⟩ := own_slice h1; have M10 := Lib.hid h1; have SX := Lib.hid hsx; clear h1 h2 hsx)
        | (refine step_append_sls (base := w9.heap.size) _ rfl (.tmp 48) (.tmp 51) _ rfl Try.underlying73 hi0 hz0 hs0 hb0 rfl (by decide) rfl (own_keep M10.out fun b _ hlt => Below.heap_alloc _ _ b hlt) (m := 1) (news := ucs [(a', n', 1)]) rfl rfl (by simp) (Nat.le_refl _) sl_four (ucs_one _) (by unfold maxLen; omega) (by omega) (Below.size (hbc.alloc hbc.size _)) ?_; intro v11 w11 h1 h2 _; have hbc := ((hbc.alloc hbc.size _)).grown h2 (Below.size (hbc.alloc hbc.size _)) (fun g hg => (M10.out.lt g hg).1); rw [← ucs_app] at h1; obtain ⟨A11, c11, rfl⟩ := own_slice h1; have M11 := Lib.hid h1; clear h1 h2)
        | (refine step_append_sls (base := w9.heap.size) _ rfl (.tmp 48) (.tmp 51) _ rfl Try.underlying73 hi0 hz0 hs0 hb0 rfl (by decide) rfl M10.out (m := 1) (news := ucs [(a', n', 1)]) rfl rfl (by simp) (Nat.le_refl _) SX.out (ucs_one _) (by unfold maxLen; omega) (by omega) (Below.size hbc) ?_; intro v11 w11 h1 h2 _; have hbc := (hbc).grown h2 (Below.size hbc) (fun g hg => (M10.out.lt g hg).1); rw [← ucs_app] at h1; obtain ⟨A11, c11, rfl⟩ := own_slice h1; have M11 := Lib.hid h1; clear h1 h2)
        | (refine step_append_sls (base := w9.heap.size) _ rfl (.tmp 52) (.tmp 55) _ rfl Try.underlying73 hi0 hz0 hs0 hb0 rfl (by decide) rfl M11.out (m := q - k) (news := ucs (now.drop k)) rfl Ld.out hA9 hc9 (Sd.out _ hbc) (ucs_one _) (by unfold maxLen; omega) (by omega) (Below.size hbc) ?_; intro v12 w12 h1 h2 _; have hbc := hbc.grown h2 (Below.size hbc) (fun g hg => (M11.out.lt g hg).1); rw [← ucs_app] at h1; obtain ⟨A12, c12, rfl⟩ := own_slice h1; have M12 := Lib.hid h1; obtain ⟨y0, y1, y2, y3⟩ := Facts.out _ hbc; clear h1 h2))
      all_goals
        have Fin := Lib.hid (show ShR B gs gm gb F R was w (.returned (.bool true)) (w12.setCell ⟨gs, 1, none⟩ (.slice A12 (k + 1 + (q - k)) c12)) from by
          have hbW := B9.out.trans (hbc.mono B9.out.size)
          have hbw := HAl.out.trans (hbW.mono HAl.out.size)
          have bk12 := (Hbk.out.keep (hbW.block gs Hbk.out.lt)).pair (v := .slice A12 (k + 1 + (q - k)) c12)
          have ch12 : Chg (fun b => b = gs) w (w12.setCell ⟨gs, 1, none⟩ (.slice A12 (k + 1 + (q - k)) c12)) := (Chg.of_below (fun b => b = gs) hbw).setCell (p := ⟨gs, 1, none⟩) (.inl rfl) _
          have chW : Chg (fun b => b = gs) W (w12.setCell ⟨gs, 1, none⟩ (.slice A12 (k + 1 + (q - k)) c12)) := (Chg.of_below (fun b => b = gs) hbW).setCell (p := ⟨gs, 1, none⟩) (.inl rfl) _
          refine ⟨by rw [HR.out], ⟨⟨_, v2, bk12, ?_, own_keep Hu2.out fun b hb hlt => chW.block b hlt fun e => ?_⟩, HS.out.map.keep (chW.block gm HS.out.map.map.lt ?_) (chW.block gb HS.out.map.blks.lt ?_), HOK.out, HS.out.ok2⟩, ch12⟩
          · have hi : R.2 = now.take k ++ [(a', n', 1)] ++ now.drop k := by rw [HR.out]; show Sh.ins now a' n' = _; unfold Sh.ins; rw [HQB.out]
            have hl : R.2.length = k + 1 + (q - k) := by rw [hi, List.length_append, List.length_append, List.length_take, List.length_drop, List.length_singleton, ← HQ.out]; omega
            show World.ownsRow _ _ _ _ _ _ _
            rw [hl, hi]
            refine World.ownsRow_base (own_far M12.out (p := ⟨gs, 1, none⟩) (fun h => ?_) _) (b := w9.heap.size) (Nat.le_trans hB (Nat.le_trans HAl.out.size B9.out.size))
            have := (M12.out.lt gs h).1
            have := Nat.lt_of_lt_of_le Hbk.out.lt B9.out.size
            omega
          · subst e
            obtain ⟨cur, hcur⟩ : ∃ cur, Blk W b 80 cur := by
              rcases Hu2.out.2 with ⟨h', _⟩ | ⟨g2, cap, cur, h', _, hg2, _⟩
              · subst h'; cases hb
              · subst h'; injection hb with hb; subst hb; exact ⟨cur, hg2⟩
            exact Hbk.out.ne_ hcur (by decide) rfl
          · exact HS.out.map.map.ne_ Hbk.out (by decide)
          · exact HS.out.map.blks.ne_ Hbk.out (by decide))
        clear y0 y1 y2 y3 hbc M12 M11 M10 SX
        generalize w12.setCell ⟨gs, 1, none⟩ (.slice A12 (k + 1 + (q - k)) c12) = w13 at *
        go_wp2_with fail
        go_ret
        exact Fin.out
end
end Go.Proofs.Ytfiafgmlbejboaa
