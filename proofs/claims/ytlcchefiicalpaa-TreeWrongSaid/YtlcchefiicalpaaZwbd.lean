/- The program's pieces. The program's split. The program's slices.Grow of nothing, slices.Concat of two slices. Pieces, split, fit and join, plain: heights stay right, lists stay no longer than what they hold. -/
import Derived.Test.YtlcchefiicalpaaZwba
import Derived.Test.YtlcchefiicalpaaZwbc
import Derived.Test.YtlcchefiicalpaaZwe
namespace Go.Proofs.Ytlcchefiicalpaa
open Go.RowKit
/-- Slices of slices, of wide elements. -/
theorem Sl.fromW {w : World} {B : Nat} {A : Option Addr} {xs : List Value} (h : Sl w B A xs) {cap k size : Nat} (hcap : xs.length ≤ cap * size) : Sl w B (cutW A cap k size) (xs.drop (k * size)) := by
  unfold cutW
  rcases h with rfl | ⟨b, o, rfl, hb, hc⟩
  · left; simp
  · by_cases he : cap = k
    · subst he
      left
      exact List.drop_eq_nil_of_le hcap
    · rw [if_neg he]
      right
      refine ⟨b, o + k * size, by rw [Option.map_some, Addr.add_lit], hb, fun i hi => ?_⟩
      rw [List.length_drop] at hi
      rw [Nat.add_assoc, hc (k * size + i) (by omega), List.getElem_drop]
theorem slC_sub {w : World} {B : Nat} {A : Option Addr} {c n : Nat} {cs : List Tr.PC} (h : SlC w B A c n (pcs cs)) (hn : cs.length = n) {i j : Nat} (hij : i ≤ j) (hj : j ≤ n) : SlC w B (cutW A c i 14) (c - i) (j - i) (pcs ((cs.drop i).take (j - i))) := by
  refine ⟨by have := h.le; omega, fun e => ?_, ?_⟩
  · unfold cutW at e
    split at e
    · omega
    · cases A with
      | none => have := h.nil rfl; omega
      | some a => cases e
  · rw [pcs_take, pcs_drop]
    have h1 := h.sl.fromW (cap := c) (k := i) (size := 14) (by rw [pcs_len, hn]; exact Nat.mul_le_mul_right _ h.le)
    exact h1.to _
theorem PL.sub {w : World} {h : Nat} {l : List (Tr.Pt h)} {A : Option Addr} {c : Nat} (hl : PL w h l A c) {i j : Nat} (hij : i ≤ j) (hj : j ≤ l.length) : PL w h ((l.drop i).take (j - i)) (cutW A c i 14) (c - i) := by
  obtain ⟨cs, h1, h2⟩ := hl
  refine ⟨(cs.drop i).take (j - i), ?_, h2.sub i (j - i)⟩
  have := slC_sub h1 h2.1 hij hj
  have e : ((l.drop i).take (j - i)).length = j - i := by rw [List.length_take, List.length_drop]; omega
  rw [e]
  exact this
/-- The k-th of c pieces of n. -/
def lo (n c i : Nat) : Nat := i * n / c
theorem lo_le {n c i : Nat} (hi : i ≤ c) (hc : 0 < c) : lo n c i ≤ n := by
  unfold lo
  rw [Nat.div_le_iff_le_mul_add_pred hc]
  have := Nat.mul_le_mul_right n hi
  omega
theorem lo_mono {n c i : Nat} : lo n c i ≤ lo n c (i + 1) := by
  unfold lo
  exact Nat.div_le_div_right (Nat.mul_le_mul_right n (by omega))
def cut1 {h : Nat} (l : List (Tr.Pt h)) (c i : Nat) : List (Tr.Pt h) := (l.drop (lo l.length c i)).take (lo l.length c (i + 1) - lo l.length c i)
theorem pieces_is {h : Nat} (l : List (Tr.Pt h)) : Tr.pieces l = (List.range ((l.length + 7) / 8)).map fun i => Tr.frs (cut1 l ((l.length + 7) / 8) i) := rfl
theorem sl_14 {w : World} {x : Tr.PC} {t : TypeId} : Sl (w.alloc (.cells #[.int .i64 x.k, .int .i64 x.e.k, .int .i64 x.e.p.1, .int .i64 x.e.p.2.1, .int .i64 x.e.p.2.2, .int .i64 x.e.g, .int .i64 x.b.k.1, .int .i64 x.b.k.2.1, .int .i64 x.b.k.2.2, .int .i64 x.b.h, .int .i64 x.b.f, .int .i64 x.b.t, .bool x.fr, .slice x.A x.n x.c] t)) (w.heap.size + 1) (some ⟨w.heap.size, 0, none⟩) (pcs [x]) := .inr ⟨w.heap.size, 0, rfl, by omega, fun i hi => by
  have hi : i < 14 := hi
  rw [Nat.zero_add]
  exact ((Blk.new w t _).cell i).trans (by rw [← List.getElem?_eq_getElem]; show (pcs [x]).toArray[i]? = _; simp)⟩
theorem undrew {B : Nat} {w w' : World} (h : Below B w.drew w') : Below B w w' := ⟨h.os, h.tape, h.output, h.size, h.block⟩
theorem pq_own {X : Nat → Prop} {w : World} {B h n : Nat} {l : List (Tr.Pt h)} {v : Value} {cs : List Tr.PC} (hn : l.length = n) (hp : PQ X w B h l v cs) : w.ownsRow B 160 14 v n (pcs cs) := hn ▸ hp.own
theorem take_next_map {α : Type} {k i : Nat} (f : Nat → α) (h : i < k) : ((List.range k).map f).take (i + 1) = ((List.range k).map f).take i ++ [f i] := by
  rw [← List.map_take, ← List.map_take, List.take_range, List.take_range, Nat.min_eq_left h, Nat.min_eq_left (Nat.le_of_lt h), List.range_succ, List.map_append]
  rfl
/-- One part more, behind an append: what the part says was there ahead. -/
theorem pq_next {X : Nat → Prop} {w w6 w7 : World} {h n : Nat} {l l' : List (Tr.Pt h)} {p : Tr.Pt h} {v v' : Value} {cs : List Tr.PC} {x : Tr.PC} (hl : l' = l ++ [p]) (hn : l.length = n) (hX : ∀ b, X b → b < w.heap.size) (hp : PQ X w6 w.heap.size h l v cs) (hB : Below w.heap.size w w6) (hx : Fast X w fun u => PR u h p x)
    (o : w7.ownsRow w.heap.size 160 14 v' (n + 1) (pcs cs ++ pcs [x])) (g : w6.grownBy w7 v.ownBlock) (hb : v'.ownBlock = v.ownBlock ∨ v'.ownBlock = some w6.heap.size) : PQ X w7 w.heap.size h l' v' (cs ++ [x]) ∧ Below w.heap.size w w7 := by
  subst hl
  subst hn
  refine ⟨hp.push (m := [p]) (ds := [x]) (fun b h => Nat.lt_of_lt_of_le (hX b h) hB.size) (((hx.new (.of_below X hB) (G := fun b => v.ownBlock = some b) fun b hb => (hp.own.lt b hb).1)).mono fun u h => .one h) o g hb, hB.grown g hB.size fun b hb => (hp.own.lt b hb).1⟩
set_option maxRecDepth 8000 in
set_option maxHeartbeats 8000000 in
theorem pieces_any {w : World} {X : Nat → Prop} {h : Nat} {l : List (Tr.Pt h)} {A : Option Addr} {c : Nat} (hX : ∀ b, X b → b < w.heap.size) (hl : PLX X w h l A c) (few : l.length ≤ 1000000) :
    Calls Try.prog 84 #[.slice A l.length c] w fun e w' => Below w.heap.size w w' ∧ ∃ A' c', e = .returned (.slice A' (Tr.pieces l).length c') ∧ PLX X w' (h + 1) (Tr.pieces l) A' c' := by
  obtain ⟨i0, hi0, hz0, hs0, hb0'⟩ := part_parts
  obtain ⟨n, hn⟩ : ∃ n, l.length = n := ⟨_, rfl⟩
  obtain ⟨k, hk⟩ : ∃ k, (n + 7) / 8 = k := ⟨_, rfl⟩
  have HP := Lib.hid (show Tr.pieces l = (List.range k).map fun i => Tr.frs (cut1 l k i) by rw [pieces_is, hn, hk])
  have Hn := Lib.hid hn
  have HL := Lib.hid hl
  have HX := Lib.hid hX
  have z0 : wrap64 ((n : Int) + 8) = (n : Int) + 8 := by simp only [wrap64]; omega
  have z3 : ((n : Int) + 8 - 1) / 8 = (k : Int) := by omega
  rw [hn] at few ⊢
  clear hn hl hX
  go_enter Try.func84, Try.ntmps84
  go_wp2_with fail
  rw [z3]
  clear z3
  go_loopw [12, 4] (fun v12 v4 wr => ∃ (i : Nat) (cs : List Tr.PC), v12 = .int .i64 (i : Int) ∧ i ≤ k ∧ PQ X wr w.heap.size (h + 1) ((Tr.pieces l).take i) v4 cs ∧ Below w.heap.size w wr) (fun v12 _ _ => k - (intOf v12).toNat)
  case atStart => exact ⟨0, [], rfl, Nat.zero_le _, PQ.nil _ _ _ _, Below.refl _ _⟩
  case round =>
    obtain ⟨i, cs, rfl, hi, hO, hB⟩ := hrel
    have hlen : ((Tr.pieces l).take i).length = i := by rw [HP.out, List.length_take, List.length_map, List.length_range, Nat.min_eq_left hi]
    obtain ⟨O, co, rfl⟩ : ∃ A' c', u4 = .slice A' i c' := by
      obtain ⟨A', c', e⟩ := hO.form
      exact ⟨A', c', by rw [e, hlen]⟩
    have Hlen := Lib.hid hlen
    clear hlen
    have HO := Lib.hid hO
    have HB := Lib.hid hB
    by_cases hik : i < k
    · have y0 : decide ((i : Int) < (k : Int)) = true := by rw [decide_eq_true_eq]; omega
      have y0' : decide (i < k) = true := by rw [decide_eq_true_eq]; exact hik
      obtain ⟨m1, hm1⟩ : ∃ m, i * n = m := ⟨_, rfl⟩
      obtain ⟨m2, hm2⟩ : ∃ m, (i + 1) * n = m := ⟨_, rfl⟩
      have b1 : m1 ≤ 1000000000000 := by rw [← hm1]; exact Nat.le_trans (Nat.mul_le_mul (by omega : i ≤ 1000000) few) (by decide)
      have b2 : m2 ≤ 1000000000000 := by rw [← hm2]; exact Nat.le_trans (Nat.mul_le_mul (by omega : i + 1 ≤ 1000000) few) (by decide)
      obtain ⟨a, ha⟩ : ∃ a, m1 / k = a := ⟨_, rfl⟩
      obtain ⟨b, hb⟩ : ∃ b, m2 / k = b := ⟨_, rfl⟩
      have La := Lib.hid (show lo n k i = a by unfold lo; rw [hm1, ha])
      have Lb := Lib.hid (show lo n k (i + 1) = b by unfold lo; rw [hm2, hb])
      have hi1 : i + 1 ≤ k := hik
      have hk0 : 0 < k := Nat.lt_of_le_of_lt (Nat.zero_le _) hik
      have hab : a ≤ b := La.out ▸ Lb.out ▸ lo_mono
      have hbn : b ≤ n := Lb.out ▸ lo_le hi1 hk0
      have hcn : n ≤ c := by obtain ⟨cs, hc, -⟩ := HL.out.now; exact Hn.out ▸ hc.le
      have e5 : ((k : Int) == 0) = false := by rw [beq_eq_false_iff_ne]; omega
      have e6 : IntKind.i64.wrap ((i : Int) + 1) = (i : Int) + 1 := by rw [IntKind.wrap_i64]; omega
      have e1 : IntKind.i64.wrap ((i : Int) * (n : Int)) = (m1 : Int) := by rw [show (i : Int) * (n : Int) = (m1 : Int) by rw [← hm1]; simp, IntKind.wrap_i64]; omega
      have e2 : IntKind.i64.wrap (((i : Int) + 1) * (n : Int)) = (m2 : Int) := by rw [show ((i : Int) + 1) * (n : Int) = (m2 : Int) by rw [← hm2]; simp, IntKind.wrap_i64]; omega
      have e3 : Int.tdiv (m1 : Int) (k : Int) = (a : Int) := by rw [← ha]; simp [Int.tdiv]
      have e4 : Int.tdiv (m2 : Int) (k : Int) = (b : Int) := by rw [← hb]; simp [Int.tdiv]
      have a0 : (0 : Int) ≤ (a : Int) := by omega
      have a1 : (a : Int) ≤ (b : Int) := by omega
      have a2 : (b : Int) ≤ (c : Int) := by omega
      have e7 : IntKind.i64.wrap (a : Int) = (a : Int) := by rw [IntKind.wrap_i64]; omega
      have e8 : IntKind.i64.wrap (b : Int) = (b : Int) := by rw [IntKind.wrap_i64]; omega
      have sl := run_midW (P := Try.prog) Try.underlying158 hi0 hs0 A n c a b hab (Nat.le_trans hbn hcn)
      have PS := Lib.hid (show PLX X wr h (cut1 l k i) (cutW A c a 14) (c - a) ∧ (cut1 l k i).length = b - a from by
        refine ⟨fun u q => ?_, ?_⟩
        · have := (HL.out u ((Stp.of_below X HB.out).on q)).sub hab (by rw [Hn.out]; exact hbn)
          unfold cut1
          rw [Hn.out, La.out, Lb.out]
          exact this
        · unfold cut1
          rw [Hn.out, La.out, Lb.out, List.length_take, List.length_drop, Hn.out]; omega)
      have HFr : Calls Try.prog 89 #[.slice (cutW A c a 14) (b - a) (c - a)] wr.drew _ := PS.out.2 ▸ fresh_any (PS.out.1 wr.drew (Chg.refl _ _).drew)
      obtain ⟨K, hK⟩ : ∃ K, K = Tr.keyP (h + 1) (Tr.frs (cut1 l k i)) := ⟨_, rfl⟩
      rw [← hK] at HFr
      dsimp only [pcv, Tr.z, Tr.bz] at HFr
      have HKk := Lib.hid hK
      have Oz := Lib.hid (show ∀ w6 : World, Below wr.drew.heap.size wr.drew w6 → ∀ o, PQ X (w6.alloc o) w.heap.size (h + 1) ((Tr.pieces l).take i) (.slice O i co) cs ∧ Below w.heap.size w (w6.alloc o) from fun w6 h6 o => by
        have hq : Below wr.heap.size wr (w6.alloc o) := (undrew h6).trans ((below_alloc1 w6 o).mono h6.size)
        exact ⟨HO.out.below hq, HB.out.trans (hq.mono HB.out.size)⟩)
      have PF := Lib.hid (show Fast X w fun u => PR u (h + 1) (Tr.frs (cut1 l k i)) ⟨K, Tr.z, Tr.bz, true, cutW A c a 14, b - a, c - a⟩ from fun u q => by
        have := (HL.out u q).sub hab (by rw [Hn.out]; exact hbn)
        have e : cut1 l k i = (l.drop a).take (b - a) := by unfold cut1; rw [Hn.out, La.out, Lb.out]
        rw [← e] at this
        have := PR.fresh this
        rw [PS.out.2, ← hK] at this
        exact this)
      have Nx := Lib.hid (show (Tr.pieces l).take (i + 1) = (Tr.pieces l).take i ++ [Tr.frs (cut1 l k i)] by
        rw [HP.out]
        exact take_next_map _ hik)
      have Hik := Lib.hid hik
      have Wi := Lib.hid (show wrap64 ((i : Int) + 1) = (i : Int) + 1 by simp only [wrap64]; omega)
      clear hO hB hm1 hm2 ha hb hK hik
      go_wp2_with fail
      go_region_held_law (fun _ => True) (trivial) (first
        | (go_at_call 89; (with_reducible refine HFr.mono ?_); rintro e w6 ⟨rfl, hb6⟩; (have HB6 := Lib.hid (Oz.out w6 hb6)); clear hb6)
        | (refine step_append3 (base := w.heap.size) _ rfl (.tmp 15) (.tmp 32) _ rfl Try.underlying158 hi0 hz0 hs0 hb0' rfl (by decide) rfl (pq_own Hlen.out (HB6.out _).1) (m := 1) (news := pcs [⟨K, Tr.z, Tr.bz, true, cutW A c a 14, b - a, c - a⟩]) rfl rfl (by simp) (Nat.le_refl _) sl_14 (pcs_one _) (by unfold maxLen; omega) (by omega) (HB6.out _).2.size ?_; intro v7 w7 h1 h2 h3; (obtain ⟨A7, c7, rfl⟩ := own_slice h1); (have N7 := Lib.hid (show PQ X w7 w.heap.size (h + 1) ((Tr.pieces l).take (i + 1)) (.slice A7 (i + 1) c7) (cs ++ [⟨K, Tr.z, Tr.bz, true, cutW A c a 14, b - a, c - a⟩]) ∧ Below w.heap.size w w7 from pq_next Nx.out Hlen.out HX.out (HB6.out _).1 (HB6.out _).2 PF.out h1 h2 h3)); clear h1 h2 h3))
      all_goals
        (try simp only [List.getElem_toArray, List.getElem_cons_succ, List.getElem_cons_zero])
        go_wp2_with fail
        go_roundw
        case rel => exact ⟨i + 1, _, by go_num, Hik.out, N7.out.1, N7.out.2⟩
        case measure => exact meas_up Hik.out
    · obtain rfl : i = k := by omega
      have y0 : decide ((i : Int) < (i : Int)) = false := by rw [decide_eq_false_iff_not]; omega
      clear hik hi
      go_wp2_with fail
      go_ret
      refine ⟨HB.out, O, co, ?_, ?_⟩
      · rw [HP.out, List.length_map, List.length_range]; rfl
      · have e : (Tr.pieces l).take i = Tr.pieces l := List.take_of_length_le (by rw [HP.out, List.length_map, List.length_range]; exact Nat.le_refl _)
        have := HO.out.plx
        rwa [e] at this
end Go.Proofs.Ytlcchefiicalpaa
namespace Go.Proofs.Ytlcchefiicalpaa
open Go.RowKit
theorem part_isrow : (TypeDesc.isRow <$> (Try.prog.underlying 160)) = some true := by kernel_rfl
theorem part_row : ∃ d, Try.prog.underlying 160 = some d ∧ d.isRow = true := by
  obtain ⟨d, h1, h2⟩ := Option.map_eq_some_iff.1 part_isrow
  exact ⟨d, h1, h2⟩
theorem sl_14' {w : World} {o : Obj} (x : Tr.PC) {t : TypeId} : Sl ((w.alloc o).alloc (.cells #[.int .i64 x.k, .int .i64 x.e.k, .int .i64 x.e.p.1, .int .i64 x.e.p.2.1, .int .i64 x.e.p.2.2, .int .i64 x.e.g, .int .i64 x.b.k.1, .int .i64 x.b.k.2.1, .int .i64 x.b.k.2.2, .int .i64 x.b.h, .int .i64 x.b.f, .int .i64 x.b.t, .bool x.fr, .slice x.A x.n x.c] t)) (w.heap.size + 1 + 1) (some ⟨w.heap.size + 1, 0, none⟩) (pcs [x]) := by
  have := sl_14 (w := w.alloc o) (x := x) (t := t)
  rw [World.size_alloc] at this
  exact this
theorem split_next {h : Nat} {l : List (Tr.Pt (h + 1))} {i : Nat} {p : Tr.Pt (h + 1)} (hp : l[i]? = some p) : Tr.split (l.take (i + 1)) = Tr.split (l.take i) ++ Tr.split [p] := by
  have hi : i < l.length := (List.getElem?_eq_some_iff.1 hp).1
  have e : l.take (i + 1) = l.take i ++ [p] := by
    rw [List.take_add_one, hp]; rfl
  rw [e]
  unfold Tr.split
  rw [List.flatMap_append]
theorem split_old {h : Nat} (b : Tr.Br) : Tr.split [Tr.old (h := h) b] = [Tr.old b] := rfl
theorem split_frs {h : Nat} (l : List (Tr.Pt h)) : Tr.split [Tr.frs l] = Tr.pieces l := by
  show Tr.pieces l ++ [] = _
  rw [List.append_nil]
theorem get_of_len {α β : Type} {l : List α} {cs : List β} (h : cs.length = l.length) {i : Nat} (hi : i < l.length) : ∃ p x, l[i]? = some p ∧ cs[i]? = some x := ⟨l[i], cs[i]'(by omega), List.getElem?_eq_getElem hi, List.getElem?_eq_getElem (by omega)⟩
/-- Many parts more, behind an append. -/
theorem pq_nexts {X : Nat → Prop} {B : Nat} {w w6 w7 : World} {h n m : Nat} {l l' ps : List (Tr.Pt h)} {v v' : Value} {cs ds : List Tr.PC} (hl : l' = l ++ ps) (hn : l.length = n) (hm : ps.length = m) (hX : ∀ b, X b → b < w6.heap.size) (hp : PQ X w6 B h l v cs) (hB : Below B w w6) (hle : B ≤ w6.heap.size) (hx : Fast (fun b => X b ∨ v.ownBlock = some b) w6 fun u => PRs u h ps ds)
    (o : w7.ownsRow B 160 14 v' (n + m) (pcs cs ++ pcs ds)) (g : w6.grownBy w7 v.ownBlock) (hb : v'.ownBlock = v.ownBlock ∨ v'.ownBlock = some w6.heap.size) : PQ X w7 B h l' v' (cs ++ ds) ∧ Below B w w7 := by
  subst hl
  subst hn
  subst hm
  exact ⟨hp.push hX hx o g hb, hB.grown g hle fun b hb => (hp.own.lt b hb).1⟩
set_option maxRecDepth 8000 in
set_option maxHeartbeats 8000000 in
theorem split_any {w : World} {X : Nat → Prop} {h : Nat} {l : List (Tr.Pt (h + 1))} {A : Option Addr} {c : Nat} (hX : ∀ b, X b → b < w.heap.size) (hl : PLX X w (h + 1) l A c) (few1 : l.length ≤ 1000000) (few2 : ∀ b, Tr.frs b ∈ l → b.length ≤ 1000000) (few3 : ∀ i, i ≤ l.length → (Tr.split (l.take i)).length ≤ 1000000) :
    Calls Try.prog 113 #[.slice A l.length c] w fun e w' => Below w.heap.size w w' ∧ ∃ A' c', e = .returned (.slice A' (Tr.split l).length c') ∧ PLX X w' (h + 1) (Tr.split l) A' c' := by
  obtain ⟨i0, hi0, hz0, hs0, hb0'⟩ := part_parts
  obtain ⟨d0, hd0, hd1⟩ := part_row
  obtain ⟨cs0, hU⟩ := hl.uni
  obtain ⟨n, hn⟩ : ∃ n, l.length = n := ⟨_, rfl⟩
  have hlen := hU.now.2.1
  have Hn := Lib.hid hn
  have HU := Lib.hid hU
  have HX := Lib.hid hX
  have H2 := Lib.hid few2
  have H3 := Lib.hid few3
  have Hlen := Lib.hid hlen
  rw [hn] at few1 ⊢
  clear hn hl hX few2 few3 hU hlen
  go_enter Try.func113, Try.ntmps113
  go_wp2_with fail
  go_loopw [8, 3] (fun v8 v3 wr => ∃ (i : Nat) (cs : List Tr.PC), v8 = .int .i64 (i : Int) ∧ i ≤ n ∧ PQ X wr w.heap.size (h + 1) (Tr.split (l.take i)) v3 cs ∧ Below w.heap.size w wr) (fun v8 _ _ => n - (intOf v8).toNat)
  case atStart => exact ⟨0, [], rfl, Nat.zero_le _, PQ.nil _ _ _ _, Below.refl _ _⟩
  case round =>
    obtain ⟨i, cs, rfl, hi, hO, hB⟩ := hrel
    obtain ⟨q, hq⟩ : ∃ q, (Tr.split (l.take i)).length = q := ⟨_, rfl⟩
    have few4 : q ≤ 1000000 := by rw [← hq]; exact H3.out i (by rw [Hn.out]; exact hi)
    obtain ⟨O, co, rfl⟩ : ∃ A' c', u3 = .slice A' q c' := by
      obtain ⟨A', c', e⟩ := hO.form
      exact ⟨A', c', by rw [e, hq]⟩
    have Hq := Lib.hid hq
    have HO := Lib.hid hO
    have HB := Lib.hid hB
    clear hq
    by_cases hik : i < n
    · have y0 : decide ((i : Int) < (n : Int)) = true := by rw [decide_eq_true_eq]; omega
      have y1 : (i : Int) < (n : Int) := by omega
      have Wi : wrap64 ((i : Int) + 1) = (i : Int) + 1 := by simp only [wrap64]; omega
      obtain ⟨p, x, hp, hx⟩ := get_of_len Hlen.out (i := i) (by rw [Hn.out]; exact hik)
      have FP := Lib.hid (show Fast X w fun u => PR u (h + 1) p x from fun u k => (HU.out u k).2.2 i p x hp hx)
      obtain ⟨b, o, rfl, hb, rg⟩ := (HU.out wr (.of_below X hB)).1.sl.range hx
      have Hn1 := Lib.hid (split_next hp)
      have Hik := Lib.hid hik
      have Hf := Lib.hid (H3.out (i + 1) (by rw [Hn.out]; exact hik))
      have Hmem := Lib.hid (show p ∈ l from List.mem_of_getElem? hp)
      clear hp hx hO hik hi
      cases p with
      | inl b1 =>
        obtain rfl : x = ⟨b1.f, Tr.z, b1, false, none, 0, 0⟩ := FP.out.now
        have hgr : ∀ o', Below wr.heap.size wr (wr.alloc o') := fun o' => below_alloc1 wr o'
        have Oz := Lib.hid (show ∀ o1 o2, PQ X ((wr.alloc o1).alloc o2) w.heap.size (h + 1) (Tr.split (l.take i)) (.slice O q co) cs ∧ Below w.heap.size w ((wr.alloc o1).alloc o2) from fun o1 o2 => ⟨HO.out.below (below_alloc2 wr o1 o2), HB.out.trans ((below_alloc2 wr o1 o2).mono HB.out.size)⟩)
        clear hB hgr
        go_wp2_with (first
          | ((with_reducible show wpList _ _ _ (⟨some 11, Op.load 160 _, _, _, _, _⟩ :: _) _ _); refine wpList_load_mid rfl 160 _ rfl b (o + i * 14) rfl [.int .i64 b1.f, .int .i64 0, .int .i64 0, .int .i64 0, .int .i64 0, .int .i64 0, .int .i64 b1.k.1, .int .i64 b1.k.2.1, .int .i64 b1.k.2.2, .int .i64 b1.h, .int .i64 b1.f, .int .i64 b1.t, .bool false, .slice none 0 0] d0 rg hd0 hd1 part_size ?_)
          | (at_builtin; refine wpList_append_sls _ rfl (.tmp 19) (.tmp 21) _ rfl Try.underlying158 hi0 hz0 hs0 hb0' rfl (by decide) rfl (pq_own Hq.out (Oz.out _ _).1) (m := 1) (news := pcs [⟨b1.f, Tr.z, b1, false, none, 0, 0⟩]) rfl rfl (by simp) (Nat.le_refl _) (sl_14' ⟨b1.f, Tr.z, b1, false, none, 0, 0⟩) (pcs_one _) (by unfold maxLen; omega) (by omega) (Oz.out _ _).2.size ?_; intro v7 w7 h1 h2 h3; (obtain ⟨A7, c7, rfl⟩ := own_slice h1); (have N7 := Lib.hid (show PQ X w7 w.heap.size (h + 1) (Tr.split (l.take (i + 1))) (.slice A7 (q + 1) c7) (cs ++ [⟨b1.f, Tr.z, b1, false, none, 0, 0⟩]) ∧ Below w.heap.size w w7 from pq_next (Hn1.out.trans (by rw [show (Sum.inl b1 : Tr.Pt (h + 1)) = Tr.old b1 from rfl, split_old])) Hq.out HX.out (Oz.out _ _).1 (Oz.out _ _).2 FP.out h1 h2 h3)); clear h1 h2 h3))
        go_roundw
        case rel => exact ⟨i + 1, _, by go_num, Hik.out, N7.out.1, N7.out.2⟩
        case measure => exact meas_up Hik.out
      | inr m =>
        obtain ⟨K, hK⟩ : ∃ K, K = Tr.keyP (h + 1) (Tr.frs m) := ⟨_, rfl⟩
        obtain ⟨xA, hxA⟩ : ∃ A, x.A = A := ⟨_, rfl⟩
        obtain ⟨xc, hxc⟩ : ∃ A, x.c = A := ⟨_, rfl⟩
        have ex := FP.out.now.list.1
        rw [hxA, hxc, ← hK] at ex
        have PM := Lib.hid (show PLX X w h m xA xc from fun u k => by have := (FP.out u k).list.2; rwa [hxA, hxc] at this)
        clear FP hxA hxc hK
        subst ex
        have hle := HB.out.size
        obtain ⟨W1, hW1⟩ : ∃ W, wr.alloc (.cells #[.int .i64 K, .int .i64 0, .int .i64 0, .int .i64 0, .int .i64 0, .int .i64 0, .int .i64 0, .int .i64 0, .int .i64 0, .int .i64 0, .int .i64 0, .int .i64 0, .bool true, .slice xA m.length xc] 160) = W := ⟨_, rfl⟩
        have bx : Blk W1 wr.heap.size 160 #[.int .i64 K, .int .i64 0, .int .i64 0, .int .i64 0, .int .i64 0, .int .i64 0, .int .i64 0, .int .i64 0, .int .i64 0, .int .i64 0, .int .i64 0, .int .i64 0, .bool true, .slice xA m.length xc] := by rw [← hW1]; exact Blk.new _ _ _
        have d12 : W1.cell? ⟨wr.heap.size, 12, none⟩ = some (.bool true) := bx.cell 12
        have d13 : W1.cell? ⟨wr.heap.size, 13, none⟩ = some (.slice xA m.length xc) := bx.cell 13
        have hb1 : Below wr.heap.size wr W1 := by rw [← hW1]; exact below_alloc1 _ _
        have O1 := Lib.hid (HO.out.below hb1)
        have B1 := Lib.hid (HB.out.trans (hb1.mono hle))
        have HC := pieces_any (w := W1) (X := fun b => X b ∨ (Value.slice O q co).ownBlock = some b) (h := h) (l := m) (A := xA) (c := xc) (fun b hb => hb.elim (fun hb => Nat.lt_of_lt_of_le (HX.out b hb) B1.out.size) (fun hb => (O1.out.far b hb).2)) (PM.out.new (.of_below X B1.out) fun b hb => (O1.out.own.lt b hb).1) (H2.out m Hmem.out)
        have Fq := Lib.hid (show Tr.split (l.take (i + 1)) = Tr.split (l.take i) ++ Tr.pieces m from Hn1.out.trans (by rw [show (Sum.inr m : Tr.Pt (h + 1)) = Tr.frs m from rfl, split_frs]))
        have hf2 : q + (Tr.pieces m).length ≤ 1000000 := by have := Hf.out; rw [Fq.out, List.length_append, Hq.out] at this; exact this
        clear hB bx hb1 hle
        go_wp2_with (first
          | ((with_reducible show wpList _ _ _ (⟨some 11, Op.load 160 _, _, _, _, _⟩ :: _) _ _); refine wpList_load_mid rfl 160 _ rfl b (o + i * 14) rfl [.int .i64 K, .int .i64 0, .int .i64 0, .int .i64 0, .int .i64 0, .int .i64 0, .int .i64 0, .int .i64 0, .int .i64 0, .int .i64 0, .int .i64 0, .int .i64 0, .bool true, .slice xA m.length xc] d0 rg hd0 hd1 part_size ?_)
          | (go_at_call 84; (with_reducible refine HC.mono ?_); rintro e w6 ⟨hb6, A', c', rfl, hp6⟩; (obtain ⟨ds, hu6⟩ := hp6.uni); (have U6 := Lib.hid hu6); (have O6 := Lib.hid (O1.out.below hb6)); (have B6 := Lib.hid (B1.out.trans (hb6.mono B1.out.size))); (have HS6 := Lib.hid hb6.size); clear hp6 hu6 hb6)
          | (at_builtin; refine wpList_append_sls _ rfl (.tmp 14) (.tmp 17) _ rfl Try.underlying158 hi0 hz0 hs0 hb0' rfl (by decide) rfl (pq_own Hq.out O6.out) (m := (Tr.pieces m).length) (news := pcs ds) rfl (by rw [pcs_len, U6.out.now.2.1]) U6.out.now.1.nil U6.out.now.1.le U6.out.now.1.sl (pcs_one _) (by unfold maxLen; omega) (by omega) B6.out.size ?_; intro v7 w7 h1 h2 h3; (obtain ⟨A7, c7, rfl⟩ := own_slice h1); (have N7 := Lib.hid (show PQ X w7 w.heap.size (h + 1) (Tr.split (l.take (i + 1))) (.slice A7 (q + (Tr.pieces m).length) c7) (cs ++ ds) ∧ Below w.heap.size w w7 from pq_nexts Fq.out Hq.out rfl (fun b hb => Nat.lt_of_lt_of_le (HX.out b hb) B6.out.size) O6.out B6.out B6.out.size (U6.out.mono fun u h => h.2) h1 h2 h3)); clear h1 h2 h3))
        go_roundw
        case rel => exact ⟨i + 1, _, by go_num, Hik.out, N7.out.1, N7.out.2⟩
        case measure => exact meas_up Hik.out
    · obtain rfl : i = n := by omega
      have y0 : decide ((i : Int) < (i : Int)) = false := by rw [decide_eq_false_iff_not]; omega
      have e : Tr.split (l.take i) = Tr.split l := by rw [List.take_of_length_le (by rw [Hn.out]; exact Nat.le_refl _)]
      have F := Lib.hid (show q = (Tr.split l).length ∧ PLX X wr (h + 1) (Tr.split l) O co from ⟨by rw [← e, Hq.out], by have := hO.plx; rwa [e] at this⟩)
      clear hik hi hO e
      go_wp2_with fail
      go_ret
      exact ⟨HB.out, O, co, by rw [← F.out.1]; rfl, F.out.2⟩
end Go.Proofs.Ytlcchefiicalpaa
namespace Go.Proofs.Ytlcchefiicalpaa
open Go.RowKit
theorem own_makeW {w : World} {B g n c size : Nat} {e : TypeId} {C xs : List Value} (hB : B ≤ g) (hg : w.heap[g]? = some (.cells C.toArray e (0, 0))) (h1 : n ≤ c) (h2 : c ≤ maxLen) (h3 : C.length = c * size) (h4 : C.take (n * size) = xs) :
    w.ownsRow B e size (.slice (some ⟨g, 0, none⟩) n c) n xs :=
  ⟨by rw [← h4, List.length_take, h3, Nat.min_eq_left (Nat.mul_le_mul_right _ h1)], .inr ⟨g, c, C.toArray, rfl, hB, hg, h1, h2, by simpa using h3, by simpa using h4⟩⟩
set_option maxRecDepth 8000 in
set_option maxHeartbeats 4000000 in
theorem grow_nil (n : Nat) (hn : n ≤ 2000000) (w : World) : Calls Try.prog 104 #[.slice none 0 0, .int .i64 (n : Int)] w fun e w' => ∃ v, e = .returned v ∧ w'.ownsRow w.heap.size 160 14 v 0 [] ∧ Below w.heap.size w w' := by
  obtain ⟨i0, hi0, hz0, hs0, hb0⟩ := part_parts
  have z0 : decide ((n : Int) < 0) = false := by rw [decide_eq_false_iff_not]; omega
  have z1 : wrap64 (n : Int) = (n : Int) := by simp only [wrap64]; omega
  by_cases h0 : n = 0
  · have z2 : decide ((0 : Int) < (n : Int)) = false := by rw [decide_eq_false_iff_not]; omega
    have z3 : decide (0 < n) = false := by rw [decide_eq_false_iff_not]; omega
    clear h0
    go_enter Try.func104, Try.ntmps104
    go_wp2_with fail
    go_ret
    exact ⟨_, rfl, World.ownsRow_nil _ _ _ _, Below.refl _ _⟩
  · have z2 : decide ((0 : Int) < (n : Int)) = true := by rw [decide_eq_true_eq]; omega
    have z3 : decide (0 < n) = true := by rw [decide_eq_true_eq]; omega
    obtain ⟨G, hG⟩ : ∃ G, grownCap w n 0 160 = G := ⟨_, rfl⟩
    have hG1 : n ≤ G := by rw [← hG]; exact grownCap_ge _ _ _ _
    have hG2 : G ≤ maxLen := by rw [← hG]; exact grownCap_le_maxLen _ _ _ _ (by unfold maxLen; omega)
    have run := fun ty => Lib.run_append_grow_zeros (P := Try.prog) w 158 3 ty 160 i0 _ .i64 .i64 Try.underlying158 Try.underlying3 hi0 hz0 none 0 0 [] (by rw [hs0]; rfl) n (by omega) (by omega) (by omega) (by omega) (by rw [hb0]; omega) (by rw [hb0]; exact growslice_fits (by omega) (by omega))
    simp only [Nat.zero_add, hG] at run
    obtain ⟨W, hW⟩ : ∃ W, w.drew.alloc (.cells (([] : List Value).toArray ++ Builtin.zeroCells (Value.agg #[.int .i64 0, .int .i64 0, .int .i64 0, .int .i64 0, .int .i64 0, .int .i64 0, .int .i64 0, .int .i64 0, .int .i64 0, .int .i64 0, .int .i64 0, .int .i64 0, .bool false, .slice none 0 0]).cells n ++ Builtin.zeroCells (Value.agg #[.int .i64 0, .int .i64 0, .int .i64 0, .int .i64 0, .int .i64 0, .int .i64 0, .int .i64 0, .int .i64 0, .int .i64 0, .int .i64 0, .int .i64 0, .int .i64 0, .bool false, .slice none 0 0]).cells (G - n)) 160) = W := ⟨_, rfl⟩
    have hB : Below w.heap.size w W := by rw [← hW]; exact undrew (below_alloc1 w.drew _)
    have own : W.ownsRow w.heap.size 160 14 (.slice (some ⟨w.heap.size, 0, none⟩) 0 G) 0 [] := by
      refine own_makeW (C := (([] : List Value).toArray ++ Builtin.zeroCells (Value.agg #[.int .i64 0, .int .i64 0, .int .i64 0, .int .i64 0, .int .i64 0, .int .i64 0, .int .i64 0, .int .i64 0, .int .i64 0, .int .i64 0, .int .i64 0, .int .i64 0, .bool false, .slice none 0 0]).cells n ++ Builtin.zeroCells (Value.agg #[.int .i64 0, .int .i64 0, .int .i64 0, .int .i64 0, .int .i64 0, .int .i64 0, .int .i64 0, .int .i64 0, .int .i64 0, .int .i64 0, .int .i64 0, .int .i64 0, .bool false, .slice none 0 0]).cells (G - n)).toList) (Nat.le_refl _) ?_ (Nat.zero_le _) hG2 ?_ ?_
      · rw [← hW]; exact heap_alloc_new w.drew _
      · have e14 : (Value.agg #[.int .i64 0, .int .i64 0, .int .i64 0, .int .i64 0, .int .i64 0, .int .i64 0, .int .i64 0, .int .i64 0, .int .i64 0, .int .i64 0, .int .i64 0, .int .i64 0, .bool false, .slice none 0 0]).cells.size = 14 := rfl
        rw [Array.length_toList, Array.size_append, Array.size_append, size_zeroCells, size_zeroCells, e14]
        simp
        omega
      · simp
    rw [hW] at run
    have HO := Lib.hid own
    have HB := Lib.hid hB
    clear own hB hW hG h0
    go_enter Try.func104, Try.ntmps104
    go_wp2_with (at_builtin; refine wpList_app_run _ rfl (.tmp 20) (.tmp 21) 158 3 rfl rfl rfl (run _) ?_)
    go_ret
    exact ⟨_, rfl, HO.out, HB.out⟩
set_option maxRecDepth 8000 in
set_option maxHeartbeats 8000000 in
theorem concat_any {w : World} {X : Nat → Prop} {h rb : Nat} {l1 l2 : List (Tr.Pt h)} {A1 A2 : Option Addr} {c1 c2 : Nat} (hX : ∀ b, X b → b < w.heap.size) (hl1 : PLX X w h l1 A1 c1) (hl2 : PLX X w h l2 A2 c2) (few1 : l1.length ≤ 1000000) (few2 : l2.length ≤ 1000000)
    (r0 : w.cell? ⟨rb, 0, none⟩ = some (.slice A1 l1.length c1)) (r1 : w.cell? ⟨rb, 1, none⟩ = some (.slice A2 l2.length c2)) (hrb : rb < w.heap.size) :
    Calls Try.prog 92 #[.slice (some ⟨rb, 0, none⟩) 2 2] w fun e w' => Below w.heap.size w w' ∧ ∃ A' c', e = .returned (.slice A' (l1.length + l2.length) c') ∧ PLX X w' h (l1 ++ l2) A' c' := by
  obtain ⟨i0, hi0, hz0, hs0, hb0'⟩ := part_parts
  obtain ⟨cs1, hU1⟩ := hl1.uni
  obtain ⟨cs2, hU2⟩ := hl2.uni
  obtain ⟨n, hn⟩ : ∃ n, l1.length = n := ⟨_, rfl⟩
  obtain ⟨m, hm⟩ : ∃ n, l2.length = n := ⟨_, rfl⟩
  have Hn := Lib.hid hn
  have Hm := Lib.hid hm
  have U1 := Lib.hid hU1
  have U2 := Lib.hid hU2
  have HX := Lib.hid hX
  rw [hn] at few1 r0 ⊢
  rw [hm] at few2 r1 ⊢
  have Kr := Lib.hid (show ∀ u, Below w.heap.size w u → u.cell? ⟨rb, 0, none⟩ = some (.slice A1 n c1) ∧ u.cell? ⟨rb, 1, none⟩ = some (.slice A2 m c2) from fun u hu => ⟨(World.cell?_of_block (hu.block rb hrb)).trans r0, (World.cell?_of_block (hu.block rb hrb)).trans r1⟩)
  have hq2 : n + m ≤ 2000000 := Nat.le_trans (Nat.add_le_add few1 few2) (by decide)
  have z0 : wrap64 (n : Int) = (n : Int) := by simp only [wrap64]; omega
  have z1 : wrap64 ((n : Int) + (m : Int)) = ((n + m : Nat) : Int) := by simp only [wrap64]; omega
  have z2 : (n : Int) + (m : Int) = ((n + m : Nat) : Int) := by omega
  have z3 : decide ((n : Int) < 0) = false := by rw [decide_eq_false_iff_not]; omega
  have z4 : decide (((n + m : Nat) : Int) < 0) = false := by rw [decide_eq_false_iff_not]; omega
  obtain ⟨q, hq⟩ : ∃ q, n + m = q := ⟨_, rfl⟩
  rw [hq] at z1 z2 z4 hq2
  have Hq := Lib.hid hq
  have HG := Lib.hid (fun W => grow_nil q hq2 W)
  clear hl1 hl2 hU1 hU2 hn hm hX hq
  go_enter Try.func92, Try.ntmps92
  go_wp2_with fail
  refine wp_loop_rounds 3 ?_
  rw [rounds_succ]
  go_wp2_with fail
  rw [rounds_succ]
  go_wp2_with fail
  rw [rounds_succ]
  go_wp2_with (go_at_call 104; (with_reducible refine (HG.out w).mono ?_); rintro e w5 ⟨v5, rfl, ho5, hb5⟩; (obtain ⟨G5, g5, rfl⟩ := own_slice ho5); (obtain ⟨k0, k1⟩ := Kr.out w5 hb5); (have O5 := Lib.hid (show PQ X w5 w.heap.size h [] (.slice G5 0 g5) [] from ⟨ho5, fun k hk => ⟨fun hX => by have h1 := HX.out k hX; have h2 := (ho5.lt k hk).1; exact Nat.lt_irrefl _ (Nat.lt_of_lt_of_le h1 h2), (ho5.lt k hk).2⟩, fun u _ => .nil u h⟩)); (have B5 := Lib.hid hb5); clear ho5 hb5)
  refine wp_loop_rounds 3 ?_
  rw [rounds_succ]
  go_wp2_with (at_builtin; refine wpList_append_sls _ rfl (.tmp 31) (.tmp 32) _ rfl Try.underlying158 hi0 hz0 hs0 hb0' rfl (by decide) rfl (pq_own (n := 0) rfl O5.out) (m := n) (news := pcs cs1) rfl (by rw [pcs_len, U1.out.now.2.1, Hn.out]) U1.out.now.1.nil (Hn.out ▸ U1.out.now.1.le) ((U1.out.new (.of_below X B5.out) (G := fun _ => False) fun _ h => h.elim).now.1.sl) (pcs_one _) (by unfold maxLen; simp; omega) (by simp; omega) B5.out.size ?_; intro v6 w6 h1 h2 h3; simp only [Nat.zero_add] at h1; (obtain ⟨A6, c6, rfl⟩ := own_slice h1); (have N6 := Lib.hid (show PQ X w6 w.heap.size h l1 (.slice A6 n c6) ([] ++ cs1) ∧ Below w.heap.size w w6 from pq_nexts (List.nil_append l1).symm rfl Hn.out (fun b hb => Nat.lt_of_lt_of_le (HX.out b hb) B5.out.size) O5.out B5.out B5.out.size ((U1.out.new (.of_below X B5.out) fun b hb => (O5.out.own.lt b hb).1).mono fun u h => h.2) (by simp only [List.length_nil, Nat.zero_add]; exact h1) h2 h3)); (obtain ⟨j0, j1⟩ := Kr.out w6 N6.out.2); clear h1 h2 h3)
  rw [rounds_succ]
  go_wp2_with (at_builtin; refine wpList_append_sls _ rfl (.tmp 31) (.tmp 32) _ rfl Try.underlying158 hi0 hz0 hs0 hb0' rfl (by decide) rfl (pq_own Hn.out N6.out.1) (m := m) (news := pcs cs2) rfl (by rw [pcs_len, U2.out.now.2.1, Hm.out]) U2.out.now.1.nil (Hm.out ▸ U2.out.now.1.le) ((U2.out.new (.of_below X N6.out.2) (G := fun _ => False) fun _ h => h.elim).now.1.sl) (pcs_one _) (by unfold maxLen; omega) (by omega) N6.out.2.size ?_; intro v7 w7 h1 h2 h3; (obtain ⟨A7, c7, rfl⟩ := own_slice h1); (have N7 := Lib.hid (show PQ X w7 w.heap.size h (l1 ++ l2) (.slice A7 (n + m) c7) (([] ++ cs1) ++ cs2) ∧ Below w.heap.size w w7 from pq_nexts rfl Hn.out Hm.out (fun b hb => Nat.lt_of_lt_of_le (HX.out b hb) N6.out.2.size) N6.out.1 N6.out.2 N6.out.2.size ((U2.out.new (.of_below X N6.out.2) fun b hb => (N6.out.1.own.lt b hb).1).mono fun u h => h.2) h1 h2 h3)); clear h1 h2 h3)
  rw [rounds_succ]
  go_wp2_with fail
  go_ret
  exact ⟨N7.out.2, A7, c7, rfl, N7.out.1.plx⟩
end Go.Proofs.Ytlcchefiicalpaa
namespace Go.Proofs.Ytlcchefiicalpaa
open Go.RowKit
theorem lo_all {n c : Nat} (hc : 0 < c) : lo n c c = n := by unfold lo; exact Nat.mul_div_cancel_left n hc
theorem lo_zero (n c : Nat) : lo n c 0 = 0 := by unfold lo; rw [Nat.zero_mul, Nat.zero_div]
theorem lo_lt {n c i : Nat} (hc : 0 < c) (hn : c ≤ n) : lo n c i < lo n c (i + 1) := by
  unfold lo
  have h : i * n / c + 1 ≤ (i + 1) * n / c := by
    rw [← Nat.add_div_right _ hc]
    exact Nat.div_le_div_right (by rw [Nat.add_mul, Nat.one_mul]; exact Nat.add_le_add_left hn _)
  exact h
namespace Tr
theorem wts_cut {h : Nat} (l : List (Pt h)) (c : Nat) : ∀ k : Nat, wts ((List.range k).map fun i => frs (cut1 l c i)) = wts (l.take (lo l.length c k))
  | 0 => by rw [lo_zero, List.take_zero]; rfl
  | k + 1 => by
    rw [List.range_succ, List.map_append, wts_app, wts_cut l c k]
    have e : lo l.length c (k + 1) = lo l.length c k + (lo l.length c (k + 1) - lo l.length c k) := by have := lo_mono (n := l.length) (c := c) (i := k); omega
    rw [e, List.take_add, wts_app]
    have : wts [frs (cut1 l c k)] = wts (cut1 l c k) := by rw [wts_cons, wts_nil, Nat.add_zero]; rfl
    show _ + wts [frs (cut1 l c k)] = _
    rw [this]
    rfl
theorem cut1_mem {h : Nat} {l : List (Pt h)} {c i : Nat} {q : Pt h} (hq : q ∈ cut1 l c i) : q ∈ l := List.mem_of_mem_drop (List.mem_of_mem_take hq)
theorem pieces_wf {h : Nat} {l : List (Pt h)} (hl : Wfs l) : Wfs (pieces l) ∧ wts (pieces l) = wts l := by
  by_cases h0 : l.length = 0
  · obtain rfl := List.eq_nil_of_length_eq_zero h0
    have e : pieces ([] : List (Pt h)) = [] := by simp [pieces]
    rw [e]
    exact ⟨Wfs.nil, rfl⟩
  · have hc : 0 < (l.length + 7) / 8 := by omega
    rw [pieces_is]
    refine ⟨fun q hq => ?_, ?_⟩
    · obtain ⟨i, hi, rfl⟩ := List.mem_map.1 hq
      have hi := List.mem_range.1 hi
      refine ⟨fun q hq => hl q (cut1_mem hq), ?_⟩
      have hw : Wfs (cut1 l ((l.length + 7) / 8) i) := fun q hq => hl q (cut1_mem hq)
      have h1 := hw.len
      have h2 : 0 < (cut1 l ((l.length + 7) / 8) i).length := by
        unfold cut1
        have a := lo_lt (n := l.length) (c := (l.length + 7) / 8) (i := i) hc (by omega)
        have b := lo_le (n := l.length) (c := (l.length + 7) / 8) (i := i + 1) hi hc
        rw [List.length_take, List.length_drop]
        omega
      exact Nat.lt_of_lt_of_le h2 h1
    · rw [wts_cut, lo_all hc, List.take_length]
theorem split_wf {h : Nat} : ∀ {l : List (Pt (h + 1))}, WfA l → Wfs (split l) ∧ wts (split l) = wts l
  | [], _ => ⟨Wfs.nil, rfl⟩
  | x :: l, hl => by
    obtain ⟨h1, h2⟩ := split_wf (l := l) fun q hq => hl q (List.mem_cons_of_mem _ hq)
    rcases (show (∃ b, x = old b) ∨ ∃ m, x = frs m by cases x with | inl b => exact .inl ⟨b, rfl⟩ | inr m => exact .inr ⟨m, rfl⟩) with ⟨b, rfl⟩ | ⟨m, rfl⟩
    · have e : split (old b :: l) = old b :: split l := rfl
      rw [e, wts_cons, wts_cons, h2]
      refine ⟨fun q hq => ?_, rfl⟩
      rcases List.mem_cons.1 hq with rfl | hq
      · exact ⟨hl (old b) (List.mem_cons_self ..), wt_old_pos b⟩
      · exact h1 q hq
    · obtain ⟨h3, h4⟩ := pieces_wf (l := m) (hl (frs m) (List.mem_cons_self ..))
      have e : split (frs m :: l) = pieces m ++ split l := rfl
      rw [e, wts_app, wts_cons, h2, h4]
      exact ⟨h3.app h1, rfl⟩
theorem wts_rev {h : Nat} (l : List (Pt h)) : wts l.reverse = wts l := by
  induction l with
  | nil => rfl
  | cons x l ih => rw [List.reverse_cons, wts_app, ih, wts_cons, wts_cons, wts_nil]; omega
section
variable {σ : Type} (S : Sto σ)
theorem fitJ_wf {h : Nat} {jn : σ → Pt (h + 1) → Pt (h + 1) → Res σ (Pt (h + 1))} (hj : JnOk jn) {st : σ} {l r : List (Pt (h + 1))} (hl : WfA l) (e : (fitJ jn st l).2 = .ok r) : Wfs r ∧ wts r ≤ wts l := by
  unfold fitJ at e
  rcases h1 : fitA jn l st [] with ⟨st1, e' | s⟩
  · rw [h1] at e; cases e
  · rw [h1] at e
    dsimp only at e
    obtain ⟨a1, a2⟩ := fitA_wf hj hl (s := []) (fun q hq => by cases hq) (r := s) (by rw [h1])
    rcases h2 : fitB jn s.length st1 s with ⟨st2, e' | t⟩
    · rw [h2] at e; cases e
    · rw [h2] at e
      injection e with e
      subst e
      obtain ⟨b1, b2⟩ := fitB_wf hj a1 (r := t) (by rw [h2])
      obtain ⟨c1, c2⟩ := split_wf (l := t.reverse) fun q hq => b1 q (List.mem_reverse.1 hq)
      rw [wts_nil] at a2
      exact ⟨c1, by rw [c2, wts_rev]; omega⟩
theorem join_wf : ∀ h : Nat, JnOk (join S h)
  | 0 => by
    rename_i st x y z
    intro hx hy e
    unfold join at e
    rcases h1 : opn S 0 st x with ⟨st1, e' | a⟩
    · rw [h1] at e; cases e
    · rw [h1] at e
      dsimp only at e
      obtain ⟨a1, a2⟩ := opn_wf S hx (by rw [h1])
      rcases h2 : opn S 0 st1 y with ⟨st2, e' | b⟩
      · rw [h2] at e; cases e
      · rw [h2] at e
        injection e with e
        subst e
        obtain ⟨b1, b2⟩ := opn_wf S hy (by rw [h2])
        refine ⟨a1.app b1, ?_⟩
        rw [wt_frs, wts_app]
        omega
  | h + 1 => by
    rename_i st x y z
    intro hx hy e
    unfold join at e
    rcases h1 : opn S (h + 1) st x with ⟨st1, e' | a⟩
    · rw [h1] at e; cases e
    · rw [h1] at e
      dsimp only at e
      obtain ⟨a1, a2⟩ := opn_wf S hx (by rw [h1])
      rcases h2 : opn S (h + 1) st1 y with ⟨st2, e' | b⟩
      · rw [h2] at e; cases e
      · rw [h2] at e
        dsimp only at e
        obtain ⟨b1, b2⟩ := opn_wf S hy (by rw [h2])
        rcases h3 : fitJ (join S h) st2 (a ++ b) with ⟨st3, e' | l⟩
        · rw [h3] at e; cases e
        · rw [h3] at e
          injection e with e
          subst e
          obtain ⟨c1, c2⟩ := fitJ_wf (join_wf h) (l := a ++ b) (fun q hq => (a1.app b1 q hq).1) (by rw [h3])
          rw [wts_app] at c2
          exact ⟨c1, by rw [wt_frs]; omega⟩
theorem fit_wf {h : Nat} {st : σ} {l r : List (Pt (h + 1))} (hl : WfA l) (e : (fit S h st l).2 = .ok r) : Wfs r ∧ wts r ≤ wts l := fitJ_wf (join_wf S h) hl e
end
end Tr
end Go.Proofs.Ytlcchefiicalpaa
