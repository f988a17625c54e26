/- The program's map of free blocks: Give; all that is asked of it. The program's reference counts, by contracts; the statements' awake; SharesAdds under the contracts. Where the program's map and counts lie; slices.BinarySearchFunc, find. The program's New, Add, More, Less, Uses. -/
import Derived.Test.YtaainefdjbmekaaSbba
import Derived.Test.YtaainefdjbmekaaSbbe
import Derived.Test.YtaainefdjbmekaaSbbj
import Derived.Test.YtaainefdjbmekaaSbca
import Derived.Test.YtaainefdjbmekaaSbcb
import Derived.Test.YtaainefdjbmekaaSbcc
import Derived.Test.YtaainefdjbmekaaSbj
namespace Go.Proofs.Ytaainefdjbmekaa
open Go.RowKit
section
variable {w : World} {g gb N c a n q : Nat} {X : Nat → Prop} {F : List Bool}
/-- What Give promises. -/
def GvP (w : World) (g : Nat) (X : Nat → Prop) (F : List Bool) (a n : Int) (e : Ending) (w' : World) : Prop := e = .returned (.bool (Rn.give F a n).1) ∧ OpR RepP g X (Rn.give F a n).2 w w'
theorem GvS.nr (h : GvS w g gb N c X F a n q) {i j s e l : Nat} (hiq : i ≤ q) (hqj : q ≤ j) (hjN : j ≤ N) (hi : i = q ∨ i + 1 = q) (hj : j = q ∨ j = q + 1)
    (h1 : ∀ t, t < i → ((Rn.list F).getD t (0, 0)).1 + ((Rn.list F).getD t (0, 0)).2 < s) (h2 : ∀ t, j ≤ t → t < N → e < ((Rn.list F).getD t (0, 0)).1)
    (hs : if i = q then s = a else s = ((Rn.list F).getD i (0, 0)).1 ∧ ((Rn.list F).getD i (0, 0)).1 + ((Rn.list F).getD i (0, 0)).2 = a)
    (he : if j = q then e = a + n else ((Rn.list F).getD q (0, 0)).1 = a + n ∧ e = ((Rn.list F).getD q (0, 0)).1 + ((Rn.list F).getD q (0, 0)).2) (hl : l = e - s) :
    Hid (∀ Wc : World, Below w.heap.size w Wc → Calls Try.prog 77 #[.slice (some ⟨gb, 0, none⟩) N c, .int .i64 (i : Int), .int .i64 (j : Int), .slice (some ⟨Wc.heap.size, 0, none⟩) 1 1] (Wc.drew.alloc (.cells #[.int .i64 (s : Int), .int .i64 (l : Int)] 33)) fun e w' =>
      ∃ A' p' c', e = .returned (.slice A' p' c') ∧ w'.cell? ⟨g, 1, none⟩ = some (.slice (some ⟨gb, 0, none⟩) N c) ∧ w'.frozen? ⟨g, 1, none⟩ = false ∧ GvP w g X F (a : Int) (n : Int) (.returned (.bool true)) (w'.setCell ⟨g, 1, none⟩ (.slice A' p' c'))) := by
  obtain ⟨d1, d2⟩ := h.done hiq hqj hjN hi hj h1 h2 hs he
  subst hl
  refine Lib.hid fun Wc hb => (h.rep20 hb i j s (e - s) (by omega) hjN).mono ?_
  rintro x w' ⟨A', p, c', rfl, k1, k2, k3⟩
  refine ⟨A', p, c', rfl, k1, k2, ?_⟩
  unfold GvP
  rw [d1]
  exact ⟨rfl, k3 _ d2 (Rn.setN_len _ _ _ _)⟩
theorem GvS.no (h : GvS w g gb N c X F a n q) (hR : Rn.give F (a : Int) (n : Int) = (false, F)) : Hid (∀ W : World, Below w.heap.size w W → GvP w g X F (a : Int) (n : Int) (.returned (.bool false)) W) :=
  Lib.hid fun W hb => by
    unfold GvP
    rw [hR]
    exact ⟨rfl, opR_same h.rep hb⟩
theorem GvS.give (h : GvS w g gb N c X F a n q) : Calls Try.prog 56 #[.pointer (some ⟨g, 0, none⟩), .int .i64 (a : Int), .int .i64 (n : Int)] w (GvP w g X F (a : Int) (n : Int)) := by
  have hfew := h.few
  have hfit := h.fit
  have hn := h.nb
  have hlen := h.len
  have c0 : w.cell? ⟨g, 0, none⟩ = some (.int .i64 (F.length : Int)) := h.rep.blk.cell 0
  have NB := Lib.hid (behind_any h.rep (a : Int))
  rw [← h.pos] at NB
  have Cg := Lib.hid (fun (W : World) (hb : Below w.heap.size w W) => show W.cell? ⟨g, 1, none⟩ = some (.slice (some ⟨gb, 0, none⟩) N c) from (hb.cell (p := ⟨g, 1, none⟩) h.rep.blk.lt).trans (h.rep.blk.cell 1))
  have srt := fun i j (hij : i < j) (hj : j < N) => h.sorted hij hj
  have ct := h.cut
  have Cc := fun i (hi : i < N) => Lib.hid (fun (W : World) (hb : Below w.heap.size w W) => (h.cells W hb hi).2)
  have spl := fun i (hi : i < N) => list_split (L := Rn.list F) (k := i) (by rw [← hlen]; exact hi)
  have hbs := fun i (hi : i < N) => h.run hi
  obtain ⟨t, ht⟩ : ∃ t, t = a + n := ⟨_, rfl⟩
  -- what lies behind
  rcases Nat.eq_zero_or_pos q with hq0 | hq0
  · rcases Nat.lt_or_ge q N with hqN | hqN
    · obtain ⟨az, haz⟩ : ∃ x, x = ((Rn.list F).getD q (0, 0)).1 := ⟨_, rfl⟩
      obtain ⟨al, hal⟩ : ∃ x, x = ((Rn.list F).getD q (0, 0)).2 := ⟨_, rfl⟩
      have hsp := spl q hqN
      have hr := hbs q hqN
      have hc := ct.2 q (Nat.le_refl _) hqN
      have Cq := Cc q hqN
      rw [show (Rn.list F).getD q (0, 0) = (az, al) by rw [haz, hal]] at hsp
      rw [← haz, ← hal] at hr Cq
      rw [← haz] at hc
      rcases Nat.lt_trichotomy az t with h8 | h8 | h8
      · exact gw_none_bad hn hfit hfew.1 hfew.2.1 hfew.2.2 hq0 hqN hr.2 ht h8 c0 NB Cg Cq (h.no (Rn.give_post hsp (by omega) (by omega)))
      · exact gw_none_eq (q1 := q + 1) (l2 := n + al) hn hfit hfew.1 hfew.2.1 hfew.2.2 hq0 hqN hr.2 ht h8 rfl rfl c0 NB Cg Cq
          (h.nr (e := az + al) (Nat.le_refl _) (by omega) (by omega) (.inl rfl) (.inr rfl) (fun x hx => by omega) (fun x h1 h2 => by have := srt q x (by omega) h2; omega) (by rw [if_pos rfl]) (by rw [if_neg (by omega)]; omega) (by omega))
      · exact gw_none_gt hn hfit hfew.1 hfew.2.1 hfew.2.2 hq0 hqN hr.2 ht h8 c0 NB Cg Cq
          (h.nr (e := a + n) (Nat.le_refl _) (Nat.le_refl _) (by omega) (.inl rfl) (.inl rfl) (fun x hx => by omega) (fun x h1 h2 => by
            rcases Nat.lt_or_ge q x with hx | hx
            · have := srt q x hx h2; omega
            · have : x = q := by omega
              rw [this]; omega) (by rw [if_pos rfl]) (by rw [if_pos rfl]) (by omega))
    · have hqN : q = N := by omega
      exact gw_none_none hn hfit hfew.1 hfew.2.1 hfew.2.2 hq0 hqN c0 NB Cg
        (h.nr (e := a + n) (Nat.le_refl _) (Nat.le_refl _) (by omega) (.inl rfl) (.inl rfl) (fun x hx => by omega) (fun x h1 h2 => by omega) (by rw [if_pos rfl]) (by rw [if_pos rfl]) (by omega))
  · obtain ⟨p, hp⟩ : ∃ p, q = p + 1 := ⟨q - 1, by omega⟩
    have hpN : p < N := by omega
    obtain ⟨bs, hbs1⟩ : ∃ x, x = ((Rn.list F).getD p (0, 0)).1 := ⟨_, rfl⟩
    obtain ⟨bl, hbl1⟩ : ∃ x, x = ((Rn.list F).getD p (0, 0)).2 := ⟨_, rfl⟩
    have hspp := spl p hpN
    have hrp := hbs p hpN
    have hcp := ct.1 p (by omega)
    have Cp := Cc p hpN
    rw [show (Rn.list F).getD p (0, 0) = (bs, bl) by rw [hbs1, hbl1]] at hspp
    rw [← hbs1, ← hbl1] at hrp Cp
    rw [← hbs1] at hcp
    have before : ∀ x, x < p → ((Rn.list F).getD x (0, 0)).1 + ((Rn.list F).getD x (0, 0)).2 < bs := fun x hx => by have := srt x p hx hpN; omega
    rcases Nat.lt_trichotomy (bs + bl) a with h5 | h5 | h5
    · have before2 : ∀ x, x < q → ((Rn.list F).getD x (0, 0)).1 + ((Rn.list F).getD x (0, 0)).2 < a := fun x hx => by
        rcases Nat.lt_or_ge x p with hx' | hx'
        · have := before x hx'; omega
        · have : x = p := by omega
          rw [this]; omega
      rcases Nat.lt_or_ge q N with hqN | hqN
      · obtain ⟨az, haz⟩ : ∃ x, x = ((Rn.list F).getD q (0, 0)).1 := ⟨_, rfl⟩
        obtain ⟨al, hal⟩ : ∃ x, x = ((Rn.list F).getD q (0, 0)).2 := ⟨_, rfl⟩
        have hsp := spl q hqN
        have hr := hbs q hqN
        have hc := ct.2 q (Nat.le_refl _) hqN
        have Cq := Cc q hqN
        rw [show (Rn.list F).getD q (0, 0) = (az, al) by rw [haz, hal]] at hsp
        rw [← haz, ← hal] at hr Cq
        rw [← haz] at hc
        rcases Nat.lt_trichotomy az t with h8 | h8 | h8
        · exact gw_lt_bad hn hfit hfew.1 hfew.2.1 hfew.2.2 hp hrp.2 rfl h5 hqN hr.2 ht h8 c0 NB Cg Cp Cq (h.no (Rn.give_post hsp (by omega) (by omega)))
        · exact gw_lt_eq (q1 := q + 1) (l2 := n + al) hn hfit hfew.1 hfew.2.1 hfew.2.2 hp hrp.2 rfl h5 hqN hr.2 ht h8 rfl rfl c0 NB Cg Cp Cq
            (h.nr (e := az + al) (Nat.le_refl _) (by omega) (by omega) (.inl rfl) (.inr rfl) before2 (fun x h1 h2 => by have := srt q x (by omega) h2; omega) (by rw [if_pos rfl]) (by rw [if_neg (by omega)]; omega) (by omega))
        · exact gw_lt_gt hn hfit hfew.1 hfew.2.1 hfew.2.2 hp hrp.2 rfl h5 hqN hr.2 ht h8 c0 NB Cg Cp Cq
            (h.nr (e := a + n) (Nat.le_refl _) (Nat.le_refl _) (by omega) (.inl rfl) (.inl rfl) before2 (fun x h1 h2 => by
              rcases Nat.lt_or_ge q x with hx | hx
              · have := srt q x hx h2; omega
              · have : x = q := by omega
                rw [this]; omega) (by rw [if_pos rfl]) (by rw [if_pos rfl]) (by omega))
      · have hqN : q = N := by omega
        exact gw_lt_none hn hfit hfew.1 hfew.2.1 hfew.2.2 hp hrp.2 rfl h5 hqN c0 NB Cg Cp
          (h.nr (e := a + n) (Nat.le_refl _) (Nat.le_refl _) (by omega) (.inl rfl) (.inl rfl) before2 (fun x h1 h2 => by omega) (by rw [if_pos rfl]) (by rw [if_pos rfl]) (by omega))
    · rcases Nat.lt_or_ge q N with hqN | hqN
      · obtain ⟨az, haz⟩ : ∃ x, x = ((Rn.list F).getD q (0, 0)).1 := ⟨_, rfl⟩
        obtain ⟨al, hal⟩ : ∃ x, x = ((Rn.list F).getD q (0, 0)).2 := ⟨_, rfl⟩
        have hsp := spl q hqN
        have hr := hbs q hqN
        have hc := ct.2 q (Nat.le_refl _) hqN
        have Cq := Cc q hqN
        rw [show (Rn.list F).getD q (0, 0) = (az, al) by rw [haz, hal]] at hsp
        rw [← haz, ← hal] at hr Cq
        rw [← haz] at hc
        rcases Nat.lt_trichotomy az t with h8 | h8 | h8
        · exact gw_eq_bad (l1 := bl + n) hn hfit hfew.1 hfew.2.1 hfew.2.2 hp hrp.2 rfl h5 rfl hqN hr.2 ht h8 c0 NB Cg Cp Cq (h.no (Rn.give_post hsp (by omega) (by omega)))
        · exact gw_eq_eq (l1 := bl + n) (q1 := q + 1) (l2 := bl + n + al) hn hfit hfew.1 hfew.2.1 hfew.2.2 hp hrp.2 rfl h5 rfl hqN hr.2 ht h8 rfl rfl c0 NB Cg Cp Cq
            (h.nr (e := az + al) (by omega) (by omega) (by omega) (.inr (by omega)) (.inr rfl) before (fun x h1 h2 => by have := srt q x (by omega) h2; omega) (by rw [if_neg (by omega)]; omega) (by rw [if_neg (by omega)]; omega) (by omega))
        · exact gw_eq_gt (l1 := bl + n) hn hfit hfew.1 hfew.2.1 hfew.2.2 hp hrp.2 rfl h5 rfl hqN hr.2 ht h8 c0 NB Cg Cp Cq
            (h.nr (e := a + n) (by omega) (Nat.le_refl _) (by omega) (.inr (by omega)) (.inl rfl) before (fun x h1 h2 => by
              rcases Nat.lt_or_ge q x with hx | hx
              · have := srt q x hx h2; omega
              · have : x = q := by omega
                rw [this]; omega) (by rw [if_neg (by omega)]; omega) (by rw [if_pos rfl]) (by omega))
      · have hqN : q = N := by omega
        exact gw_eq_none (l1 := bl + n) hn hfit hfew.1 hfew.2.1 hfew.2.2 hp hrp.2 rfl h5 rfl hqN c0 NB Cg Cp
          (h.nr (e := a + n) (by omega) (Nat.le_refl _) (by omega) (.inr (by omega)) (.inl rfl) before (fun x h1 h2 => by omega) (by rw [if_neg (by omega)]; omega) (by rw [if_pos rfl]) (by omega))
    · exact gw_bad_none hn hfit hfew.1 hfew.2.1 hfew.2.2 hp hrp.2 rfl h5 c0 NB Cg Cp (h.no (Rn.give_pre hspp (by omega) (by omega)))
set_option maxHeartbeats 2000000 in
theorem give_any' (h : RepP w g X F) (a n : Int) (ha : I64 a) (hn : I64 n) : Calls Try.prog 56 #[.pointer (some ⟨g, 0, none⟩), .int .i64 a, .int .i64 n] w (GvP w g X F a n) := by
  obtain ⟨v, hV⟩ := h
  have few := hV.few
  by_cases hout : a < 0 ∨ n < 1 ∨ (F.length : Int) - a < n
  · have c0 : w.cell? ⟨g, 0, none⟩ = some (.int .i64 (F.length : Int)) := hV.blk.cell 0
    obtain ⟨M, hM⟩ : ∃ M, M = F.length := ⟨_, rfl⟩
    have Fin := Lib.hid (show GvP w g X F a n (.returned (.bool false)) w from by
      unfold GvP
      rw [Rn.give_out hout]
      exact ⟨rfl, opR_same hV (Below.refl _ _)⟩)
    rw [← hM] at c0 hout few
    have ha2 := ha.2
    have hn2 := hn.2
    clear hV hM hn ha
    by_cases h1 : a < 0
    · have z1 : decide (a < 0) = true := by rw [decide_eq_true_eq]; exact h1
      clear hout
      go_enter Try.func56, Try.ntmps56
      go_wp2_with fail
      go_ret
      exact Fin.out
    have z1 : decide (a < 0) = false := by rw [decide_eq_false_iff_not]; exact h1
    by_cases h2 : n < 1
    · have z2 : decide (n < 1) = true := by rw [decide_eq_true_eq]; exact h2
      clear hout
      go_enter Try.func56, Try.ntmps56
      go_wp2_with fail
      go_ret
      exact Fin.out
    have z2 : decide (n < 1) = false := by rw [decide_eq_false_iff_not]; exact h2
    have z3 : decide ((M : Int) - a < n) = true := by rw [decide_eq_true_eq]; omega
    have ha0 : 0 ≤ a := by omega
    clear hout
    go_enter Try.func56, Try.ntmps56
    go_wp2_with fail
    go_ret
    exact Fin.out
  · obtain ⟨p, rfl⟩ : ∃ p : Nat, a = (p : Int) := ⟨a.toNat, by omega⟩
    obtain ⟨m, rfl⟩ : ∃ m : Nat, n = (m : Int) := ⟨n.toNat, by omega⟩
    obtain ⟨gb, c, rfl, -⟩ := hV.form (fun e => by rw [e] at hout; simp at hout; omega)
    exact GvS.give (N := (Rn.list F).length) ⟨hV, rfl, by omega, by omega, rfl⟩
end
theorem runs0 : RunsC0 RepP where
  keep := fun ⟨v, h⟩ hk => ⟨v, h.keep hk⟩
  lt := fun ⟨_, h⟩ _ hb => h.lt hb
  few := fun ⟨_, h⟩ => h.few
  new := new_any
  take := take_any'
  mark := mark_any'
  give := give_any'
  free := free_any
end Go.Proofs.Ytaainefdjbmekaa
namespace Go.Proofs.Ytaainefdjbmekaa
open Go.RowKit
/-- What an operation leaves: the map and the counts, in old blocks of their own and in new ones. -/
def OpS (RepB : World → Nat → Nat → (Nat → Prop) → List Bool → List Sh.U → List Sh.U → Prop) (g gs : Nat) (X : Nat → Prop) (F : List Bool) (now was : List Sh.U) (w w' : World) : Prop :=
  ∃ X', RepB w' g gs X' F now was ∧ (∀ b, X' b → X b ∨ w.heap.size ≤ b) ∧ Chg X w w'
/-- What always holds of the two. -/
structure ShSt (F : List Bool) (now was : List Sh.U) : Prop where
  ok : Sh.StOk F now was
  few : UOk now
  few2 : UOk was
/-- A map and counts of one's own, above B. -/
structure MineS (RepB : World → Nat → Nat → (Nat → Prop) → List Bool → List Sh.U → List Sh.U → Prop) (B g gs : Nat) (F : List Bool) (now was : List Sh.U) (w0 w : World) : Prop where
  has : ∃ X, RepB w g gs X F now was ∧ ∀ b, X b → B ≤ b
  st : ShSt F now was
  bel : Below B w0 w
  few : B ≤ w.heap.size
section
variable {Rep : World → Nat → (Nat → Prop) → List Bool → Prop} {RepB : World → Nat → Nat → (Nat → Prop) → List Bool → List Sh.U → List Sh.U → Prop} {w0 w w' : World} {B g gs : Nat} {F F' : List Bool} {now now' was was' : List Sh.U}
theorem MineS.op (h : MineS RepB B g gs F now was w0 w) (hs : ShSt F' now' was') {f : Nat} {args : Array Value} {Q : Ending → Prop} (P : ∀ X, RepB w g gs X F now was → Calls Try.prog f args w fun e w' => Q e ∧ OpS RepB g gs X F' now' was' w w') :
    Calls Try.prog f args w fun e w' => Q e ∧ MineS RepB B g gs F' now' was' w0 w' := by
  obtain ⟨X, hr, hx⟩ := h.has
  refine (P X hr).mono ?_
  rintro e w' ⟨hq, X', h1, h2, h3⟩
  exact ⟨hq, ⟨X', h1, fun b hb => (h2 b hb).elim (hx b) (fun e => Nat.le_trans h.few e)⟩, hs, h.bel.trans (h3.below h.few hx), Nat.le_trans h.few h3.size⟩
end
end Go.Proofs.Ytaainefdjbmekaa
namespace Go.Proofs.Ytaainefdjbmekaa
open Go.RowKit
theorem Blk.typ {w : World} {b : Nat} {t t' : TypeId} {cs cs' : Array Value} (h : Blk w b t cs) (h' : Blk w b t' cs') : t = t' := by
  rw [Blk] at h h'
  rw [h] at h'
  injection h' with h'
  injection h'
theorem own_typ {w : World} {B size n b : Nat} {e t : TypeId} {v : Value} {xs : List Value} {cs : Array Value} (h : w.ownsRow B e size v n xs) (hb : v.ownBlock = some b) (h' : Blk w b t cs) : t = e := by
  rcases h.2 with ⟨rfl, -⟩ | ⟨g, c, cur, rfl, -, hg, -⟩
  · cases hb
  · injection hb with hb
    have hb : g = b := hb
    subst hb
    exact h'.typ (show Blk w g e cur from hg)
/-- The program's map at block g over the free blocks F (in the blocks Xr), and its counts at block gs: the row of runs l, which v holds. -/
structure RepSV (w : World) (g gs : Nat) (X Xr : Nat → Prop) (F : List Bool) (l : List Sk.K) (v : Value) : Prop where
  blk : Blk w gs 87 #[.pointer (some ⟨g, 0, none⟩), v]
  row : OwnK w 0 v l
  map : RepP w g Xr F
  asc : Sk.Asc l
  at_ : ∀ b, X b ↔ (Xr b ∨ b = gs ∨ v.ownBlock = some b)
def RepB (w : World) (g gs : Nat) (X : Nat → Prop) (F : List Bool) (now was : List Sh.U) : Prop := ∃ Xr l v, RepSV w g gs X Xr F l v ∧ now = Sk.ofN l ∧ was = Sk.ofW l
theorem RepP.typ {w : World} {g b : Nat} {X : Nat → Prop} {F : List Bool} (h : RepP w g X F) (hb : X b) {t : TypeId} {cs : Array Value} (h' : Blk w b t cs) : t = 80 ∨ t = 33 := by
  obtain ⟨v, hV⟩ := h
  rcases (hV.at_ b).1 hb with rfl | hb
  · exact .inl (h'.typ hV.blk)
  · exact .inr (own_typ hV.row hb h')
section
variable {w w' : World} {g gs : Nat} {X Xr : Nat → Prop} {F : List Bool} {l : List Sk.K} {v : Value}
theorem RepSV.keep (h : RepSV w g gs X Xr F l v) (hk : ∀ b, X b → w'.heap[b]? = w.heap[b]?) : RepSV w' g gs X Xr F l v :=
  ⟨h.blk.keep (hk gs ((h.at_ gs).2 (.inr (.inl rfl)))), own_keep h.row fun b hb _ => hk b ((h.at_ b).2 (.inr (.inr hb))), runs0.keep h.map fun b hb => hk b ((h.at_ b).2 (.inl hb)), h.asc, h.at_⟩
theorem RepSV.lt (h : RepSV w g gs X Xr F l v) {b : Nat} (hb : X b) : b < w.heap.size := by
  rcases (h.at_ b).1 hb with hb | rfl | hb
  · exact runs0.lt h.map b hb
  · exact h.blk.lt
  · exact (h.row.lt b hb).2
theorem RepSV.below (h : RepSV w g gs X Xr F l v) (hb : Below w.heap.size w w') : RepSV w' g gs X Xr F l v := h.keep fun b hX => hb.block b (h.lt hX)
/-- The row lies neither in the map nor in the block of the counts. -/
theorem RepSV.row_ne (h : RepSV w g gs X Xr F l v) {b : Nat} (hb : v.ownBlock = some b) : b ≠ gs ∧ ¬ Xr b := by
  refine ⟨?_, fun hX => ?_⟩
  · rintro rfl
    exact absurd (own_typ h.row hb h.blk) (by decide)
  · obtain ⟨cur, hcur⟩ : ∃ cur, Blk w b 84 cur := by
      rcases h.row.2 with ⟨h', _⟩ | ⟨g2, cap, cur, h', _, hg2, _⟩
      · subst h'; cases hb
      · subst h'; injection hb with hb; subst hb; exact ⟨cur, hg2⟩
    rcases h.map.typ hX hcur with h | h <;> exact absurd h (by decide)
theorem RepSV.gs_ne (h : RepSV w g gs X Xr F l v) : ¬ Xr gs := fun hX => by
  rcases h.map.typ hX h.blk with h | h <;> exact absurd h (by decide)
set_option maxRecDepth 8000 in
set_option maxHeartbeats 8000000 in
/-- slices.BinarySearchFunc at the program's runs. -/
theorem bsf_any (h : OwnK w 0 v l) (few : l.length ≤ 100000) (hs : Sk.Asc l) (t : Int) :
    Calls Try.prog 51 #[v, .int .i64 t, .func (.func 52) #[] #[]] w fun e w' => ∃ (i : Nat) (is : Bool), e = .returned (.tuple #[.int .i64 (i : Int), .bool is]) ∧ Sk.Found l t i is ∧ Below w.heap.size w w' := by
  obtain ⟨A, c, rfl, hc, hA⟩ := ownK_slice h
  obtain ⟨n, hn⟩ : ∃ n, n = l.length := ⟨_, rfl⟩
  have eg : ∀ a (W : World), (callFunc 52 a).run Try.prog W = .ok (.enter 52 a) W := fun a W => by kernel_rfl
  have H := Lib.hid (fun (W : World) (hb : Below w.heap.size w W) => (own_keep h fun b _ hlt => hb.block b hlt : OwnK W 0 (.slice A l.length c) l))
  have HS := Lib.hid hs
  have Hn := Lib.hid hn
  have hn5 : n ≤ 100000 := by rw [hn]; exact few
  rw [← hn]
  clear h hs few hn hA hc
  go_enter Try.func51, Try.ntmps51
  go_wp2_with fail
  go_loopw [9, 10] (fun s9 s10 wr => ∃ lo hi : Nat, s9 = .int .i64 (lo : Int) ∧ s10 = .int .i64 (hi : Int) ∧ lo ≤ hi ∧ hi ≤ n ∧ Below w.heap.size w wr ∧ (∀ j, j < lo → ((Sk.at_ l j).1 : Int) < t) ∧ ∀ j, hi ≤ j → j < n → t ≤ ((Sk.at_ l j).1 : Int)) (fun s9 s10 _ => (intOf s10).toNat - (intOf s9).toNat)
  case atStart => exact ⟨0, n, rfl, rfl, Nat.zero_le _, Nat.le_refl _, Below.refl _ _, fun j hj => absurd hj (Nat.not_lt_zero _), fun j h1 h2 => absurd h2 (Nat.not_lt.2 h1)⟩
  case round =>
    obtain ⟨lo, hi, rfl, rfl, hlh, hin, hb, i1, i2⟩ := hrel
    have I1 := Lib.hid i1
    have I2 := Lib.hid i2
    have HB := Lib.hid hb
    clear i1 i2 hb
    by_cases hlt : lo < hi
    · obtain ⟨mid, hm⟩ : ∃ mid : Nat, mid = (lo + hi) / 2 := ⟨_, rfl⟩
      have s1 : ((lo : Int) + (hi : Int)) / 2 = (mid : Int) := by omega
      have hmid : lo ≤ mid ∧ mid < hi := by omega
      have hmn : (mid : Int) < (n : Int) := by omega
      have d1 : decide ((lo : Int) < (hi : Int)) = true := by rw [decide_eq_true_eq]; omega
      have d1' : decide (lo < hi) = true := by rw [decide_eq_true_eq]; omega
      obtain ⟨gl, c', e, -, -, hcell⟩ := ownK_at (H.out wr HB.out) (by rw [← Hn.out]; omega)
      injection e with e e2 e3
      subst e
      subst e3
      clear e2
      obtain ⟨c1, c2, c3, c4⟩ := hcell mid (by rw [← Hn.out]; omega)
      clear hcell
      have XE := Lib.hid (rfl : Sk.at_ l mid = Sk.at_ l mid)
      obtain ⟨x, hx⟩ : ∃ x, x = (Sk.at_ l mid).1 := ⟨_, rfl⟩
      have Hx := Lib.hid hx
      rw [← hx] at c1
      clear hx XE
      generalize (Sk.at_ l mid).2.1 = x2 at *
      generalize (Sk.at_ l mid).2.2.1 = x3 at *
      generalize (Sk.at_ l mid).2.2.2 = x4 at *
      have N1 := Lib.hid (find1_any x x2 x3 x4 t wr)
      by_cases hxt : (x : Int) < t
      · rw [show cmpI (x : Int) t = -1 by unfold cmpI; rw [if_pos hxt]] at N1
        have Nx := Lib.hid (show ∀ j, j < mid + 1 → ((Sk.at_ l j).1 : Int) < t from fun j hj => by
          rcases Nat.lt_or_ge j mid with h | h
          · rcases Nat.lt_or_ge j lo with h' | h'
            · exact I1.out j h'
            · have := HS.out.lt h (by rw [← Hn.out]; omega); rw [← Hx.out] at this; omega
          · rw [show j = mid by omega, ← Hx.out]; exact hxt)
        clear hxt hm
        go_wp2_with (go_at_fn 52; refine N1.out.mono ?_; rintro e w2 ⟨rfl, h2⟩)
        have H2 := Lib.hid (HB.out.trans (h2.mono HB.out.size))
        clear h2
        go_wp2_with fail
        go_roundw
        case rel => exact ⟨mid + 1, hi, by go_num, rfl, by omega, by omega, H2.out, Nx.out, I2.out⟩
        case measure => simp [intOf]; omega
      · obtain ⟨cv, hcv⟩ : ∃ cv, cv = cmpI (x : Int) t := ⟨_, rfl⟩
        have q1 : decide (cv < 0) = false := by rw [decide_eq_false_iff_not, hcv]; unfold cmpI; rw [if_neg hxt]; split <;> omega
        rw [← hcv] at N1
        have Nx := Lib.hid (show ∀ j, mid ≤ j → j < n → t ≤ ((Sk.at_ l j).1 : Int) from fun j h1 h2 => by
          rcases Nat.eq_or_lt_of_le h1 with h | h
          · rw [← h, ← Hx.out]; omega
          · have := HS.out.lt h (by rw [← Hn.out]; omega); rw [← Hx.out] at this; omega)
        clear hxt hm hcv
        go_wp2_with (go_at_fn 52; refine N1.out.mono ?_; rintro e w2 ⟨rfl, h2⟩)
        have H2 := Lib.hid (HB.out.trans (h2.mono HB.out.size))
        clear h2
        go_wp2_with fail
        go_roundw
        case rel => exact ⟨lo, mid, rfl, rfl, by omega, by omega, H2.out, I1.out, Nx.out⟩
        case measure => simp [intOf]; omega
    · obtain rfl : lo = hi := by omega
      have d1 : decide ((lo : Int) < (lo : Int)) = false := by simp
      have d1' : decide (lo < lo) = false := by simp
      by_cases hn0 : lo < n
      · have d2 : decide ((lo : Int) < (n : Int)) = true := by rw [decide_eq_true_eq]; omega
        have d2' : decide (lo < n) = true := by rw [decide_eq_true_eq]; omega
        obtain ⟨gl, c', e, -, -, hcell⟩ := ownK_at (H.out wr HB.out) (by rw [← Hn.out]; omega)
        injection e with e e2 e3
        subst e
        subst e3
        clear e2
        obtain ⟨c1, c2, c3, c4⟩ := hcell lo (by rw [← Hn.out]; omega)
        clear hcell
        obtain ⟨x, hx⟩ : ∃ x, x = (Sk.at_ l lo).1 := ⟨_, rfl⟩
        have Hx := Lib.hid hx
        rw [← hx] at c1
        clear hx
        generalize (Sk.at_ l lo).2.1 = x2 at *
        generalize (Sk.at_ l lo).2.2.1 = x3 at *
        generalize (Sk.at_ l lo).2.2.2 = x4 at *
        have N1 := Lib.hid (find1_any x x2 x3 x4 t wr)
        obtain ⟨cv, hcv⟩ : ∃ cv, cv = cmpI (x : Int) t := ⟨_, rfl⟩
        rw [← hcv] at N1
        obtain ⟨is, his⟩ : ∃ is, is = decide ((x : Int) = t) := ⟨_, rfl⟩
        have q1 : (cv == 0) = is := by
          rw [hcv, his]
          have := I2.out lo (Nat.le_refl _) hn0
          rw [← Hx.out] at this
          unfold cmpI
          rw [if_neg (by omega)]
          by_cases h : t < (x : Int)
          · rw [if_pos h, decide_eq_false (by omega)]; rfl
          · rw [if_neg h, decide_eq_true (by omega)]; rfl
        have Fin := Lib.hid (show Sk.Found l t lo is from ⟨by rw [← Hn.out]; exact hin, I1.out, fun j h1 h2 => I2.out j h1 (by rw [Hn.out]; exact h2), by rw [his, decide_eq_true (show lo < l.length by rw [← Hn.out]; exact hn0), Bool.true_and, Hx.out]⟩)
        clear hcv his
        go_wp2_with (go_at_fn 52; refine N1.out.mono ?_; rintro e w2 ⟨rfl, h2⟩)
        have H2 := Lib.hid (HB.out.trans (h2.mono HB.out.size))
        clear h2
        go_wp2_with fail
        go_returns
        exact ⟨lo, is, rfl, Fin.out, H2.out⟩
      · have d2 : decide ((lo : Int) < (n : Int)) = false := by rw [decide_eq_false_iff_not]; omega
        have d2' : decide (lo < n) = false := by rw [decide_eq_false_iff_not]; omega
        have Fin := Lib.hid (show Sk.Found l t lo false from ⟨by rw [← Hn.out]; exact hin, I1.out, fun j h1 h2 => I2.out j h1 (by rw [Hn.out]; exact h2), by rw [decide_eq_false (show ¬ lo < l.length by rw [← Hn.out]; exact hn0), Bool.false_and]⟩)
        go_wp2_with fail
        go_returns
        exact ⟨lo, false, rfl, Fin.out, HB.out⟩
set_option maxHeartbeats 2000000 in
theorem find_any (h : RepSV w g gs X Xr F l v) (few : l.length ≤ 100000) (a : Int) :
    Calls Try.prog 30 #[.pointer (some ⟨gs, 0, none⟩), .int .i64 a] w fun e w' => ∃ (i : Nat) (is : Bool), e = .returned (.tuple #[.int .i64 (i : Int), .bool is]) ∧ Sk.Found l a i is ∧ Below w.heap.size w w' := by
  have c1 : w.cell? ⟨gs, 1, none⟩ = some v := h.blk.cell 1
  have N1 := Lib.hid (bsf_any h.row few h.asc a)
  obtain ⟨A, c, rfl, -, -⟩ := ownK_slice h.row
  clear h
  go_enter Try.func30, Try.ntmps30
  go_wp2_with fail
  refine N1.out.mono ?_
  rintro e w1 ⟨i, is, rfl, hf, hb⟩
  have HF := Lib.hid hf
  have HB := Lib.hid hb
  clear hf hb N1
  go_wp2_with fail
  go_returns
  exact ⟨i, is, rfl, HF.out, HB.out⟩
end
end Go.Proofs.Ytaainefdjbmekaa
namespace Go.Proofs.Ytaainefdjbmekaa
open Go.RowKit
/-- slices.Insert of one run, whatever the row. -/
theorem sins_all {w : World} {B Bv i vb a n : Nat} {v : Value} {l : List Sk.K} (hB : B ≤ w.heap.size) (h : OwnK w B v l) (hv : w.ownsRow Bv 84 4 (.slice (some ⟨vb, 0, none⟩) 1 1) 1 (kcs [(a, n, 1, 0)])) (hne : v.ownBlock ≠ some vb) (hi : i ≤ l.length) (hbig : l.length + 1 ≤ 100000) :
    Calls Try.prog 78 #[v, .int .i64 (i : Int), .slice (some ⟨vb, 0, none⟩) 1 1] w (RepS B v.ownBlock (l.length + 1) (kcs (Sk.insK l i a n)) w) := by
  have e : kcs (Sk.insK l i a n) = (kcs l).take (i * 4) ++ kcs [(a, n, 1, 0)] ++ (kcs l).drop (i * 4) := by
    unfold Sk.insK
    rw [kcs_app, kcs_app, kcs_take, kcs_drop]
  rw [e]
  have h1 := kcs_one l
  have hv1 := kcs_one [(a, n, 1, 0)]
  rcases h.2 with ⟨rfl, h0⟩ | ⟨g, c, cur, rfl, _⟩
  · have hl0 : l = [] := List.eq_nil_of_length_eq_zero h0
    subst hl0
    have hi0 : i = 0 := by simpa using hi
    subst hi0
    exact sins_nil hB hv (Nat.le_refl _) hv1 (by decide)
  · exact sinsert_any h hv (fun e => hne (by rw [e]; rfl)) (Nat.le_refl _) hi h1 hv1 hbig
section
variable {w w1 w2 : World} {g gs : Nat} {X Xr : Nat → Prop} {F : List Bool} {l l2 : List Sk.K} {v v2 : Value}
theorem opS_same (h : RepSV w g gs X Xr F l v) (hb : Below w.heap.size w w1) : OpS RepB g gs X F (Sk.ofN l) (Sk.ofW l) w w1 :=
  ⟨X, ⟨Xr, l, v, h.below hb, rfl, rfl⟩, fun _ hX => .inl hX, Chg.of_below X hb⟩
/-- The row put anew: how a change ends. -/
theorem sput_fin (h : RepSV w g gs X Xr F l v) (hb : Below w.heap.size w w1) (hr : OwnK w2 0 v2 l2) (hg : w1.grownBy w2 v.ownBlock) (ho : v2.ownBlock = v.ownBlock ∨ v2.ownBlock = some w1.heap.size) (hs : Sk.Asc l2) :
    Blk w2 gs 87 #[.pointer (some ⟨g, 0, none⟩), v] ∧ OpS RepB g gs X F (Sk.ofN l2) (Sk.ofW l2) w (w2.setCell ⟨gs, 1, none⟩ v2) := by
  have hgs : gs < w.heap.size := h.blk.lt
  have hXg : X gs := (h.at_ gs).2 (.inr (.inl rfl))
  have hrow : v.ownBlock ≠ some gs := fun e => (h.row_ne e).1 rfl
  have hv2 : v2.ownBlock ≠ some gs := by
    rcases ho with e | e <;> rw [e]
    · exact hrow
    · intro h'; injection h' with h'; have := hb.size; omega
  have hblk : Blk w2 gs 87 #[.pointer (some ⟨g, 0, none⟩), v] := (h.blk.keep (hb.block gs hgs)).grown hg hrow
  have hc : Chg X w w2 := (Chg.of_below X hb).grown hg fun k hk => .inl ((h.at_ k).2 (.inr (.inr hk)))
  refine ⟨hblk, fun b => Xr b ∨ b = gs ∨ v2.ownBlock = some b, ⟨Xr, l2, v2, ⟨hblk.set_ 1 v2, own_far hr hv2 v2, runs0.keep h.map fun b hX => ?_, hs, fun b => Iff.rfl⟩, rfl, rfl⟩, fun b hbx => ?_, hc.setCell (p := ⟨gs, 1, none⟩) (.inl hXg) v2⟩
  · have hlt := runs0.lt h.map b hX
    have e1 : (w2.setCell ⟨gs, 1, none⟩ v2).heap[b]? = w2.heap[b]? := Below.heap_setCell w2 _ v2 b (fun e => h.gs_ne (by have e : b = gs := e; rw [← e]; exact hX))
    rw [e1, hg.block b (Nat.lt_of_lt_of_le hlt hb.size) (fun e => (h.row_ne e.symm).2 hX)]
    exact hb.block b hlt
  · rcases hbx with hX | rfl | hbx
    · exact .inl ((h.at_ b).2 (.inl hX))
    · exact .inl hXg
    · rcases ho with e | e
      · rw [e] at hbx; exact .inl ((h.at_ b).2 (.inr (.inr hbx)))
      · rw [e] at hbx; injection hbx with hbx; exact .inr (by rw [← hbx]; exact hb.size)
/-- One cell of the row changed. -/
theorem scell_fin {b c j : Nat} {u : Value} (h : RepSV w g gs X Xr F l (.slice (some ⟨b, 0, none⟩) l.length c)) (hb : Below w.heap.size w w1) (he : (kcs l).set j u = kcs l2) (hl : l2.length = l.length) (hs : Sk.Asc l2) :
    OpS RepB g gs X F (Sk.ofN l2) (Sk.ofW l2) w (w1.setCell ⟨b, j, none⟩ u) := by
  obtain ⟨hne, hnX⟩ := h.row_ne (b := b) rfl
  have hXb : X b := (h.at_ b).2 (.inr (.inr rfl))
  have h1 := h.below hb
  refine ⟨X, ⟨Xr, l2, _, ⟨h1.blk.far (p := ⟨b, j, none⟩) hne u, ?_, runs0.keep h1.map fun k hX => Below.heap_setCell w1 ⟨b, j, none⟩ u k (fun e => hnX (by have e : k = b := e; rw [← e]; exact hX)), hs, h.at_⟩, rfl, rfl⟩, fun _ hX => .inl hX, (Chg.of_below X hb).setCell (p := ⟨b, j, none⟩) (.inl hXb) u⟩
  have := (h1.row.stored j u).1
  rw [he] at this
  show World.ownsRow _ _ _ _ _ _ _
  rw [hl]
  exact this
set_option maxHeartbeats 2000000 in
theorem snew_any' {X : Nat → Prop} (h : RepP w g X F) : Calls Try.prog 26 #[.pointer (some ⟨g, 0, none⟩)] w fun e w' => ∃ gs, e = .returned (.pointer (some ⟨gs, 0, none⟩)) ∧ OpS RepB g gs X F [] [] w w' := by
  obtain ⟨b, hb⟩ : ∃ b, w.heap.size = b := ⟨_, rfl⟩
  obtain ⟨W, hW⟩ : ∃ W, w.alloc (.cells #[.pointer (some ⟨g, 0, none⟩), .slice none 0 0] 87) = W := ⟨_, rfl⟩
  have hal : Below w.heap.size w W := by rw [← hW]; exact (Below.refl _ _).alloc (Nat.le_refl _) _
  have hbk : Blk W b 87 #[.pointer (some ⟨g, 0, none⟩), .slice none 0 0] := by rw [← hW, ← hb]; exact Blk.new _ _ _
  have hmap : RepP W g X F := runs0.keep h fun b hX => hal.block b (runs0.lt h b hX)
  have Fin := Lib.hid (show ∃ gs, Ending.returned (.pointer (some ⟨b, 0, none⟩)) = Ending.returned (.pointer (some ⟨gs, 0, none⟩)) ∧ OpS RepB g gs X F [] [] w W from
    ⟨b, rfl, fun x => X x ∨ x = b ∨ (Value.slice none 0 0).ownBlock = some x, ⟨X, [], _, ⟨hbk, World.ownsRow_nil _ _ _ _, hmap, List.Pairwise.nil, fun _ => Iff.rfl⟩, rfl, rfl⟩, (fun x hx => by
      rcases hx with hx | hx | hx
      · exact .inl hx
      · exact .inr (by omega)
      · cases hx), Chg.of_below X hal⟩)
  clear hal hbk hmap h
  go_enter Try.func26, Try.ntmps26
  go_wp2_with fail
  go_ret
  exact Fin.out
set_option maxRecDepth 8000 in
set_option maxHeartbeats 8000000 in
theorem sadd_any' (h : RepSV w g gs X Xr F l v) (hk : KB l) (a n : Int) (hok : UOk (Sh.add (Sk.ofN l) a n).2) :
    Calls Try.prog 47 #[.pointer (some ⟨gs, 0, none⟩), .agg #[.int .i64 a, .int .i64 n]] w fun e w' => e = .returned (.bool (Sh.add (Sk.ofN l) a n).1) ∧ OpS RepB g gs X F (Sh.add (Sk.ofN l) a n).2 (Sk.ofW l) w w' := by
  obtain ⟨R, hR⟩ : ∃ R, R = Sh.add (Sk.ofN l) a n := ⟨_, rfl⟩
  rw [← hR] at hok ⊢
  obtain ⟨b0, hb0⟩ : ∃ g, w.heap.size = g := ⟨_, rfl⟩
  obtain ⟨W, hW⟩ : ∃ W, w.alloc (.cells #[.int .i64 a, .int .i64 n] 33) = W := ⟨_, rfl⟩
  have hal : Below w.heap.size w W := by rw [← hW]; exact (Below.refl _ _).alloc (Nat.le_refl _) _
  have bx : Blk W b0 33 #[.int .i64 a, .int .i64 n] := by rw [← hW, ← hb0]; exact Blk.new _ _ _
  have x0 : W.cell? ⟨b0, 0, none⟩ = some (.int .i64 a) := bx.cell 0
  have x1 : W.cell? ⟨b0, 1, none⟩ = some (.int .i64 n) := bx.cell 1
  have HAl := Lib.hid hal
  have BX := Lib.hid bx
  have H := Lib.hid h
  have N1 := Lib.hid (find_any (h.below hal) hk.few a)
  have few := hk.few
  clear hal bx
  by_cases h1 : n < 1
  · rw [Sk.add_no (l := l) (.inl h1)] at hR
    subst hR
    have z1 : decide (n < 1) = true := by rw [decide_eq_true_eq]; exact h1
    have Fin := Lib.hid (opS_same h HAl.out)
    clear h1 hok N1 h hk few
    go_enter Try.func47, Try.ntmps47
    go_wp2_with fail
    go_ret
    exact ⟨rfl, Fin.out⟩
  have z1 : decide (n < 1) = false := by rw [decide_eq_false_iff_not]; exact h1
  by_cases h2 : a < 0
  · rw [Sk.add_no (l := l) (.inr h2)] at hR
    subst hR
    have z2 : decide (a < 0) = true := by rw [decide_eq_true_eq]; exact h2
    have Fin := Lib.hid (opS_same h HAl.out)
    clear h1 h2 hok N1 h hk few
    go_enter Try.func47, Try.ntmps47
    go_wp2_with fail
    go_ret
    exact ⟨rfl, Fin.out⟩
  have z2 : decide (a < 0) = false := by rw [decide_eq_false_iff_not]; exact h2
  obtain ⟨a', rfl⟩ : ∃ m : Nat, a = (m : Int) := ⟨a.toNat, by omega⟩
  obtain ⟨n', rfl⟩ : ∃ m : Nat, n = (m : Int) := ⟨n.toNat, by omega⟩
  have HOK := Lib.hid hok
  have HR := Lib.hid hR
  have Hn1 := Lib.hid (show 1 ≤ n' by omega)
  obtain ⟨q, hq⟩ : ∃ q, q = l.length := ⟨_, rfl⟩
  have Hq := Lib.hid hq
  obtain ⟨A, c, rfl, -, -⟩ := ownK_slice h.row
  have Kc := Lib.hid (fun (W' : World) (hb : Below w.heap.size w W') => show W'.cell? ⟨gs, 1, none⟩ = some (.slice A q c) by rw [hq]; exact ((h.below hb).blk.cell 1))
  clear hok h hk h1 h2 hq hR
  go_enter Try.func47, Try.ntmps47
  go_wp2_with fail
  refine N1.out.mono ?_
  rintro e w1 ⟨i, is, rfl, hf, hb1⟩
  clear N1
  have HF := Lib.hid hf
  have HB1 := Lib.hid (HAl.out.trans (hb1.mono HAl.out.size))
  have X0 := Lib.hid ((hb1.cell (p := ⟨b0, 0, none⟩) BX.out.lt).trans x0)
  have X1 := Lib.hid ((hb1.cell (p := ⟨b0, 1, none⟩) BX.out.lt).trans x1)
  clear hf hb1 x0 x1
  cases is with
  | true =>
    have Fin := Lib.hid (show Ending.returned (.bool false) = Ending.returned (.bool R.1) ∧ OpS RepB g gs X F R.2 (Sk.ofW l) w w1 from by rw [HR.out, Sk.add_known HF.out]; exact ⟨rfl, opS_same H.out HB1.out⟩)
    go_wp2_with fail
    go_ret
    exact Fin.out
  | false =>
    have hadd := HR.out.trans (Sk.add_new H.out.asc HF.out Hn1.out)
    have hR2 : R.2 = Sk.ofN (Sk.insK l i a' n') := by rw [hadd]
    have hR1 : R.1 = true := by rw [hadd]
    rw [hR2] at HOK
    have HR2 := Lib.hid hR2
    have HR1 := Lib.hid hR1
    clear hadd hR2 hR1
    have hiq : i ≤ q := by rw [Hq.out]; exact HF.out.le
    have hl1 : q + 1 ≤ 100000 := by have := HOK.out.1; rw [Sk.ofN_len, Sk.insK_len _ _ _ _ HF.out.le, ← Hq.out] at this; exact this
    have x0 := X0.out
    have x1 := X1.out
    have g1 := Kc.out w1 HB1.out
    obtain ⟨Wb, hWb⟩ : ∃ Wb, w1.drew.alloc (.cells #[.int .i64 (a' : Int), .int .i64 (n' : Int), .int .i64 1, .int .i64 0] 84) = Wb := ⟨_, rfl⟩
    have HBb := Lib.hid (show Below w.heap.size w Wb by rw [← hWb]; exact HB1.out.drew.alloc HB1.out.size _)
    have hsz : w1.heap.size < Wb.heap.size := by rw [← hWb]; simp
    have hrow : Wb.ownsRow 0 84 4 (.slice (some ⟨w1.heap.size, 0, none⟩) 1 1) 1 (kcs [(a', n', 1, 0)]) := by
      have h := World.ownsRow_lit (base := 0) (e := 84) (size := 4) w1.drew #[.int .i64 (a' : Int), .int .i64 (n' : Int), .int .i64 1, .int .i64 0] 1 (Nat.zero_le _) (by unfold maxLen; omega) rfl
      rw [hWb] at h
      exact h
    have hB := H.out.below HBb.out
    have NI := Lib.hid (show Calls Try.prog 78 #[.slice A q c, .int .i64 (i : Int), .slice (some ⟨w1.heap.size, 0, none⟩) 1 1] Wb fun e w9 => ∃ A9 p9 c9, e = .returned (.slice A9 p9 c9) ∧ w9.cell? ⟨gs, 1, none⟩ = some (.slice A q c) ∧ w9.frozen? ⟨gs, 1, none⟩ = false ∧ (Ending.returned (.bool true) = Ending.returned (.bool R.1) ∧ OpS RepB g gs X F R.2 (Sk.ofW l) w (w9.setCell ⟨gs, 1, none⟩ (.slice A9 p9 c9))) by
      rw [Hq.out]
      refine (sins_all (B := 0) (a := a') (n := n') (Nat.zero_le _) hB.row hrow (fun e => ?_) HF.out.le (by rw [← Hq.out]; exact hl1)).mono ?_
      · have := (H.out.row.lt _ e).2
        have := HB1.out.size
        omega
      · rintro e w9 ⟨v9, rfl, o9, gr9, ow9⟩
        have o9' : OwnK w9 0 v9 (Sk.insK l i a' n') := by
          unfold OwnK
          rw [Sk.insK_len _ _ _ _ HF.out.le]
          exact o9
        obtain ⟨A9, c9, rfl⟩ := own_slice o9
        obtain ⟨hbk, hop⟩ := sput_fin H.out HBb.out o9' gr9 ow9 (Sk.asc_ins H.out.asc HF.out n')
        rw [Sk.ofW_ins] at hop
        exact ⟨_, _, _, rfl, hbk.cell 1, hbk.frozen 1, by rw [HR1.out], by rw [HR2.out]; exact hop⟩)
    have gb1 : Wb.cell? ⟨gs, 1, none⟩ = some (.slice A q c) := Kc.out Wb HBb.out
    have hbsz : w1.drew.heap.size = w1.heap.size := rfl
    have hi8 : i ≤ 100000 := by omega
    clear hsz hrow hB X0 X1 HF HOK HR1 HR2 HR
    go_wp2_with fail
    go_region_with (go_at_call 78; ((with_reducible refine NI.out.mono ?_); rintro e9 w9 ⟨A9, p9, c9, rfl, cg9, fg9, hfin⟩; have Fin := Lib.hid hfin; clear hfin))
    all_goals
      go_wp2_with fail
      first | exact Fin.out | (go_ret; exact Fin.out)
end
end Go.Proofs.Ytaainefdjbmekaa
