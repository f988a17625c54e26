/- The program's map and counts beside the document's; the statements' same. -/
import Derived.Test.YtfiafgmlbejboaaShbk
import Derived.Test.YtfiafgmlbejboaaSlst
import Derived.Test.YtfiafgmlbejboaaScha
import Derived.Test.YtfiafgmlbejboaaRtak
namespace Go.Proofs.Ytfiafgmlbejboaa
open Go.RowKit

/-- No row of the document's uses changes, and no deed. -/
def KeepU (w w' : World) : Prop := ∀ (b : Nat) (cs : Array Value) (t : TypeId), t = 80 ∨ t = 50 → Blk w b t cs → w'.heap[b]? = w.heap[b]?
/-- The program says P, the document D. -/
structure Twin (RepB : World → Nat → Nat → (Nat → Prop) → List Bool → List Sh.U → List Sh.U → Prop) (B g gs gm gb gk : Nat) (F : List Bool) (now was : List Sh.U) (F' : List Bool) (now' was' : List Sh.U) (w0 w : World) : Prop where
  far : FarS RepB B (fun b => b < B ∨ b = gm ∨ b = gb ∨ b = gk) g gs F now was w0 w
  ref : SRef w B gk gm gb F' now' was'
  newm : B ≤ gm
  newb : B ≤ gb
  newk : B ≤ gk
theorem own_use {w : World} {B : Nat} {v : Value} {l : List Sh.U} (h : OwnU w B v l) {b : Nat} (hb : v.ownBlock = some b) : ∃ cur, Blk w b 80 cur := by
  rcases h.2 with ⟨h', _⟩ | ⟨g2, cap, cur, h', _, hg2, _⟩
  · subst h'; cases hb
  · subst h'; injection hb with hb; subst hb; exact ⟨cur, hg2⟩
section
variable {Rep : World → Nat → (Nat → Prop) → List Bool → Prop} {RepB : World → Nat → Nat → (Nat → Prop) → List Bool → List Sh.U → List Sh.U → Prop} {B g gs gm gb gk : Nat} {F F' F1 : List Bool} {now was now' was' now1 was1 : List Sh.U} {w0 w w' : World} {O : Nat → Prop}
theorem SRef.keepU (h : SRef w B gk gm gb F now was) (hk : w'.heap[gk]? = w.heap[gk]?) (hm : w'.heap[gm]? = w.heap[gm]?) (hb : w'.heap[gb]? = w.heap[gb]?) (hu : KeepU w w') : SRef w' B gk gm gb F now was := by
  obtain ⟨v1, v2, h1, h2, h3⟩ := h.sh
  refine ⟨⟨v1, v2, h1.keep hk, own_keep h2 fun b hb _ => ?_, own_keep h3 fun b hb _ => ?_⟩, h.map.keep hm hb, h.ok, h.ok2⟩
  · obtain ⟨cur, hc⟩ := own_use h2 hb
    exact hu b cur _ (.inl rfl) hc
  · obtain ⟨cur, hc⟩ := own_use h3 hb
    exact hu b cur _ (.inl rfl) hc
theorem FarS.op2 (hS : ShC Rep RepB) (h : FarS RepB B O g gs F now was w0 w) (hs : ShSt F' now' was') {f : Nat} {args : Array Value} {Q : Ending → Prop} (P : ∀ X, RepB w g gs X F now was → Calls Try.prog f args w fun e w' => Q e ∧ OpS RepB g gs X F' now' was' w w') :
    Calls Try.prog f args w fun e w' => Q e ∧ FarS RepB B O g gs F' now' was' w0 w' ∧ Chg (fun b => ¬ O b) w w' ∧ KeepU w w' := by
  obtain ⟨X, hr, hx⟩ := h.has
  refine (P X hr).mono ?_
  rintro e w' ⟨hq, X', h1, h2, h3⟩
  have hc := h3.mono hx
  refine ⟨hq, ⟨⟨X', h1, fun b hb ho => (h2 b hb).elim (fun e => hx b e ho) (fun e => by have := h.old b ho; omega)⟩, fun b hb => Nat.lt_of_lt_of_le (h.old b hb) h3.size, h.low, hs, ?_, Nat.le_trans h.few h3.size⟩, hc, fun b cs t ht hb => h3.block b (Blk.lt hb) fun hX => by
    obtain ⟨n1, n2⟩ := hS.typ hr b cs t hX hb
    exact ht.elim n1 n2⟩
  exact h.bel.trans (hc.below h.few fun b hb => Nat.le_of_not_lt fun e => hb (h.low b e))
theorem Twin.below (hS : ShC Rep RepB) (h : Twin RepB B g gs gm gb gk F now was F' now' was' w0 w) (hb : Below w.heap.size w w') : Twin RepB B g gs gm gb gk F now was F' now' was' w0 w' :=
  ⟨h.far.below hS hb, h.ref.below hb, h.newm, h.newb, h.newk⟩
/-- The program does it. -/
theorem Twin.prog (hS : ShC Rep RepB) (h : Twin RepB B g gs gm gb gk F now was F' now' was' w0 w) (hs : ShSt F1 now1 was1) {f : Nat} {args : Array Value} {Q : Ending → Prop} (P : ∀ X, RepB w g gs X F now was → Calls Try.prog f args w fun e w' => Q e ∧ OpS RepB g gs X F1 now1 was1 w w') :
    Calls Try.prog f args w fun e w' => Q e ∧ Twin RepB B g gs gm gb gk F1 now1 was1 F' now' was' w0 w' ∧ KeepU w w' := by
  refine (h.far.op2 hS hs P).mono ?_
  rintro e w' ⟨hq, hf, hc, hu⟩
  obtain ⟨v1, v2, h1, -, -⟩ := h.ref.sh
  exact ⟨hq, ⟨hf, h.ref.keepU (hc.block gk h1.lt fun hn => hn (.inr (.inr (.inr rfl)))) (hc.block gm h.ref.map.map.lt fun hn => hn (.inr (.inl rfl))) (hc.block gb h.ref.map.blks.lt fun hn => hn (.inr (.inr (.inl rfl)))) hu, h.newm, h.newb, h.newk⟩, hu⟩
/-- The document does it. -/
theorem Twin.doc (hS : ShC Rep RepB) (h : Twin RepB B g gs gm gb gk F now was F' now' was' w0 w) {f : Nat} {args : Array Value} {Q : Ending → Prop} (P : SRef w B gk gm gb F' now' was' → B ≤ w.heap.size → Calls Try.prog f args w fun e w' => Q e ∧ SRef w' B gk gm gb F1 now1 was1 ∧ Chg (fun b => b = gk ∨ b = gb) w w') :
    Calls Try.prog f args w fun e w' => Q e ∧ Twin RepB B g gs gm gb gk F now was F1 now1 was1 w0 w' ∧ KeepU w w' := by
  obtain ⟨v1, v2, bk, -, -⟩ := h.ref.sh
  have bb := h.ref.map.blks
  refine (P h.ref h.far.few).mono ?_
  rintro e w' ⟨hq, hr, hc⟩
  refine ⟨hq, ⟨h.far.step hS (hc.mono fun b hb => hb.elim (fun e => .inr (.inr (.inr e))) (fun e => .inr (.inr (.inl e)))) (fun b ho => ⟨.inl ho, Nat.lt_of_lt_of_le (h.far.old b ho) hc.size⟩) h.far.low (h.far.bel.trans (hc.below h.far.few fun b hb => ?_)), hr, h.newm, h.newb, h.newk⟩, fun b cs t ht hb => hc.block b (Blk.lt hb) fun e => ?_⟩
  · rcases hb with rfl | rfl
    · exact h.newk
    · exact h.newb
  · rcases e with rfl | rfl
    · rcases ht with rfl | rfl
      · exact (Blk.ne_ (g := b) (g' := b) hb bk (by decide)) rfl
      · exact (Blk.ne_ (g := b) (g' := b) hb bk (by decide)) rfl
    · rcases ht with rfl | rfl
      · exact (Blk.ne_ (g := b) (g' := b) hb bb (by decide)) rfl
      · exact (Blk.ne_ (g := b) (g' := b) hb bb (by decide)) rfl
/-- The program's map does it. -/
theorem Twin.map (hS : ShC Rep RepB) (h : Twin RepB B g gs gm gb gk F now was F' now' was' w0 w) (hs : ShSt F1 now was) {f : Nat} {args : Array Value} {Q : Ending → Prop} (P : ∀ X, Rep w g X F → Calls Try.prog f args w fun e w' => Q e ∧ OpR Rep g X F1 w w') :
    Calls Try.prog f args w fun e w' => Q e ∧ Twin RepB B g gs gm gb gk F1 now was F' now' was' w0 w' ∧ KeepU w w' :=
  h.prog hS hs fun _ hr => by
    obtain ⟨Xr, h1, _, h3⟩ := hS.map hr
    exact (P Xr h1).mono fun _ w' ⟨hq, ho⟩ => ⟨hq, h3 w' F1 ho⟩
/-- The document's map does it. -/
theorem SRef.mapR (h : SRef w B gk gm gb F now was) {w' : World} (hr : RRef w' gm gb F1) (hc : Chg (fun b => b = gb) w w') : SRef w' B gk gm gb F1 now was := by
  obtain ⟨v1, v2, h1, h2, h3⟩ := h.sh
  have key : ∀ {v : Value} {l : List Sh.U}, OwnU w B v l → OwnU w' B v l := fun hu => own_keep hu fun b hb hlt => hc.block b hlt fun e => by
    obtain ⟨cur, hcur⟩ := own_use hu hb
    subst e
    exact (Blk.ne_ (g := b) (g' := b) hcur h.map.blks (by decide)) rfl
  exact ⟨⟨v1, v2, h1.keep (hc.block gk h1.lt fun e => (h1.ne_ h.map.blks (by decide)) e), key h2, key h3⟩, hr, h.ok, h.ok2⟩
theorem Twin.same11 (hC : RunsC Rep) (hS : ShC Rep RepB) (h : Twin RepB B g gs gm gb gk F now was F now was w0 w) :
    Calls Try.prog 21 #[.pointer (some ⟨g, 0, none⟩), .pointer (some ⟨gm, 0, none⟩)] w fun e w' => e = .returned (.bool true) ∧ Twin RepB B g gs gm gb gk F now was F now was w0 w' := by
  obtain ⟨X, hr, _⟩ := h.far.has
  obtain ⟨Xr, h1, _, _⟩ := hS.map hr
  exact (same_any hC h1 h.ref.map).mono fun _ _ ⟨e, hb⟩ => ⟨e, h.below hS hb⟩
theorem Twin.drew (hS : ShC Rep RepB) (h : Twin RepB B g gs gm gb gk F now was F' now' was' w0 w) : Twin RepB B g gs gm gb gk F now was F' now' was' w0 w.drew := h.below hS (Below.refl _ _).drew
end

set_option maxRecDepth 8000 in
set_option maxHeartbeats 16000000 in
/-- Both say the same: the statements' same says so. -/
theorem shsame_any {Rep : World → Nat → (Nat → Prop) → List Bool → Prop} {RepB : World → Nat → Nat → (Nat → Prop) → List Bool → List Sh.U → List Sh.U → Prop} (hS : ShC Rep RepB) {B g gs gm gb gk : Nat} {F : List Bool} {now was : List Sh.U} {w0 w : World} (h : Twin RepB B g gs gm gb gk F now was F now was w0 w) :
    Calls Try.prog 40 #[.pointer (some ⟨gs, 0, none⟩), .pointer (some ⟨gk, 0, none⟩)] w fun e w' => e = .returned (.bool true) ∧ Twin RepB B g gs gm gb gk F now was F now was w0 w' := by
  have HS := Lib.hid hS
  have T0 := Lib.hid h
  have hfew : ∀ b, (Sh.lst b now).length ≤ 100000 := fun b => Nat.le_trans (Sh.lst_few b now) h.ref.ok.1
  have HF := Lib.hid hfew
  clear hS h hfew
  go_enter Try.func40, Try.ntmps40
  go_wp2_with fail
  go_loopw [5] (fun v wr => ∃ i : Nat, v = .int .i64 (i : Int) ∧ i ≤ 40 ∧ Twin RepB B g gs gm gb gk F now was F now was w0 wr) (fun v _ => 40 - (intOf v).toNat)
  case atStart => exact ⟨0, rfl, Nat.zero_le _, T0.out⟩
  case round =>
    obtain ⟨i, rfl, hi, t⟩ := hrel
    clear T0
    by_cases hi4 : i < 40
    · have z0 : decide ((i : Int) < 40) = true := by rw [decide_eq_true_eq]; omega
      have z0' : decide (i < 40) = true := by rw [decide_eq_true_eq]; exact hi4
      have T := Lib.hid t
      have N1 := Lib.hid (t.far.uses HS.out (i : Int) (by unfold I64; omega))
      clear t
      obtain ⟨u, hu⟩ : ∃ u, u = Sh.uses now (i : Int) := ⟨_, rfl⟩
      have Hu := Lib.hid hu
      rw [← hu] at N1
      clear hu
      go_wp2_with fail
      refine N1.out.mono ?_
      rintro e w1 ⟨rfl, -, hb1⟩
      have T1 := Lib.hid (T.out.below HS.out hb1)
      have N := suses_any T1.out.ref (i : Int)
      rw [← Hu.out] at N
      have N2 := Lib.hid N
      clear N hb1 N1 T
      go_wp2_with fail
      refine N2.out.mono ?_
      rintro e w2 ⟨rfl, rfl⟩
      clear N2
      go_wp2_with fail
      go_roundw
      case rel => exact ⟨i + 1, by go_num, by omega, T1.out⟩
      case measure => simp [intOf]; omega
    · have hi4' : i = 40 := by omega
      subst hi4'
      have z0 : decide (((40 : Nat) : Int) < 40) = false := by decide
      have T := Lib.hid t
      have N1 := Lib.hid (t.far.list HS.out)
      clear t
      go_wp2_with fail
      refine N1.out.mono ?_
      rintro e w1 ⟨v1, rfl, o1, -, hb1⟩
      obtain ⟨A1, c1, rfl⟩ := ownR_slice o1
      have T1 := Lib.hid (T.out.below HS.out hb1)
      have C1 := Lib.hid (ownR_cells o1)
      have N2 := Lib.hid (slst_any T1.out.ref false)
      clear o1 hb1 N1 T
      generalize hLf : Sh.lst false now = L at *
      have hL := HF.out false
      rw [hLf] at hL
      clear hLf
      go_wp2_with fail
      refine N2.out.mono ?_
      rintro e w2 ⟨v2, rfl, o2, hb2⟩
      obtain ⟨A2, c2, rfl⟩ := ownR_slice o2
      have T2 := Lib.hid (T1.out.below HS.out hb2)
      have N3 := Lib.hid (runlist_any (c1 := c1) (c2 := c2) (C1.out.below hb2) (ownR_cells o2) hL)
      clear o2 hb2 N2 T1 C1
      go_wp2_with fail
      refine N3.out.mono ?_
      rintro e w3 ⟨rfl, n3, rfl⟩
      have T3 := Lib.hid (T2.out.below HS.out (drewN_below n3))
      clear N3 T2
      generalize w2.drewN n3 = w4 at *
      have N4 := Lib.hid (T3.out.far.late HS.out)
      clear hL
      go_wp2_with fail
      refine N4.out.mono ?_
      rintro e w5 ⟨v5, rfl, o5, -, hb5⟩
      obtain ⟨A5, c5, rfl⟩ := ownR_slice o5
      have T5 := Lib.hid (T3.out.below HS.out hb5)
      have C5 := Lib.hid (ownR_cells o5)
      have N6 := Lib.hid (slst_any T5.out.ref true)
      clear o5 hb5 N4 T3
      generalize hLt : Sh.lst true now = L2 at *
      have hL2 := HF.out true
      rw [hLt] at hL2
      clear hLt
      go_wp2_with fail
      refine N6.out.mono ?_
      rintro e w6 ⟨v6, rfl, o6, hb6⟩
      obtain ⟨A6, c6, rfl⟩ := ownR_slice o6
      have T6 := Lib.hid (T5.out.below HS.out hb6)
      have N7 := Lib.hid (runlist_any (c1 := c5) (c2 := c6) (C5.out.below hb6) (ownR_cells o6) hL2)
      clear o6 hb6 N6 T5 C5
      go_wp2_with fail
      refine N7.out.mono ?_
      rintro e w7 ⟨rfl, n7, rfl⟩
      have T7 := Lib.hid (T6.out.below HS.out (drewN_below n7))
      clear N7 T6
      generalize w6.drewN n7 = w8 at *
      go_wp2_with fail
      go_ret
      exact ⟨rfl, T7.out⟩
end Go.Proofs.Ytfiafgmlbejboaa
