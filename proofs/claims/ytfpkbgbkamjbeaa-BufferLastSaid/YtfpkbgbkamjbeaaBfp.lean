/- The program's buffer: Put. -/
import Derived.Test.YtfpkbgbkamjbeaaBff
import Derived.Deep.RegionHeldLaw
namespace Go.Proofs.Ytfpkbgbkamjbeaa
open Go.RowKit Go.Maps

/-- May a write of l to sector x be put? -/
def putOk (s : Pend) (n k : Nat) (x : Int) (l : List Nat) : Bool := l.length = 128 ∧ 0 ≤ x ∧ ((s x).isSome = true ∨ n < k)
def setP (s : Pend) (x : Int) (o : Option (List Nat)) : Pend := fun y => if y = x then some o else s y
def more (s : Pend) (n : Nat) (x : Int) : Nat := if (s x).isSome then n else n + 1
theorem fit_one (s : Pend) (n k : Nat) (x : Int) (h : n ≤ k) : fitGo s n k [x] (fun _ => false) 0 = decide ((s x).isSome = true ∨ n < k) := by
  unfold fitGo
  cases hs : (s x).isSome with
  | true => simp [fitGo]
  | false => by_cases hk : n < k
             · simp [fitGo, hk, Nat.not_lt.2 hk]
             · simp [fitGo, hk]; omega
/-- What a change of a buffer leaves: it is in another state, in its own blocks and new ones. -/
def BufN (w : World) (g : Nat) (X : Nat → Prop) (k n : Nat) (s : Pend) (w' : World) : Prop :=
  ∃ Y, BufR w' g Y k n s ∧ (∀ b, X b → Y b) ∧ (∀ b, Y b → X b ∨ w.heap.size ≤ b) ∧ Chg X w w'
theorem BufN.of_below {w w' : World} {g : Nat} {X : Nat → Prop} {k n : Nat} {s : Pend} (h : BufR w g X k n s) (hb : Below w.heap.size w w') : BufN w g X k n s w' := ⟨X, h.below hb, fun _ h => h, fun _ h => .inl h, Chg.of_below X hb⟩

/-- A store into the map, told of the buffer. -/
theorem BufR.store {w w1 w' : World} {g m : Nat} {X : Nat → Prop} {k n : Nat} {s : Pend} {vals : Int → Option Value} (h : BufR w g X k n s) (hb : Below w.heap.size w w1) (hX : X m) (hB : Blk w g 43 #[.int .i64 k, .map (some m)])
    (hM : MapI w m n vals) (hv : ∀ x, OkV w X (vals x) (s x)) {Y : Nat → Prop} (hXY : ∀ b, X b → Y b) (hY : ∀ b, Y b → X b ∨ w.heap.size ≤ b ∧ b < w1.heap.size) {x : Int} {v : Value} {o : Option (List Nat)} (hn : more s n x ≤ k)
    (hM' : MapI w' m (more s n x) (setI vals x v)) (ht : w1.mapTurned w' m) (ho : OkV w1 Y (some v) (some o)) : BufR w' g Y k (more s n x) (setP s x o) ∧ Chg X w w' ∧ w'.heap.size = w1.heap.size := by
  obtain ⟨es, clock, es', clock', hb1, rfl⟩ := ht
  have hm1 : m < w1.heap.size := (Array.getElem?_eq_some_iff.1 hb1).1
  have hmw := h.lt m hX
  have hne : g ≠ m := fun e => hM.ne_ hB e.symm
  have hsz : (ChangeMaps.setBlock w1 m (.map es' clock')).heap.size = w1.heap.size := by simp [ChangeMaps.setBlock]
  have keep : ∀ b, X b → (ChangeMaps.setBlock w1 m (.map es' clock')).heap[b]? = w.heap[b]? ∨ w.heap[b]?.any (fun o => match o with | .map _ _ => true | _ => false) = true := fun b hxb => by
    by_cases e : b = m
    · subst e
      right
      rw [← hb.block b hmw, hb1]
      rfl
    · left
      rw [ChangeMaps.heap_setBlock_other hb1 _ e, hb.block b (h.lt b hxb)]
  have keep1 : ∀ b, Y b → (ChangeMaps.setBlock w1 m (.map es' clock')).heap[b]? = w1.heap[b]? ∨ w1.heap[b]?.any (fun o => match o with | .map _ _ => true | _ => false) = true := fun b _ => by
    by_cases e : b = m
    · subst e
      right
      rw [hb1]
      rfl
    · left
      rw [ChangeMaps.heap_setBlock_other hb1 _ e]
  have ltY : ∀ b, Y b → b < w1.heap.size := fun b hb' => by
    rcases hY b hb' with h1 | h1
    · exact Nat.lt_of_lt_of_le (h.lt b h1) hb.size
    · exact h1.2
  refine ⟨⟨fun b hb' => by rw [hsz]; exact ltY b hb', hXY g h.gin, ⟨hn, h.le.2⟩, m, _, hXY m hX, ?_, hM', fun y => ?_⟩, ?_, hsz⟩
  · exact hB.keep (by rw [ChangeMaps.heap_setBlock_other hb1 _ hne, hb.block g (h.lt g h.gin)])
  · unfold setI setP
    by_cases e : y = x
    · rw [if_pos e, if_pos e]
      exact ho.keep ltY keep1 fun _ h => h
    · rw [if_neg e, if_neg e]
      exact (hv y).keep h.lt keep hXY
  · have hg : w1.grownBy (ChangeMaps.setBlock w1 m (.map es' clock')) (some m) := ⟨rfl, rfl, rfl, by simp [ChangeMaps.setBlock], fun i _ hi => ChangeMaps.heap_setBlock_other hb1 _ (fun e => hi (by rw [e]))⟩
    exact (Chg.of_below X hb).grown hg (fun i hi => by injection hi with hi; subst hi; exact .inl hX)

set_option maxHeartbeats 4000000 in
theorem bput_any {w : World} {g : Nat} {X : Nat → Prop} {k n : Nat} {s : Pend} (h : BufR w g X k n s) {x : Int} (hx : (Lit.int .i64 x).wf = true) {A : Option Addr} {cap B : Nat} {l : List Nat} (hs : Sl w B A (byts l)) (hB : B ≤ w.heap.size) (hl : ∀ x ∈ l, x < 256) (hcap : l.length ≤ cap) (hlen : l.length ≤ 1000000000) (hA : A = none → cap = 0) :
    Calls Try.prog 9 #[.pointer (some ⟨g, 0, none⟩), .int .i64 x, .slice A l.length cap] w fun e w' => e = .returned (.bool (putOk s n k x l)) ∧
      (putOk s n k x l = false → BufN w g X k n s w' ∧ Below w.heap.size w w') ∧ (putOk s n k x l = true → BufN w g X k (more s n x) (setP s x (some l)) w') := by
  have H := Lib.hid h
  have H0 := Lib.hid (BufN.of_below h (Below.refl _ _))
  obtain ⟨q, hq⟩ : ∃ q, q = l.length := ⟨_, rfl⟩
  have HQ := Lib.hid hq
  rw [← hq] at hcap hlen ⊢
  by_cases h1 : q = 128
  · have z1 : ((q : Int) != 128) = false := by rw [h1]; rfl
    have z1' : (q != 128) = false := by rw [h1]; rfl
    by_cases h2 : x < 0
    · have z2 : decide (x < 0) = true := decide_eq_true h2
      have hp : putOk s n k x l = false := by simp [putOk]; intro _ h; omega
      rw [hp]
      clear h hs hB hl hq
      go_enter Try.func9, Try.ntmps9
      go_wp2_with fail
      go_ret
      exact ⟨rfl, fun _ => ⟨H0.out, Below.refl _ _⟩, fun h => by cases h⟩
    · have z2 : decide (x < 0) = false := decide_eq_false h2
      obtain ⟨W, hW⟩ : ∃ W, W = w.alloc (.cells #[.int .i64 x] 3) := ⟨_, rfl⟩
      have hbW : Below w.heap.size w W := by rw [hW]; exact (Below.refl _ _).alloc (Nat.le_refl _) _
      have hf := bfits_any (h.below hbW) (A := some ⟨w.heap.size, 0, none⟩) (cap := 1) (B := w.heap.size + 1) (l := [x]) (fun y hy => by simp at hy; rw [hy]; exact hx) (.inr ⟨_, 0, rfl, by omega, fun i hi => by
        simp [ints] at hi
        subst hi
        rw [hW]
        exact cell_fresh rfl⟩) (by rw [hW]; simp) (by simp)
      rw [fit_one s n k x h.le.1] at hf
      have HF := Lib.hid hf
      have HbW := Lib.hid hbW
      rw [eq_comm] at hW
      cases hd : decide ((s x).isSome = true ∨ n < k) with
      | false =>
        have hp : putOk s n k x l = false := by
          rw [decide_eq_false_iff_not] at hd
          unfold putOk
          rw [decide_eq_false_iff_not]
          exact fun h => hd h.2.2
        rw [hp]
        rw [hd] at HF
        clear h hs hB hl hq hf hbW
        go_enter Try.func9, Try.ntmps9
        go_wp2_with fail
        refine HF.out.mono ?_
        rintro e w1 ⟨rfl, hb1⟩
        have hb2 := HbW.out.trans (hb1.mono HbW.out.size)
        go_wp2_with fail
        go_ret
        exact ⟨rfl, fun _ => ⟨BufN.of_below H.out hb2, hb2⟩, fun h => by cases h⟩
      | true =>
        have hp : putOk s n k x l = true := by
          rw [decide_eq_true_eq] at hd
          unfold putOk
          rw [decide_eq_true_eq]
          exact ⟨by rw [← hq, h1], by omega, hd⟩
        rw [hp]
        rw [hd] at HF
        obtain ⟨b0, o0, rfl, -⟩ : ∃ b o, A = some ⟨b, o, none⟩ ∧ True := by
          rcases hs with h0 | ⟨b, o, e, _⟩
          · exfalso
            have h3 : (byts l).length = l.length := byts_length l
            rw [h0, List.length_nil] at h3
            omega
          · exact ⟨b, o, e, trivial⟩
        have HD := Lib.hid hd
        have HS := Lib.hid (hs.more hB)
        have HL := Lib.hid hl
        subst h1
        clear h hs hB hl hf hbW hA hd hq
        go_enter Try.func9, Try.ntmps9
        go_wp2_with fail
        refine HF.out.mono ?_
        rintro e w1 ⟨rfl, hb1⟩
        have B1 := Lib.hid (HbW.out.trans (hb1.mono HbW.out.size))
        have R1 := Lib.hid (H.out.below B1.out)
        obtain ⟨_, _, _, m, vals, h3, h4, h5, h6⟩ := R1.out
        have c1 : w1.cell? ⟨g, 1, none⟩ = some (.map (some m)) := h4.cell 1
        have HC := Lib.hid (clone_row (w := w1.drew) (c := cap) HQ.out.symm (by simp) (HS.out.below B1.out.drew) B1.out.size hcap)
        have P5 := Lib.hid (And.intro h3 (And.intro h4 (And.intro h5 h6)))
        clear hb1 h4 h5 h6
        go_wp2_with fail
        go_region_held_law (fun u => u.cell? ⟨g, 1, none⟩ = some (.map (some m))) (first | exact c1 | exact K2.out | exact K3.out)
          (first | (go_at_call 15; (refine HC.out.mono ?_); rintro e w2 ⟨b2, c2, rfl, q1, q2, q3, q4, q5⟩; have Q2 := Lib.hid (And.intro q1 (And.intro q2 (And.intro q3 (And.intro q4 q5)))); have K2 := Lib.hid ((P5.out.2.1.keep (q5.block g P5.out.2.1.lt)).cell 1); have hpt := (P5.out.2.2.1.keep (w' := w2) (q5.block m P5.out.2.2.1.lt)).put Try.underlying41 hx (.slice (some ⟨b2, 0, none⟩) 128 c2) (by have := H.out.le; unfold maxLen; omega); obtain ⟨w3, hup, hm3, ht3⟩ := hpt; have P3 := Lib.hid (And.intro hm3 ht3); have K3 := Lib.hid (((P5.out.2.1.keep (q5.block g P5.out.2.1.lt)).keep (by obtain ⟨_, _, _, _, hbb, rfl⟩ := ht3; exact ChangeMaps.heap_setBlock_other hbb _ (P5.out.2.2.1.ne_ P5.out.2.1).symm)).cell 1 : w3.cell? ⟨g, 1, none⟩ = some (.map (some m))); clear q1 q2 q3 q4 q5 hm3 ht3))
        go_wp2_with fail
        go_ret
        obtain ⟨q1, q2, q3, q4, q5⟩ := Q2.out
        obtain ⟨hm3, ht3⟩ := P3.out
        have hss := (P5.out.2.2.2 x).isSome
        rw [hss] at hm3
        have q5' : Below w1.heap.size w1 w2 := ⟨q5.os, q5.tape, q5.output, q5.size, q5.block⟩
        have hdd : (s x).isSome = true ∨ n < k := by have := HD.out; rwa [decide_eq_true_eq] at this
        obtain ⟨r1, r2, r3⟩ := BufR.store R1.out q5' P5.out.1 P5.out.2.1 P5.out.2.2.1 P5.out.2.2.2 (Y := fun b => X b ∨ b = b2) (fun _ h => .inl h) (fun b hb => by
          rcases hb with hb | rfl
          · exact .inl hb
          · exact .inr ⟨q2, q3⟩) (x := x) (v := .slice (some ⟨b2, 0, none⟩) 128 c2) (o := some l) (by
          have := H.out.le
          unfold more
          rcases hdd with h | h
          · rw [if_pos h]; omega
          · split <;> omega) hm3 ht3 ⟨HQ.out.symm, HL.out, b2, c2, rfl, q1, .inr rfl, q4⟩
        have b1s := B1.out.size
        exact ⟨rfl, (fun h => by cases h), fun _ => ⟨_, r1, fun _ h => .inl h, fun b hb => by
          rcases hb with hb | rfl
          · exact .inl hb
          · exact .inr (Nat.le_trans b1s q2), (Chg.of_below X B1.out).then_ r2⟩⟩
  · have z1 : ((q : Int) != 128) = true := by simp; omega
    have z1' : (q != 128) = true := by simp; omega
    have hp : putOk s n k x l = false := by simp [putOk]; intro h; omega
    rw [hp]
    clear h hs hB hl hq
    go_enter Try.func9, Try.ntmps9
    go_wp2_with fail
    go_ret
    exact ⟨rfl, fun _ => ⟨H0.out, Below.refl _ _⟩, fun h => by cases h⟩
end Go.Proofs.Ytfpkbgbkamjbeaa
