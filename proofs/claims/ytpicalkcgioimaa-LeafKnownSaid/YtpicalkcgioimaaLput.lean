/- The program's putNumber: four bytes in a block of bytes. -/
import Derived.Test.YtpicalkcgioimaaLhead
import Derived.Laws.CopyOwn
namespace Go.Proofs.Ytpicalkcgioimaa
open Go.RowKit Crc

/-- A block of bytes. -/
def ByBlk (w : World) (g : Nat) (L : List Nat) : Prop := Blk w g 5 (byts L).toArray
theorem byblk_cell {w : World} {g : Nat} {L : List Nat} (h : ByBlk w g L) {i : Nat} (hi : i < L.length) : w.cell? ⟨g, i, none⟩ = some (.int .u8 ((L.getD i 0 : Nat) : Int)) := by
  have := Blk.cell h i
  rw [this]
  simp [byts, List.getD_eq_getElem?_getD, List.getElem?_eq_getElem hi]
theorem byblk_set {w : World} {g : Nat} {L : List Nat} (h : ByBlk w g L) (i x : Nat) {v : Value} (hv : v = .int .u8 (x : Int)) : ByBlk (w.setCell ⟨g, i, none⟩ v) g (L.set i x) := by
  subst hv
  have := Blk.set_ h i (.int .u8 (x : Int))
  unfold ByBlk
  rw [List.setIfInBounds_toArray] at this
  rw [show byts (L.set i x) = (byts L).set i (.int .u8 (x : Int)) by unfold byts; rw [List.map_set]]
  exact this
theorem byblk_own {w : World} {g base : Nat} {L : List Nat} (h : ByBlk w g L) (hb : base ≤ g) {n : Nat} (hn : n = L.length) (hm : n ≤ maxLen) : w.ownsRow base 5 1 (.slice (some ⟨g, 0, none⟩) n n) n (byts L) := by
  subst hn
  exact ⟨by simp [byts_length], .inr ⟨g, L.length, (byts L).toArray, rfl, hb, h, Nat.le_refl _, hm, by simp [byts_length], by rw [Nat.mul_one, ← byts_length L]; exact List.take_length⟩⟩
theorem byblk_sl {w : World} {g : Nat} {L : List Nat} (h : ByBlk w g L) : Sl w w.heap.size (some ⟨g, 0, none⟩) (byts L) :=
  .inr ⟨g, 0, rfl, Blk.lt h, fun i hi => by
    rw [Nat.zero_add, Blk.cell h i]
    simp [List.getElem?_eq_getElem hi]⟩
theorem set4 (p r : List Nat) (q0 q1 q2 q3 v0 v1 v2 v3 : Nat) : ((((p ++ ([q0, q1, q2, q3] ++ r)).set p.length v0).set (p.length + 1) v1).set (p.length + 2) v2).set (p.length + 3) v3 = p ++ ([v0, v1, v2, v3] ++ r) := by
  simp
theorem at4 (p r : List Nat) (q0 q1 q2 q3 : Nat) : (p ++ ([q0, q1, q2, q3] ++ r)).length = p.length + 4 + r.length := by simp; omega

set_option maxHeartbeats 4000000 in
theorem put_any (g k n c : Nat) (p r : List Nat) (q0 q1 q2 q3 : Nat) (hk : k = p.length) (hn : 4 ≤ n) (hnb : n ≤ 1000000000) (x : Nat) (hx : x < 4294967296) {w : World} (hb : ByBlk w g (p ++ ([q0, q1, q2, q3] ++ r))) :
    Calls Try.prog 19 #[.slice (some ⟨g, k, none⟩) n c, .int .u32 (x : Int)] w fun e w' => e = .returned (.tuple #[]) ∧ ByBlk w' g (p ++ (le4 x ++ r)) ∧ Chg (· = g) w w' := by
  have hlen := at4 p r q0 q1 q2 q3
  generalize hL0 : p ++ ([q0, q1, q2, q3] ++ r) = L0 at *
  have HL0 := Lib.hid hL0
  have c0 := byblk_cell hb (i := k) (by omega)
  have f0 := Blk.frozen hb k
  have B1 : ByBlk (w.setCell ⟨g, k, none⟩ (.int .u8 ((x : Int) % 256))) g (L0.set k (x % 256)) := byblk_set hb k (x % 256) (by simp)
  have C1 : Chg (· = g) w (w.setCell ⟨g, k, none⟩ (.int .u8 ((x : Int) % 256))) := Chg.setCell (F := (· = g)) (Chg.refl _ _) (p := ⟨g, k, none⟩) (.inl rfl) _
  have HB1 := Lib.hid B1
  have HC1 := Lib.hid C1
  have Hlen := Lib.hid hlen
  have HK := Lib.hid hk
  clear hb B1 C1 hL0 hlen hk
  go_enter Try.func19, Try.ntmps19
  go_wp2_with fail
  refine wp_loop_rounds 5 ?_
  rw [rounds_succ]
  go_wp2_with fail
  clear c0 f0
  generalize w.setCell ⟨g, k, none⟩ (.int .u8 ((x : Int) % 256)) = w1 at *
  have c1 := byblk_cell HB1.out (i := k + 1) (by have := Hlen.out; have := HK.out; rw [List.length_set]; omega)
  have f1 := Blk.frozen HB1.out (k + 1)
  have HB2 := Lib.hid (byblk_set HB1.out (k + 1) (x / 256 % 256) (v := .int .u8 ((x : Int) / 256 % 256)) (by simp))
  have HC2 := Lib.hid (HC1.out.setCell (p := ⟨g, k + 1, none⟩) (.inl rfl) (.int .u8 ((x : Int) / 256 % 256)))
  clear HB1 HC1
  rw [rounds_succ]
  go_wp2_with fail
  clear c1 f1
  generalize w1.setCell ⟨g, k + 1, none⟩ (.int .u8 ((x : Int) / 256 % 256)) = w2 at *
  have c2 := byblk_cell HB2.out (i := k + 2) (by have := Hlen.out; have := HK.out; rw [List.length_set, List.length_set]; omega)
  have f2 := Blk.frozen HB2.out (k + 2)
  have HB3 := Lib.hid (byblk_set HB2.out (k + 2) (x / 65536 % 256) (v := .int .u8 ((x : Int) / 65536 % 256)) (by simp))
  have HC3 := Lib.hid (HC2.out.setCell (p := ⟨g, k + 2, none⟩) (.inl rfl) (.int .u8 ((x : Int) / 65536 % 256)))
  clear HB2 HC2
  rw [rounds_succ]
  go_wp2_with fail
  clear c2 f2
  generalize w2.setCell ⟨g, k + 2, none⟩ (.int .u8 ((x : Int) / 65536 % 256)) = w3 at *
  have c3 := byblk_cell HB3.out (i := k + 3) (by have := Hlen.out; have := HK.out; rw [List.length_set, List.length_set, List.length_set]; omega)
  have f3 := Blk.frozen HB3.out (k + 3)
  have HB4 := Lib.hid (byblk_set HB3.out (k + 3) (x / 16777216 % 256) (v := .int .u8 ((x : Int) / 16777216)) (by congr 1; omega))
  have HC4 := Lib.hid (HC3.out.setCell (p := ⟨g, k + 3, none⟩) (.inl rfl) (.int .u8 ((x : Int) / 16777216)))
  clear HB3 HC3
  rw [rounds_succ]
  go_wp2_with fail
  clear c3 f3
  rw [rounds_succ]
  go_wp2_with fail
  refine bodyPost_end (results_none rfl _ _ _) rfl ?_
  refine ⟨rfl, ?_, HC4.out⟩
  have h4 := HB4.out
  rw [← HL0.out] at h4
  have e : ((((p ++ ([q0, q1, q2, q3] ++ r)).set k (x % 256)).set (k + 1) (x / 256 % 256)).set (k + 2) (x / 65536 % 256)).set (k + 3) (x / 16777216 % 256) = p ++ (le4 x ++ r) := by rw [HK.out, set4]; rfl
  rwa [e] at h4
end Go.Proofs.Ytpicalkcgioimaa
