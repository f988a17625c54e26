/- The document's map of free blocks: all, Mark, Give, Free. -/
import Derived.Test.YtfiafgmlbejboaaBy
import Derived.Test.YtfiafgmlbejboaaRn2
namespace Go.Proofs.Ytfiafgmlbejboaa
open Go.RowKit

/-- Bools as cells. -/
def bls (F : List Bool) : Array Value := (F.map Value.bool).toArray
theorem bls_at {F : List Bool} {i : Nat} (h : i < F.length) : (bls F)[i]? = some (.bool (F.getD i false)) := by
  simp [bls, List.getD_eq_getElem?_getD, List.getElem?_eq_getElem h]
theorem bls_set (F : List Bool) (i : Nat) (b : Bool) : (bls F).setIfInBounds i (.bool b) = bls (F.set i b) := by
  unfold bls
  rw [List.setIfInBounds_toArray, List.map_set]
/-- Block g is the document's map over the blocks F, which lie in block gb. -/
structure RRef (w : World) (g gb : Nat) (F : List Bool) : Prop where
  map : Blk w g 64 #[.slice (some ⟨gb, 0, none⟩) F.length F.length]
  blks : Blk w gb 4 (bls F)
  few : F.length ≤ 8192
section
variable {w w' : World} {g gb : Nat} {F : List Bool}
theorem RRef.ne_ (h : RRef w g gb F) : gb ≠ g := h.blks.ne_ h.map (by decide)
theorem RRef.keep (h : RRef w g gb F) (h1 : w'.heap[g]? = w.heap[g]?) (h2 : w'.heap[gb]? = w.heap[gb]?) : RRef w' g gb F := ⟨h.map.keep h1, h.blks.keep h2, h.few⟩
theorem RRef.set_ (h : RRef w g gb F) (i : Nat) (b : Bool) : RRef (w.setCell ⟨gb, i, none⟩ (.bool b)) g gb (F.set i b) := by
  refine ⟨?_, ?_, by rw [List.length_set]; exact h.few⟩
  · rw [List.length_set]; exact h.map.far (p := ⟨gb, i, none⟩) h.ne_ _
  · have := h.blks.set_ i (.bool b)
    rw [bls_set] at this
    exact this
end

set_option maxHeartbeats 2000000 in
theorem rall_any {w : World} {g gb : Nat} {F : List Bool} (h : RRef w g gb F) (a n : Int) (b : Bool) :
    Calls Try.prog 49 #[.pointer (some ⟨g, 0, none⟩), .int .i64 a, .int .i64 n, .bool b] w fun e w' => e = .returned (.bool (Rn.all F a n b)) ∧ w' = w := by
  have c0 : w.cell? ⟨g, 0, none⟩ = some (.slice (some ⟨gb, 0, none⟩) F.length F.length) := h.map.cell 0
  have Cx := Lib.hid (fun k (hk : k < F.length) => show w.cell? ⟨gb, k, none⟩ = some (.bool (F.getD k false)) by rw [h.blks.cell, bls_at hk])
  have hf := h.few
  obtain ⟨R, hR⟩ : ∃ R, R = Rn.all F a n b := ⟨_, rfl⟩
  rw [← hR]
  have HI := Lib.hid (Rn.all_iff F a n b)
  rw [← hR] at HI
  obtain ⟨m, hm⟩ : ∃ m, m = F.length := ⟨_, rfl⟩
  rw [← hm] at c0 Cx HI hf
  have no : ∀ h : ¬ (0 ≤ a ∧ 1 ≤ n ∧ a < (m : Int) ∧ n ≤ (m : Int) - a), R = false := fun h => by
    cases hr : R with
    | false => rfl
    | true =>
      have := HI.out.1 hr
      exact absurd ⟨this.1, this.2.1, this.2.2.1, this.2.2.2.1⟩ h
  clear h hR hm
  by_cases h1 : a < 0
  · have hr := no (by omega)
    have q1 : decide (a < 0) = true := by rw [decide_eq_true_eq]; exact h1
    rw [hr]
    clear hr no HI h1
    go_enter Try.func49, Try.ntmps49
    go_wp2_with fail
    go_ret
    exact ⟨rfl, rfl⟩
  have q1 : decide (a < 0) = false := by rw [decide_eq_false_iff_not]; exact h1
  by_cases h2 : n < 1
  · have hr := no (by omega)
    have q2 : decide (n < 1) = true := by rw [decide_eq_true_eq]; exact h2
    rw [hr]
    clear hr no HI h1 h2
    go_enter Try.func49, Try.ntmps49
    go_wp2_with fail
    go_ret
    exact ⟨rfl, rfl⟩
  have q2 : decide (n < 1) = false := by rw [decide_eq_false_iff_not]; exact h2
  obtain ⟨p, rfl⟩ : ∃ p : Nat, a = (p : Int) := ⟨a.toNat, by omega⟩
  obtain ⟨k, rfl⟩ : ∃ k : Nat, n = (k : Int) := ⟨n.toNat, by omega⟩
  have q2' : decide (k < 1) = false := by rw [decide_eq_false_iff_not]; omega
  by_cases h3 : m ≤ p
  · have hr := no (by omega)
    have q3 : decide ((m : Int) ≤ (p : Int)) = true := by rw [decide_eq_true_eq]; omega
    have q3' : decide (m ≤ p) = true := by rw [decide_eq_true_eq]; exact h3
    rw [hr]
    clear hr no HI h1 h2 h3 q1
    go_enter Try.func49, Try.ntmps49
    go_wp2_with fail
    go_ret
    exact ⟨rfl, rfl⟩
  have q3 : decide ((m : Int) ≤ (p : Int)) = false := by rw [decide_eq_false_iff_not]; omega
  have q3' : decide (m ≤ p) = false := by rw [decide_eq_false_iff_not]; exact h3
  obtain ⟨r, hr0⟩ : ∃ r : Nat, r = m - p := ⟨_, rfl⟩
  have s1 : (m : Int) - (p : Int) = ((m - p : Nat) : Int) := by omega
  by_cases h4 : m - p < k
  · have hr := no (by omega)
    have q4 : decide (((m - p : Nat) : Int) < (k : Int)) = true := by rw [decide_eq_true_eq]; omega
    have q4' : decide (m - p < k) = true := by rw [decide_eq_true_eq]; exact h4
    rw [hr]
    clear hr no HI h1 h2 h3 h4 q1 hr0
    go_enter Try.func49, Try.ntmps49
    go_wp2_with fail
    go_ret
    exact ⟨rfl, rfl⟩
  have q4 : decide (((m - p : Nat) : Int) < (k : Int)) = false := by rw [decide_eq_false_iff_not]; omega
  have q4' : decide (m - p < k) = false := by rw [decide_eq_false_iff_not]; exact h4
  have hpk : p + k ≤ m ∧ p < m ∧ 1 ≤ k ∧ k ≤ m - p := by omega
  clear no h1 h2 h3 h4 q1 hr0
  go_enter Try.func49, Try.ntmps49
  go_wp2_with fail
  go_loop [9] (fun v => ∃ j : Nat, v = .int .i64 (j : Int) ∧ j ≤ k ∧ ∀ i, i < j → F.getD (p + i) false = b) (fun v => k - (intOf v).toNat)
  case atStart => exact ⟨0, rfl, Nat.zero_le _, fun i hi => absurd hi (by omega)⟩
  case round =>
    obtain ⟨j, rfl, hj, hall⟩ := hrel
    have Hall := Lib.hid hall
    clear hall
    by_cases hjk : j < k
    · have z0 : decide ((j : Int) < (k : Int)) = true := by rw [decide_eq_true_eq]; omega
      have z0' : decide (j < k) = true := by rw [decide_eq_true_eq]; exact hjk
      obtain ⟨q, hq⟩ : ∃ q : Nat, q = p + j := ⟨_, rfl⟩
      have s2 : (p : Int) + (j : Int) = (q : Int) := by omega
      have cx := Cx.out q (by omega)
      have zq : q < m := by omega
      have Hq := Lib.hid hq
      clear hq
      by_cases hx : F.getD q false = b
      · have Hx := Lib.hid hx
        rw [hx] at cx
        clear hx
        go_wp2_with fail
        go_round
        case rel =>
          refine ⟨j + 1, by go_num, by omega, fun i hi => ?_⟩
          by_cases he : i = j
          · rw [he, ← Hq.out]; exact Hx.out
          · exact Hall.out i (by omega)
        case measure => simp [intOf]; omega
      · have hr : R = false := by
          cases hr : R with
          | false => rfl
          | true =>
            have := (HI.out.1 hr).2.2.2.2 j (by rw [Int.toNat_natCast]; exact hjk)
            rw [Int.toNat_natCast, ← Hq.out] at this
            exact absurd this hx
        have Hr := Lib.hid hr
        have zb : (F.getD q false == b) = false := by rw [beq_eq_false_iff_ne]; exact hx
        clear hx hr
        generalize F.getD q false = y at *
        go_wp2_with fail
        go_ret
        exact ⟨by rw [Hr.out]; rfl, rfl⟩
    · have hjk' : j = k := by omega
      subst hjk'
      have z0 : decide ((j : Int) < (j : Int)) = false := by simp
      have z0' : decide (j < j) = false := by simp
      have hr : R = true := HI.out.2 ⟨by omega, by omega, by omega, by omega, fun i hi => by rw [Int.toNat_natCast] at hi ⊢; exact Hall.out i hi⟩
      have Hr := Lib.hid hr
      clear hr hjk
      go_wp2_with fail
      go_ret
      exact ⟨by rw [Hr.out]; rfl, rfl⟩

/-- How Mark and Give end. -/
def ChgR (g gb : Nat) (R : Bool × List Bool) (w : World) (e : Ending) (w' : World) : Prop := e = .returned (.bool R.1) ∧ RRef w' g gb R.2 ∧ Chg (fun b => b = gb) w w'

set_option maxRecDepth 4000 in
set_option maxHeartbeats 4000000 in
theorem rmark_any {w : World} {g gb : Nat} {F : List Bool} (h : RRef w g gb F) (a n : Int) :
    Calls Try.prog 18 #[.pointer (some ⟨g, 0, none⟩), .int .i64 a, .int .i64 n] w (ChgR g gb (Rn.mark F a n) w) := by
  have NA := Lib.hid (rall_any h a n true)
  unfold Rn.mark Rn.change
  by_cases ha : Rn.all F a n true = true
  · obtain ⟨b1, b2, b3, b4, -⟩ := (Rn.all_iff F a n true).1 ha
    rw [show (!false) = true from rfl, if_pos ha]
    rw [ha] at NA
    obtain ⟨p, rfl⟩ : ∃ p : Nat, a = (p : Int) := ⟨a.toNat, by omega⟩
    obtain ⟨k, rfl⟩ : ∃ k : Nat, n = (k : Int) := ⟨n.toNat, by omega⟩
    rw [Int.toNat_natCast, Int.toNat_natCast]
    have hf := h.few
    have H := Lib.hid h
    obtain ⟨m, hm⟩ : ∃ m, m = F.length := ⟨_, rfl⟩
    rw [← hm] at b3 b4 hf
    have Hm := Lib.hid hm
    have hpk : p + k ≤ m := by omega
    clear h ha b1 b2 b3 b4 hm
    go_enter Try.func18, Try.ntmps18
    go_wp2_with fail
    refine NA.out.mono ?_
    rintro e w1 ⟨rfl, hw1⟩
    subst hw1
    clear NA
    go_wp2_with fail
    go_loopw [7] (fun v wr => ∃ j : Nat, v = .int .i64 (j : Int) ∧ j ≤ k ∧ RRef wr g gb (Rn.setN F p false j) ∧ Chg (fun b => b = gb) w1 wr) (fun v _ => k - (intOf v).toNat)
    case atStart => exact ⟨0, rfl, Nat.zero_le _, H.out, Chg.refl _ _⟩
    case round =>
      obtain ⟨j, rfl, hj, hr, hc⟩ := hrel
      have Hr := Lib.hid hr
      have Hc := Lib.hid hc
      by_cases hjk : j < k
      · have z0 : decide ((j : Int) < (k : Int)) = true := by rw [decide_eq_true_eq]; omega
        have z0' : decide (j < k) = true := by rw [decide_eq_true_eq]; exact hjk
        obtain ⟨q, hq⟩ : ∃ q : Nat, q = p + j := ⟨_, rfl⟩
        have s2 : (p : Int) + (j : Int) = (q : Int) := by omega
        have zq : q < m := by omega
        have c0 : wr.cell? ⟨g, 0, none⟩ = some (.slice (some ⟨gb, 0, none⟩) m m) := by
          have := hr.map.cell 0
          rw [Rn.setN_len, ← Hm.out] at this
          exact this
        have cq := hr.blks.cell q
        rw [bls_at (by rw [Rn.setN_len, ← Hm.out]; exact zq)] at cq
        have fq := hr.blks.frozen q
        have St := Lib.hid (show RRef (wr.setCell ⟨gb, q, none⟩ (.bool false)) g gb (Rn.setN F p false (j + 1)) by rw [Rn.setN, ← hq]; exact hr.set_ q false)
        have Sc := Lib.hid (hc.setCell (p := ⟨gb, q, none⟩) (.inl rfl) (.bool false))
        clear hr hc hq Hr Hc
        generalize (Rn.setN F p false j).getD q false = y at *
        go_wp2_with fail
        go_roundw
        case rel => exact ⟨j + 1, by go_num, by omega, St.out, Sc.out⟩
        case measure => simp [intOf]; omega
      · have hjk' : j = k := by omega
        subst hjk'
        have z0 : decide ((j : Int) < (j : Int)) = false := by simp
        have z0' : decide (j < j) = false := by simp
        clear hr hc hjk
        go_wp2_with fail
        go_ret
        exact ⟨rfl, Hr.out, Hc.out⟩
  · rw [show (!false) = true from rfl, if_neg ha]
    rw [show Rn.all F a n true = false by simpa using ha] at NA
    have H := Lib.hid h
    clear h ha
    go_enter Try.func18, Try.ntmps18
    go_wp2_with fail
    refine NA.out.mono ?_
    rintro e w1 ⟨rfl, hw1⟩
    subst hw1
    clear NA
    go_wp2_with fail
    go_ret
    exact ⟨rfl, H.out, Chg.refl _ _⟩

set_option maxRecDepth 4000 in
set_option maxHeartbeats 4000000 in
theorem rgive_any {w : World} {g gb : Nat} {F : List Bool} (h : RRef w g gb F) (a n : Int) :
    Calls Try.prog 20 #[.pointer (some ⟨g, 0, none⟩), .int .i64 a, .int .i64 n] w (ChgR g gb (Rn.give F a n) w) := by
  have NA := Lib.hid (rall_any h a n false)
  unfold Rn.give Rn.change
  by_cases ha : Rn.all F a n false = true
  · obtain ⟨b1, b2, b3, b4, -⟩ := (Rn.all_iff F a n false).1 ha
    rw [show (!true) = false from rfl, if_pos ha]
    rw [ha] at NA
    obtain ⟨p, rfl⟩ : ∃ p : Nat, a = (p : Int) := ⟨a.toNat, by omega⟩
    obtain ⟨k, rfl⟩ : ∃ k : Nat, n = (k : Int) := ⟨n.toNat, by omega⟩
    rw [Int.toNat_natCast, Int.toNat_natCast]
    have hf := h.few
    have H := Lib.hid h
    obtain ⟨m, hm⟩ : ∃ m, m = F.length := ⟨_, rfl⟩
    rw [← hm] at b3 b4 hf
    have Hm := Lib.hid hm
    have hpk : p + k ≤ m := by omega
    clear h ha b1 b2 b3 b4 hm
    go_enter Try.func20, Try.ntmps20
    go_wp2_with fail
    refine NA.out.mono ?_
    rintro e w1 ⟨rfl, hw1⟩
    subst hw1
    clear NA
    go_wp2_with fail
    go_loopw [7] (fun v wr => ∃ j : Nat, v = .int .i64 (j : Int) ∧ j ≤ k ∧ RRef wr g gb (Rn.setN F p true j) ∧ Chg (fun b => b = gb) w1 wr) (fun v _ => k - (intOf v).toNat)
    case atStart => exact ⟨0, rfl, Nat.zero_le _, H.out, Chg.refl _ _⟩
    case round =>
      obtain ⟨j, rfl, hj, hr, hc⟩ := hrel
      have Hr := Lib.hid hr
      have Hc := Lib.hid hc
      by_cases hjk : j < k
      · have z0 : decide ((j : Int) < (k : Int)) = true := by rw [decide_eq_true_eq]; omega
        have z0' : decide (j < k) = true := by rw [decide_eq_true_eq]; exact hjk
        obtain ⟨q, hq⟩ : ∃ q : Nat, q = p + j := ⟨_, rfl⟩
        have s2 : (p : Int) + (j : Int) = (q : Int) := by omega
        have zq : q < m := by omega
        have c0 : wr.cell? ⟨g, 0, none⟩ = some (.slice (some ⟨gb, 0, none⟩) m m) := by
          have := hr.map.cell 0
          rw [Rn.setN_len, ← Hm.out] at this
          exact this
        have cq := hr.blks.cell q
        rw [bls_at (by rw [Rn.setN_len, ← Hm.out]; exact zq)] at cq
        have fq := hr.blks.frozen q
        have St := Lib.hid (show RRef (wr.setCell ⟨gb, q, none⟩ (.bool true)) g gb (Rn.setN F p true (j + 1)) by rw [Rn.setN, ← hq]; exact hr.set_ q true)
        have Sc := Lib.hid (hc.setCell (p := ⟨gb, q, none⟩) (.inl rfl) (.bool true))
        clear hr hc hq Hr Hc
        generalize (Rn.setN F p true j).getD q false = y at *
        go_wp2_with fail
        go_roundw
        case rel => exact ⟨j + 1, by go_num, by omega, St.out, Sc.out⟩
        case measure => simp [intOf]; omega
      · have hjk' : j = k := by omega
        subst hjk'
        have z0 : decide ((j : Int) < (j : Int)) = false := by simp
        have z0' : decide (j < j) = false := by simp
        clear hr hc hjk
        go_wp2_with fail
        go_ret
        exact ⟨rfl, Hr.out, Hc.out⟩
  · rw [show (!true) = false from rfl, if_neg ha]
    rw [show Rn.all F a n false = false by simpa using ha] at NA
    have H := Lib.hid h
    clear h ha
    go_enter Try.func20, Try.ntmps20
    go_wp2_with fail
    refine NA.out.mono ?_
    rintro e w1 ⟨rfl, hw1⟩
    subst hw1
    clear NA
    go_wp2_with fail
    go_ret
    exact ⟨rfl, H.out, Chg.refl _ _⟩

set_option maxHeartbeats 2000000 in
theorem rfree_any {w : World} {g gb : Nat} {F : List Bool} (h : RRef w g gb F) :
    Calls Try.prog 51 #[.pointer (some ⟨g, 0, none⟩)] w fun e w' => e = .returned (.int .i64 (Rn.freeN F : Int)) ∧ w' = w := by
  have c0 : w.cell? ⟨g, 0, none⟩ = some (.slice (some ⟨gb, 0, none⟩) F.length F.length) := h.map.cell 0
  have Cx := Lib.hid (fun k (hk : k < F.length) => show w.cell? ⟨gb, k, none⟩ = some (.bool (F.getD k false)) by rw [h.blks.cell, bls_at hk])
  have hf := h.few
  have Nx := Lib.hid (fun k (hk : k < F.length) => show (F.take (k + 1)).countP id = (F.take k).countP id + if F.getD k false = true then 1 else 0 by
    rw [List.take_add_one, List.getElem?_eq_getElem hk, List.countP_append, List.getD_eq_getElem?_getD, List.getElem?_eq_getElem hk]
    simp [List.countP_cons])
  have Le := Lib.hid (fun k => show (F.take k).countP id ≤ F.length from Nat.le_trans List.countP_le_length (by rw [List.length_take]; omega))
  have Al := Lib.hid (show (F.take F.length).countP id = Rn.freeN F by rw [List.take_length]; rfl)
  obtain ⟨m, hm⟩ : ∃ m, m = F.length := ⟨_, rfl⟩
  rw [← hm] at c0 Cx Nx hf Le Al
  clear h hm
  go_enter Try.func51, Try.ntmps51
  go_wp2_with fail
  go_loop [3, 4] (fun v i => ∃ k : Nat, k ≤ m ∧ i = .int .i64 (k : Int) ∧ v = .int .i64 (((F.take k).countP id : Nat) : Int)) (fun _ i => m - (intOf i).toNat)
  case atStart => exact ⟨0, Nat.zero_le _, rfl, rfl⟩
  case round =>
    obtain ⟨k, hk, rfl, rfl⟩ := hrel
    by_cases hkm : k < m
    · have z0 : decide ((k : Int) < (m : Int)) = true := by rw [decide_eq_true_eq]; omega
      have z0' : decide (k < m) = true := by rw [decide_eq_true_eq]; exact hkm
      have cx := Cx.out k hkm
      have hn := Nx.out k hkm
      have hl := Le.out k
      have Hn := Lib.hid hn
      clear hn
      generalize (F.take k).countP id = c at *
      cases hy : F.getD k false with
      | true =>
        have Hn2 := Lib.hid (show (F.take (k + 1)).countP id = c + 1 by rw [Hn.out, hy]; rfl)
        rw [hy] at cx
        clear hy Hn
        go_wp2_with fail
        go_round
        case rel => exact ⟨k + 1, by omega, by go_num, by rw [Hn2.out]; go_num⟩
        case measure => simp [intOf]; omega
      | false =>
        have Hn2 := Lib.hid (show (F.take (k + 1)).countP id = c by rw [Hn.out, hy]; rfl)
        rw [hy] at cx
        clear hy Hn
        go_wp2_with fail
        go_round
        case rel => exact ⟨k + 1, by omega, by go_num, by rw [Hn2.out]⟩
        case measure => simp [intOf]; omega
    · have hkm' : k = m := by omega
      subst hkm'
      have z0 : decide ((k : Int) < (k : Int)) = false := by simp
      have z0' : decide (k < k) = false := by simp
      rw [Al.out]
      go_wp2_with fail
      go_ret
      exact ⟨rfl, rfl⟩


/-- Bools that are false, as cells. -/
def bcells (n : Nat) : Array Value := madeCells #[.bool false] n
theorem bool_info : (Try.prog.info? 4).map (fun i => (i.zero, i.size, i.bytes)) = some (some (.bool false), 1, 1) := by kernel_rfl
theorem make_bools (n : Nat) (hn : n ≤ 281474976710656) (w : World) :
    (Instr.makeSlice 62 (.int .i64 (n : Int)) (.int .i64 (n : Int))).run Try.prog w = .ok (.slice (some ⟨w.heap.size, 0, none⟩) n n) (w.alloc (.cells (bcells n) 4)) :=
  run_make_row' _ _ _ 1 Try.underlying62 bool_info rfl .i64 .i64 n (by omega) (by omega) w
theorem bls_none (n : Nat) : bls (List.replicate n false) = bcells n := by
  apply Array.toList_inj.1
  unfold bcells bls
  rw [toList_madeCells_one, List.map_replicate]
theorem setN_full (n : Nat) : Rn.setN (List.replicate n false) 0 true n = List.replicate n true := by
  refine Rn.ext (by rw [Rn.setN_len, List.length_replicate, List.length_replicate]) fun j hj => ?_
  rw [Rn.setN_len, List.length_replicate] at hj
  rw [Rn.setN_at _ _ _ _ _ (by rw [List.length_replicate]; omega), if_pos (by omega), List.getD_eq_getElem?_getD, List.getElem?_replicate, if_pos hj]; rfl

set_option maxRecDepth 4000 in
set_option maxHeartbeats 4000000 in
theorem rnew_any (n : Int) (w : World) : Calls Try.prog 14 #[.int .i64 n] w fun e w' => ∃ g gb, e = .returned (.pointer (some ⟨g, 0, none⟩)) ∧ RRef w' g gb (Rn.new n) ∧ Below w.heap.size w w' ∧ w.heap.size ≤ g ∧ w.heap.size ≤ gb := by
  unfold Rn.new
  by_cases h1 : n < 0
  · rw [if_pos (.inl h1)]
    have q1 : decide (n < 0) = true := by rw [decide_eq_true_eq]; exact h1
    clear h1
    obtain ⟨W1, hW1⟩ : ∃ W, W = w.alloc (.cells (bcells 0) 4) := ⟨_, rfl⟩
    obtain ⟨W2, hW2⟩ : ∃ W, W = W1.alloc (.cells #[.slice (some ⟨w.heap.size, 0, none⟩) 0 0] 64) := ⟨_, rfl⟩
    have mk : (Instr.makeSlice 62 (.int .i64 0) (.int .i64 0)).run Try.prog w = .ok (.slice (some ⟨w.heap.size, 0, none⟩) 0 0) W1 := by rw [hW1]; exact make_bools 0 (by omega) w
    obtain ⟨gb, hgb⟩ : ∃ g, w.heap.size = g := ⟨_, rfl⟩
    have e2 : W1.alloc (.cells #[.slice (some ⟨gb, 0, none⟩) 0 0] 64) = W2 := by rw [← hgb]; exact hW2.symm
    obtain ⟨g, hg⟩ : ∃ g, W1.heap.size = g := ⟨_, rfl⟩
    have R2 := Lib.hid (show RRef W2 g gb [] from by
      refine ⟨?_, ?_, by decide⟩
      · rw [hW2, ← hg, hgb]; exact Blk.new _ _ _
      · rw [show bls [] = bcells 0 from bls_none 0, hW2, hW1, ← hgb]; exact (Blk.new _ _ _).alloc _)
    have B2 := Lib.hid (show Below w.heap.size w W2 by rw [hW2, hW1]; exact ((Below.refl _ _).alloc (Nat.le_refl _) _).alloc (by simp) _)
    have HG := Lib.hid (show w.heap.size ≤ g ∧ w.heap.size ≤ gb by rw [← hg, hW1, ← hgb]; simp)
    clear hW1 hW2
    go_enter Try.func14, Try.ntmps14
    go_wp2_with fail
    go_loopw [4] (fun v wr => v = .int .i64 0 ∧ wr = W2) (fun _ _ => 0)
    case atStart => exact ⟨rfl, rfl⟩
    case round =>
      obtain ⟨rfl, rfl⟩ := hrel
      go_wp2_with fail
      go_ret
      exact ⟨g, gb, rfl, R2.out, B2.out, HG.out⟩
  have q1 : decide (n < 0) = false := by rw [decide_eq_false_iff_not]; exact h1
  by_cases h2 : 8192 < n
  · rw [if_pos (.inr h2)]
    have q2 : decide (8192 < n) = true := by rw [decide_eq_true_eq]; exact h2
    clear h1 h2
    obtain ⟨W1, hW1⟩ : ∃ W, W = w.alloc (.cells (bcells 0) 4) := ⟨_, rfl⟩
    obtain ⟨W2, hW2⟩ : ∃ W, W = W1.alloc (.cells #[.slice (some ⟨w.heap.size, 0, none⟩) 0 0] 64) := ⟨_, rfl⟩
    have mk : (Instr.makeSlice 62 (.int .i64 0) (.int .i64 0)).run Try.prog w = .ok (.slice (some ⟨w.heap.size, 0, none⟩) 0 0) W1 := by rw [hW1]; exact make_bools 0 (by omega) w
    obtain ⟨gb, hgb⟩ : ∃ g, w.heap.size = g := ⟨_, rfl⟩
    have e2 : W1.alloc (.cells #[.slice (some ⟨gb, 0, none⟩) 0 0] 64) = W2 := by rw [← hgb]; exact hW2.symm
    obtain ⟨g, hg⟩ : ∃ g, W1.heap.size = g := ⟨_, rfl⟩
    have R2 := Lib.hid (show RRef W2 g gb [] from by
      refine ⟨?_, ?_, by decide⟩
      · rw [hW2, ← hg, hgb]; exact Blk.new _ _ _
      · rw [show bls [] = bcells 0 from bls_none 0, hW2, hW1, ← hgb]; exact (Blk.new _ _ _).alloc _)
    have B2 := Lib.hid (show Below w.heap.size w W2 by rw [hW2, hW1]; exact ((Below.refl _ _).alloc (Nat.le_refl _) _).alloc (by simp) _)
    have HG := Lib.hid (show w.heap.size ≤ g ∧ w.heap.size ≤ gb by rw [← hg, hW1, ← hgb]; simp)
    clear hW1 hW2
    go_enter Try.func14, Try.ntmps14
    go_wp2_with fail
    go_loopw [4] (fun v wr => v = .int .i64 0 ∧ wr = W2) (fun _ _ => 0)
    case atStart => exact ⟨rfl, rfl⟩
    case round =>
      obtain ⟨rfl, rfl⟩ := hrel
      go_wp2_with fail
      go_ret
      exact ⟨g, gb, rfl, R2.out, B2.out, HG.out⟩
  have q2 : decide (8192 < n) = false := by rw [decide_eq_false_iff_not]; exact h2
  rw [if_neg (by omega)]
  obtain ⟨k, rfl⟩ : ∃ k : Nat, n = (k : Int) := ⟨n.toNat, by omega⟩
  have q2' : decide (8192 < k) = false := by rw [decide_eq_false_iff_not]; omega
  have hk8 : k ≤ 8192 := by omega
  rw [Int.toNat_natCast]
  clear h1 h2
  obtain ⟨W1, hW1⟩ : ∃ W, W = w.alloc (.cells (bcells k) 4) := ⟨_, rfl⟩
  obtain ⟨W2, hW2⟩ : ∃ W, W = W1.alloc (.cells #[.slice (some ⟨w.heap.size, 0, none⟩) k k] 64) := ⟨_, rfl⟩
  have mk : (Instr.makeSlice 62 (.int .i64 (k : Int)) (.int .i64 (k : Int))).run Try.prog w = .ok (.slice (some ⟨w.heap.size, 0, none⟩) k k) W1 := by rw [hW1]; exact make_bools k (by omega) w
  obtain ⟨gb, hgb⟩ : ∃ g, w.heap.size = g := ⟨_, rfl⟩
  have e2 : W1.alloc (.cells #[.slice (some ⟨gb, 0, none⟩) k k] 64) = W2 := by rw [← hgb]; exact hW2.symm
  obtain ⟨g, hg⟩ : ∃ g, W1.heap.size = g := ⟨_, rfl⟩
  have hgg : g = gb + 1 := by rw [← hg, hW1, ← hgb]; simp
  have R2 := Lib.hid (show RRef W2 g gb (Rn.setN (List.replicate k false) 0 true 0) from by
    refine ⟨?_, ?_, by rw [Rn.setN, List.length_replicate]; omega⟩
    · rw [Rn.setN, List.length_replicate, hW2, ← hg, hgb]; exact Blk.new _ _ _
    · rw [Rn.setN, bls_none, hW2, hW1, ← hgb]; exact (Blk.new _ _ _).alloc _)
  have B2 := Lib.hid (show Below w.heap.size w W2 by rw [hW2, hW1]; exact ((Below.refl _ _).alloc (Nat.le_refl _) _).alloc (by simp) _)
  have HG := Lib.hid (show w.heap.size ≤ g ∧ w.heap.size ≤ gb by rw [← hg, hW1, ← hgb]; simp)
  have hgw : w.heap.size ≤ gb := by omega
  clear hW1 hW2 hgg
  go_enter Try.func14, Try.ntmps14
  go_wp2_with fail
  go_loopw [4] (fun v wr => ∃ j : Nat, v = .int .i64 (j : Int) ∧ j ≤ k ∧ RRef wr g gb (Rn.setN (List.replicate k false) 0 true j) ∧ Below w.heap.size w wr) (fun v _ => k - (intOf v).toNat)
  case atStart => exact ⟨0, rfl, Nat.zero_le _, R2.out, B2.out⟩
  case round =>
    obtain ⟨j, rfl, hj, hr, hb⟩ := hrel
    clear R2 B2 mk e2 hgb hg
    by_cases hjk : j < k
    · have z0 : decide ((j : Int) < (k : Int)) = true := by rw [decide_eq_true_eq]; omega
      have z0' : decide (j < k) = true := by rw [decide_eq_true_eq]; exact hjk
      have c0 : wr.cell? ⟨g, 0, none⟩ = some (.slice (some ⟨gb, 0, none⟩) k k) := by
        have := hr.map.cell 0
        rw [Rn.setN_len, List.length_replicate] at this
        exact this
      have cq := hr.blks.cell j
      rw [bls_at (by rw [Rn.setN_len, List.length_replicate]; exact hjk)] at cq
      have fq := hr.blks.frozen j
      have St := Lib.hid (show RRef (wr.setCell ⟨gb, j, none⟩ (.bool true)) g gb (Rn.setN (List.replicate k false) 0 true (j + 1)) by rw [Rn.setN, Nat.zero_add]; exact hr.set_ j true)
      have Sb := Lib.hid (hb.setCell (p := ⟨gb, j, none⟩) hgw (.bool true))
      clear hr hb
      generalize (Rn.setN (List.replicate k false) 0 true j).getD j false = y at *
      go_wp2_with fail
      go_roundw
      case rel => exact ⟨j + 1, by go_num, by omega, St.out, Sb.out⟩
      case measure => simp [intOf]; omega
    · have hjk' : j = k := by omega
      subst hjk'
      have z0 : decide ((j : Int) < (j : Int)) = false := by simp
      have z0' : decide (j < j) = false := by simp
      rw [setN_full] at hr
      have Hr := Lib.hid hr
      have Hb := Lib.hid hb
      clear hr hb hjk
      go_wp2_with fail
      go_ret
      exact ⟨g, gb, rfl, Hr.out, Hb.out, HG.out⟩
end Go.Proofs.Ytfiafgmlbejboaa
