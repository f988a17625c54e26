/- TallyLinear returns true for all arguments; the memory that was there stays as it is. -/
import Derived.Test.YthopckljhmommaaNoughts
import Derived.Test.YthopckljhmommaaApp
import Derived.Test.YthopckljhmommaaCutS
import Derived.Test.YthopckljhmommaaTells
namespace Go.Proofs.Ythopckljhmommaa
open Go.RowKit Crc

/-- What the loop has written after j rounds. -/
def mixed (a b : List Nat) (n j : Nat) : List Nat := (List.zipWith (· ^^^ ·) a b).take j ++ List.replicate (n - j) 0

theorem mixed_zero (a b : List Nat) (n : Nat) : mixed a b n 0 = List.replicate n 0 := by unfold mixed; simp
theorem mixed_length {a b : List Nat} {n j : Nat} (ha : n ≤ a.length) (hb : n ≤ b.length) (hj : j ≤ n) : (mixed a b n j).length = n := by
  unfold mixed; simp; omega
theorem mixed_next {a b : List Nat} {n j : Nat} (ha : n ≤ a.length) (hb : n ≤ b.length) (hj : j < n) : (mixed a b n j).set j (a.getD j 0 ^^^ b.getD j 0) = mixed a b n (j + 1) := by
  have hz : j < (List.zipWith (· ^^^ ·) a b).length := by simp; omega
  have hlen : ((List.zipWith (· ^^^ ·) a b).take j).length = j := by simp; omega
  unfold mixed
  rw [List.set_append_right _ _ (by omega), hlen, Nat.sub_self, show n - j = (n - (j + 1)) + 1 by omega, List.replicate_succ, List.set_cons_zero, List.take_succ_eq_append_getElem hz]
  have e1 : a[j]? = some a[j] := List.getElem?_eq_getElem (by omega)
  have e2 : b[j]? = some b[j] := List.getElem?_eq_getElem (by omega)
  simp [List.getD, e1, e2]
theorem mixed_end {a b : List Nat} {n : Nat} : mixed a b n n = List.zipWith (· ^^^ ·) (a.take n) (b.take n) := by
  unfold mixed; simp [List.take_zipWith]
theorem mixed_bytes {a b : List Nat} (ha : ∀ x ∈ a, x < 256) (hb : ∀ x ∈ b, x < 256) (n j : Nat) : ∀ x ∈ mixed a b n j, x < 256 := by
  intro x hx
  unfold mixed at hx
  rcases List.mem_append.1 hx with h | h
  · have h := List.mem_of_mem_take h
    obtain ⟨i, hi, rfl⟩ := List.mem_iff_getElem.1 h
    rw [List.getElem_zipWith]
    exact Nat.xor_lt_two_pow (n := 8) (ha _ (List.getElem_mem _)) (hb _ (List.getElem_mem _))
  · rw [List.eq_of_mem_replicate h]; decide
theorem zcells_list (n : Nat) : (zcells n).toList = byts (List.replicate n 0) := by
  unfold zcells byts
  rw [toList_madeCells_one, List.map_replicate]; rfl
theorem own_zeros (w : World) (base n : Nat) (hb : base ≤ w.heap.size) (hn : n ≤ maxLen) : (w.alloc (.cells (zcells n) 5)).ownsRow base 5 1 (.slice (some ⟨w.heap.size, 0, none⟩) n n) n (byts (List.replicate n 0)) := by
  have h := World.ownsRow_lit (base := base) (e := 5) (size := 1) w (zcells n) n hb hn (by unfold zcells; rw [size_madeCells]; omega)
  rwa [zcells_list] at h
theorem at_of {w : World} {B : Nat} {A : Option Addr} {l : List Nat} (h : Sl w B A (byts l)) {j : Nat} (hj : j < l.length) :
    ∃ b o, A = some ⟨b, o, none⟩ ∧ b < B ∧ w.cell? ⟨b, o + j, none⟩ = some (.int .u8 ((l.getD j 0 : Nat) : Int)) := by
  obtain ⟨b, o, e, hb, hc⟩ := h.at_ (i := j) (by rw [byts_length]; exact hj)
  refine ⟨b, o, e, hb, ?_⟩
  rw [hc j (by rw [byts_length]; exact hj), ← byts_at hj, List.getElem?_eq_getElem]
theorem xor_val8 {x y : Nat} (hx : x < 256) (hy : y < 256) : bits BinOp.xor IntKind.u8 (x : Int) (y : Int) = ((x ^^^ y : Nat) : Int) := u8_xor_nat _ _ hx hy
theorem getD_lt {l : List Nat} (hl : ∀ x ∈ l, x < 256) (i : Nat) : l.getD i 0 < 256 := by
  rw [List.getD_eq_getElem?_getD]
  cases e : l[i]? with
  | none => decide
  | some y => exact hl y (List.mem_of_getElem? e)

theorem lsum_to (A : Option Addr) (cap : Nat) (l : List Nat) (hl : ∀ x ∈ l, x < 256) (hlen : l.length ≤ 9223372036854775807) (k : Nat) (hk : k ≤ l.length) {W w : World} (hb : Below W.heap.size W w) (hsl : Sl w w.heap.size A (byts l)) :
    Calls Try.prog 10 #[.slice A k cap] w fun e w' => e = .returned (.int .u32 ((sum (l.take k) : Nat) : Int)) ∧ Below W.heap.size W w' ∧ Below w.heap.size w w' := by
  have h := sum_any A cap (l.take k) (fun x hx => hl x (List.mem_of_mem_take hx)) (by rw [List.length_take]; omega) w (by rw [← byts_take]; exact hsl.to k)
  rw [List.length_take, Nat.min_eq_left hk] at h
  exact h.mono fun _ _ ⟨e, h⟩ => ⟨e, hb.trans (h.mono hb.size), h⟩
theorem sum_mixed (A : Option Addr) (a b : List Nat) (ha : ∀ x ∈ a, x < 256) (hb : ∀ x ∈ b, x < 256) {n : Nat} (hn : (mixed a b n n).length = n) (hs : n ≤ 4000) {W w : World} (hbw : Below W.heap.size W w) (hsl : Sl w w.heap.size A (byts (mixed a b n n))) :
    Calls Try.prog 10 #[.slice A n n] w fun e w' => e = .returned (.int .u32 ((sum (mixed a b n n) : Nat) : Int)) ∧ Below W.heap.size W w' ∧ Below w.heap.size w w' := by
  have h := sum_any A n (mixed a b n n) (mixed_bytes ha hb n n) (by omega) w hsl
  rw [hn] at h
  exact h.mono fun _ _ ⟨e, h⟩ => ⟨e, hbw.trans (h.mono hbw.size), h⟩
theorem linear_sums {a b : List Nat} {n : Nat} (ha : n ≤ a.length) (hb : n ≤ b.length) :
    bits BinOp.xor IntKind.u32 ((sum (a.take n) : Nat) : Int) ((sum (b.take n) : Nat) : Int) = bits BinOp.xor IntKind.u32 ((sum (mixed a b n n) : Nat) : Int) ((sum (List.replicate n 0) : Nat) : Int) := by
  rw [u32_xor_nat _ _ (sum_lt _) (sum_lt _), u32_xor_nat _ _ (sum_lt _) (sum_lt _), mixed_end]
  have h := sum_xor (l := a.take n) (m := b.take n) (by simp; omega)
  rw [List.length_take, Nat.min_eq_left ha] at h
  rw [h]

set_option maxHeartbeats 4000000 in
theorem linear_any (A : Option Addr) (capa : Nat) (a : List Nat) (ha : ∀ x ∈ a, x < 256) (hcapa : a.length ≤ capa) (hma : capa ≤ 9223372036854775807) (B : Option Addr) (capb : Nat) (b : List Nat) (hb : ∀ x ∈ b, x < 256) (hcapb : b.length ≤ capb) (hmb : capb ≤ 9223372036854775807) (w : World)
    (hsa : Sl w w.heap.size A (byts a)) (hsb : Sl w w.heap.size B (byts b)) :
    Calls Try.prog 5 #[.slice A a.length capa, .slice B b.length capb] w fun e w' => e = .returned (.bool true) ∧ Below w.heap.size w w' := by
  obtain ⟨n, hn, hna, hnb⟩ : ∃ n : Nat, (if (b.length : Int) < (a.length : Int) then (b.length : Int) else (a.length : Int)) = (n : Int) ∧ n ≤ a.length ∧ n ≤ b.length := ⟨min a.length b.length, by split <;> omega, by omega, by omega⟩
  have hmin : ∀ (ts : Array TypeId) (t : TypeId) (W : World), (Builtin.min_ ts t #[.int .i64 (a.length : Int), .int .i64 (b.length : Int)]).run Try.prog W = .ok (.int .i64 (n : Int)) W := fun ts t W => by
    rw [run_min_int2, hn]
  clear hn
  by_cases h4000 : 4000 < n
  · go_enter Try.func5, Try.ntmps5
    go_wp2_with fail
    refine (awake_any _).mono ?_
    rintro e w1 ⟨rfl, hb1⟩
    go_wp2_with fail
    go_ret
    exact ⟨rfl, hb1⟩
  have k1 := fun W => make_bytes n (by omega) W
  go_enter Try.func5, Try.ntmps5
  go_wp2_with fail
  refine (awake_any _).mono ?_
  rintro e w1 ⟨rfl, hb1⟩
  go_wp2_with fail
  have hrow0 := own_zeros w1 w1.heap.size n (Nat.le_refl _) (by unfold maxLen; omega)
  have hbz : Below w.heap.size w (w1.alloc (.cells (zcells n) 5)) := hb1.alloc hb1.size _
  go_loopw [7] (fun i wr => ∃ j : Nat, j ≤ n ∧ i = .int .i64 j ∧ wr.ownsRow w1.heap.size 5 1 (.slice (some ⟨w1.heap.size, 0, none⟩) n n) n (byts (mixed a b n j)) ∧ Below w.heap.size w wr) (fun i _ => n - (intOf i).toNat)
  case atStart => exact ⟨0, by omega, rfl, by rw [mixed_zero]; exact hrow0, hbz⟩
  case round =>
    obtain ⟨j, hj, rfl, hrow, hbr⟩ := hrel
    clear hrow0 hbz
    by_cases hlt : j < n
    · obtain ⟨ba, oa, rfl, hba, hca⟩ := at_of (hsa.below hbr) (j := j) (by omega)
      obtain ⟨bb, ob, rfl, hbb, hcb⟩ := at_of (hsb.below hbr) (j := j) (by omega)
      have hfz := hrow.frozenAt j
      have hcc : ∃ u, wr.cell? ⟨w1.heap.size, j, none⟩ = some u := ⟨_, by rw [hrow.cellAt j (by omega), byts_at (by rw [mixed_length hna hnb hj]; exact hlt)]⟩
      obtain ⟨u, hcu⟩ := hcc
      have hst := hrow.stored j (.int .u8 ((a.getD j 0 ^^^ b.getD j 0 : Nat) : Int))
      rw [byts_set, mixed_next hna hnb hlt] at hst
      have Hst := Lib.hid hst
      have Hx := Lib.hid (xor_val8 (getD_lt ha j) (getD_lt hb j))
      clear hst hrow
      generalize a.getD j 0 = x at *
      generalize b.getD j 0 = y at *
      go_wp2_with fail
      go_region
      go_wp2_with fail
      go_roundw
      case rel => exact ⟨j + 1, by omega, by go_num, by rw [Hx.out]; exact Hst.out.1.drew, by rw [Hx.out]; exact (hbr.grown Hst.out.2 hbr.size (fun g' hg' => by injection hg' with hg'; have := hb1.size; omega)).drew⟩
      case measure => simp [intOf]; omega
    · have hjn : j = n := by omega
      subst hjn
      have Hm := Lib.hid (Sl.of_own hrow)
      have Ha := Lib.hid ((hsa.below hbr).more hbr.size)
      have Hb := Lib.hid ((hsb.below hbr).more hbr.size)
      obtain ⟨i0, hi0, hs0⟩ := byte_size
      have cut1 := run_slice_to Try.underlying22 hi0 A a.length capa j (by omega)
      have cut2 := run_slice_to Try.underlying22 hi0 B b.length capb j (by omega)
      have hml := mixed_length (j := j) hna hnb (Nat.le_refl _)
      clear hrow
      have e1 := linear_sums (a := a) (b := b) hna hnb
      have hsz := hbr.size
      have HBR := Lib.hid hbr
      have hbc : Below wr.heap.size wr wr := Below.refl _ _
      clear hbr hb1
      go_wp2_with fail
      go_region_with (first
        | (go_at_call 10; ((with_reducible refine (lsum_to A capa a ha (by omega) j hna (W := wr) (by go_grown) (sl_keep Ha.out (by go_grown))).mono ?_); rintro e w' ⟨rfl, hbc, h1⟩; have hz1 := hbc.size; have hzs1 := h1.size; (try simp at hzs1)))
        | (go_at_call 10; ((with_reducible refine (lsum_to B capb b hb (by omega) j hnb (W := wr) (by go_grown) (sl_keep Hb.out (by go_grown))).mono ?_); rintro e w' ⟨rfl, hbc, h2⟩; have hz2 := hbc.size; have hzs2 := h2.size; (try simp at hzs2)))
        | (go_at_call 10; ((with_reducible refine (sum_mixed (some ⟨w1.heap.size, 0, none⟩) a b ha hb hml (by omega) (W := wr) (by go_grown) (sl_keep Hm.out (by go_grown))).mono ?_); rintro e w' ⟨rfl, hbc, h3⟩; have hz3 := hbc.size; have hzs3 := h3.size; (try simp at hzs3)))
        | (go_at_call 10; go_loud (((refine (sum_zeros (W := wr) (by go_grown) _ _ (by omega) (by first | (simp; done) | (simp; omega) | omega) (by intro i; (try simp only [World.cell?_drew]); first | exact cell_fresh (by simp) | exact (h3.cell (p := ⟨_, i, none⟩) (by first | (simp; done) | (simp; omega) | omega)).trans (cell_fresh (by simp)) | exact (h3.cell (p := ⟨_, i, none⟩) (by first | (simp; done) | (simp; omega) | omega)).trans ((h2.cell (p := ⟨_, i, none⟩) (by first | (simp; done) | (simp; omega) | omega)).trans (cell_fresh (by simp))) | exact (h3.cell (p := ⟨_, i, none⟩) (by first | (simp; done) | (simp; omega) | omega)).trans ((h2.cell (p := ⟨_, i, none⟩) (by first | (simp; done) | (simp; omega) | omega)).trans ((h1.cell (p := ⟨_, i, none⟩) (by first | (simp; done) | (simp; omega) | omega)).trans (cell_fresh (by simp)))))).mono ?_)); rintro e w' ⟨rfl, hbc, h4⟩)))
      all_goals (go_wp2_with fail; go_ret; exact ⟨rfl, HBR.out.trans (hbc.mono HBR.out.size)⟩)

end Go.Proofs.Ythopckljhmommaa
