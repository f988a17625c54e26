/- TallyTells returns true for all arguments; the memory that was there stays as it is. -/
import Derived.Test.YthopckljhmommaaTawake
import Derived.Test.YthopckljhmommaaApp
namespace Go.Proofs.Ythopckljhmommaa
open Go.RowKit Crc

/-- The list with j bytes changed, from k on. -/
def upd (l : List Nat) (k m : Nat) : Nat → List Nat
  | 0 => l
  | j + 1 => (upd l k m j).set (k + j) ((upd l k m j).getD (k + j) 0 ^^^ m / 2 ^ (8 * j) % 256)
theorem upd_length (l : List Nat) (k m : Nat) : ∀ j, (upd l k m j).length = l.length
  | 0 => rfl
  | j + 1 => by rw [upd, List.length_set]; exact upd_length l k m j
theorem upd_bytes {l : List Nat} (hl : ∀ x ∈ l, x < 256) (k m : Nat) : ∀ j, ∀ x ∈ upd l k m j, x < 256
  | 0 => hl
  | j + 1 => by
    intro x hx
    rcases List.mem_or_eq_of_mem_set hx with h | h
    · exact upd_bytes hl k m j x h
    · subst h
      have h1 : (upd l k m j).getD (k + j) 0 < 256 := by
        rw [List.getD_eq_getElem?_getD]
        cases e : (upd l k m j)[k + j]? with
        | none => decide
        | some y => exact upd_bytes hl k m j y (List.mem_of_getElem? e)
      exact Nat.xor_lt_two_pow (n := 8) h1 (Nat.mod_lt _ (by decide))
theorem upd_lt {l : List Nat} (hl : ∀ x ∈ l, x < 256) (k m j i : Nat) : (upd l k m j).getD i 0 < 256 := by
  rw [List.getD_eq_getElem?_getD]
  cases e : (upd l k m j)[i]? with
  | none => decide
  | some y => exact upd_bytes hl k m j y (List.mem_of_getElem? e)
theorem byts_at {l : List Nat} {i : Nat} (h : i < l.length) : (byts l)[i]? = some (.int .u8 ((l.getD i 0 : Nat) : Int)) := by
  unfold byts
  simp [List.getD, h]

theorem byts_set (l : List Nat) (i u : Nat) : (byts l).set i (.int .u8 (u : Int)) = byts (l.set i u) := by unfold byts; rw [List.map_set]
theorem xor_val {x : Nat} (hx : x < 256) (y e : Nat) : bits BinOp.xor IntKind.u8 (x : Int) ((y : Int) / 2 ^ e % 256) = ((x ^^^ y / 2 ^ e % 256 : Nat) : Int) := by
  have h : (y : Int) / 2 ^ e % 256 = ((y / 2 ^ e % 256 : Nat) : Int) := by simp
  rw [h, u8_xor_nat _ _ hx (Nat.mod_lt _ (by decide))]

theorem parts4 {l : List Nat} {k : Nat} (h : k + 4 ≤ l.length) : ∃ pre x0 x1 x2 x3 post, l = pre ++ ([x0, x1, x2, x3] ++ post) ∧ pre.length = k := by
  refine ⟨l.take k, l[k], l[k + 1], l[k + 2], l[k + 3], l.drop (k + 4), ?_, by simp; omega⟩
  have e : l.drop k = [l[k], l[k + 1], l[k + 2], l[k + 3]] ++ l.drop (k + 4) := by
    rw [List.drop_eq_getElem_cons (by omega), List.drop_eq_getElem_cons (i := k + 1) (by omega), List.drop_eq_getElem_cons (i := k + 1 + 1) (by omega), List.drop_eq_getElem_cons (i := k + 1 + 1 + 1) (by omega)]
    rfl
  rw [← e, List.take_append_drop]

theorem upd_parts (pre post : List Nat) (x0 x1 x2 x3 m : Nat) :
    upd (pre ++ ([x0, x1, x2, x3] ++ post)) pre.length m 4 = pre ++ ([x0 ^^^ m / 2 ^ 0 % 256, x1 ^^^ m / 2 ^ 8 % 256, x2 ^^^ m / 2 ^ 16 % 256, x3 ^^^ m / 2 ^ 24 % 256] ++ post) := by
  simp [upd, List.getD]

theorem upd_sum {l : List Nat} (hl : ∀ x ∈ l, x < 256) {k m : Nat} (hk : k + 4 ≤ l.length) (h0 : 0 < m) (hm : m < 4294967296) : (((sum l : Nat) : Int) != ((sum (upd l k m 4) : Nat) : Int)) = true := by
  obtain ⟨pre, x0, x1, x2, x3, post, rfl, rfl⟩ := parts4 hk
  rw [upd_parts]
  have h := tells (pre := pre) (post := post) (x0 := x0) (x1 := x1) (x2 := x2) (x3 := x3) (m0 := m / 2 ^ 0 % 256) (m1 := m / 2 ^ 8 % 256) (m2 := m / 2 ^ 16 % 256) (m3 := m / 2 ^ 24 % 256)
    (Nat.mod_lt _ (by decide)) (Nat.mod_lt _ (by decide)) (Nat.mod_lt _ (by decide)) (Nat.mod_lt _ (by decide)) (fun c hc => hl c (by simp [hc])) (by omega)
  simp only [bne_iff_ne, ne_eq]
  omega

set_option maxHeartbeats 2000000 in
theorem tells_any (A : Option Addr) (cap : Nat) (l : List Nat) (hl : ∀ x ∈ l, x < 256) (hcap : l.length ≤ cap) (hA : A = none → cap = 0) (w : World) (hsl : Sl w w.heap.size A (byts l)) (c m : Nat) (hc : c < 65536) (hm : m < 4294967296) :
    Calls Try.prog 4 #[.slice A l.length cap, .int .u16 (c : Int), .int .u32 (m : Int)] w fun e w' => e = .returned (.bool true) ∧ Below w.heap.size w w' := by
  by_cases h4 : l.length < 4 ∨ 4200 < l.length ∨ m = 0
  · have early : ∀ (a b d : Bool), decide ((l.length : Int) < 4) = a → decide (4200 < (l.length : Int)) = b → ((m : Int) == 0) = d → (a = true ∨ b = true ∨ d = true) →
        Calls Try.prog 4 #[.slice A l.length cap, .int .u16 (c : Int), .int .u32 (m : Int)] w fun e w' => e = .returned (.bool true) ∧ Below w.heap.size w w' := by
      intro a b d h1 h2 h3 h
      cases a <;> cases b <;> cases d <;> first
        | (simp at h; done)
        | (go_enter Try.func4, Try.ntmps4
           go_wp2_with fail
           refine (awake_any _).mono ?_
           rintro e w1 ⟨rfl, hb⟩
           go_wp2_with fail
           go_ret
           exact ⟨rfl, hb⟩)
    refine early _ _ _ rfl rfl rfl ?_
    rcases h4 with h | h | h
    · exact .inl (by simp; omega)
    · exact .inr (.inl (by simp; omega))
    · exact .inr (.inr (by simp; omega))
  · have g1 : 4 ≤ l.length := by omega
    have g2 : l.length ≤ 4200 := by omega
    have g3 : 0 < m := by omega
    clear h4
    obtain ⟨k, hk, hkl⟩ : ∃ k : Nat, (c : Int) % ((l.length : Int) - 3) = k ∧ k + 4 ≤ l.length := by
      refine ⟨((c : Int) % ((l.length : Int) - 3)).toNat, ?_, ?_⟩
      · have := Int.emod_nonneg (c : Int) (b := (l.length : Int) - 3) (by omega); omega
      · have := Int.emod_lt_of_pos (c : Int) (b := (l.length : Int) - 3) (by omega); omega
    obtain ⟨i0, hi0, hz0, hs0, hb0⟩ := byte_parts (P := Try.prog) (e := 5) (by kernel_rfl)
    go_enter Try.func4, Try.ntmps4
    go_wp2_with fail
    refine (awake_any _).mono ?_
    rintro e w1 ⟨rfl, hb⟩
    have Hs := (hsl.below hb).more hb.size
    have Hs1 : ∀ cs e, Sl (w1.alloc (.cells cs e)) w1.heap.size A (byts l) := fun cs e => Hs.below ((Below.refl _ _).alloc (Nat.le_refl _) _)
    have q0 : ((m : Int) == 0) = false := by simp; omega
    have q1 : decide ((l.length : Int) < 4) = false := by simp; omega
    have q2 : decide (4200 < (l.length : Int)) = false := by simp; omega
    go_wp2_with (at_builtin; refine wpList_append_sl (v := .slice (some ⟨w1.heap.size, 0, none⟩) 0 0) _ rfl (.tmp 24) (.tmp 25) _ rfl Try.underlying22 hi0 hz0 hs0 hb0 rfl rfl (World.ownsRow_lit w1 #[] 0 (Nat.le_refl _) (by decide) rfl) rfl (byts_length l).symm hA (Hs1 _ _) (byts_one l) (by rw [byts_length]; exact hcap) (by rw [byts_length]; unfold maxLen; omega) (by rw [byts_length]; omega) (by simp) ?_; intro v2 w2 hown hgr hbl)
    have hown2 : w2.ownsRow w1.heap.size 5 1 v2 l.length (byts l) := by simpa [byts_length] using hown
    have hb2 : Below w.heap.size w w2 := (hb.alloc hb.size _).grown hgr (by simp; have := hb.size; omega) (fun g' hg' => by have := hb.size; have e : w1.heap.size = g' := (by simpa [Value.ownBlock] using hg'); omega)
    clear hown hgr hbl Hs1
    obtain ⟨g, cap2, rfl, hgB⟩ : ∃ g cap2, v2 = .slice (some ⟨g, 0, none⟩) l.length cap2 ∧ w1.heap.size ≤ g := by
      rcases hown2.2 with ⟨_, h0⟩ | ⟨g, cap2, _, hv, hbg, _⟩
      · omega
      · exact ⟨g, cap2, hv, hbg⟩
    go_loopw [9] (fun i wr => ∃ j : Nat, j ≤ 4 ∧ i = .int .i64 j ∧ wr.ownsRow w1.heap.size 5 1 (.slice (some ⟨g, 0, none⟩) l.length cap2) l.length (byts (upd l k m j)) ∧ Below w.heap.size w wr) (fun i _ => 4 - (intOf i).toNat)
    case atStart => exact ⟨0, by omega, rfl, hown2, hb2⟩
    case round =>
      obtain ⟨j, hj, rfl, hrow, hbr⟩ := hrel
      have Hrow := Lib.hid hrow
      have hul := upd_length l k m j
      by_cases hlt : j < 4
      · have hcell := hrow.cellAt (k + j) (by omega)
        have hfz := hrow.frozenAt (k + j)
        have hst := hrow.stored (k + j) (.int .u8 (((upd l k m j).getD (k + j) 0 ^^^ m / 2 ^ (8 * j) % 256 : Nat) : Int))
        rw [byts_set] at hst
        have Hst := Lib.hid hst
        have hcv : (byts (upd l k m j))[k + j]? = some (.int .u8 (((upd l k m j).getD (k + j) 0 : Nat) : Int)) := byts_at (by omega)
        rw [hcv] at hcell
        have Hup := Lib.hid (show upd l k m (j + 1) = (upd l k m j).set (k + j) ((upd l k m j).getD (k + j) 0 ^^^ m / 2 ^ (8 * j) % 256) from rfl)
        have Hxv := Lib.hid (xor_val (upd_lt hl k m j (k + j)) m (8 * j))
        clear hst hrow hcv Hrow
        generalize (upd l k m j).getD (k + j) 0 = x at *
        go_wp2
        go_roundw
        case rel => exact ⟨j + 1, by omega, by go_num, by rw [Hxv.out, Hup.out]; exact Hst.out.1, by rw [Hxv.out]; exact hbr.grown Hst.out.2 (by have := hbr.size; omega) (fun g' hg' => by injection hg' with hg'; have := hb.size; omega)⟩
        case measure => simp [intOf]; omega
      · have h4 : j = 4 := by omega
        subst h4
        have Hs2 := Lib.hid (sl_keep hsl hbr)
        have Ho2 := Lib.hid (Sl.of_own hrow)
        have hne := upd_sum hl hkl g3 hm
        have hub := upd_bytes hl k m 4
        have Hrec : ∀ w', Below wr.heap.size wr w' → Calls Try.prog 10 #[.slice (some ⟨g, 0, none⟩) l.length cap2] w' fun e w'' => e = .returned (.int .u32 ((sum (upd l k m 4) : Nat) : Int)) ∧ Below wr.heap.size wr w'' := fun w' h => by
          have := sum_rel (some ⟨g, 0, none⟩) cap2 (upd l k m 4) hub (by omega) h (sl_keep Ho2.out h)
          rwa [hul] at this
        have Hr := Lib.hid Hrec
        have hbc : Below wr.heap.size wr wr := Below.refl _ _
        clear hrow Hrec
        go_wp2_with (first
          | (go_at_call 10; ((with_reducible refine (sum_rel A cap l hl (by omega) hbc (sl_keep Hs2.out hbc)).mono ?_); rintro e w' ⟨rfl, hbc⟩))
          | (go_at_call 10; ((with_reducible refine (Hr.out _ hbc).mono ?_); rintro e w' ⟨rfl, hbc⟩)))
        go_ret
        exact ⟨rfl, hbr.trans (hbc.mono hbr.size)⟩

end Go.Proofs.Ythopckljhmommaa
