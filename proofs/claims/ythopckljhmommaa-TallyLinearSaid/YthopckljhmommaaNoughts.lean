/- TallyNoughts returns true for all arguments; the memory that was there stays as it is. -/
import Derived.Test.YthopckljhmommaaTawake
import Derived.Deep.OwnRows
import Derived.Deep.DeepCutAuto
import Derived.Deep.RegionWith
import Derived.IntWalk
namespace Go.Proofs.Ythopckljhmommaa
open Go.RowKit Crc

theorem byte_info : (Try.prog.info? 5).map (fun i => (i.zero, i.size, i.bytes)) = some (some (.int .u8 0), 1, 1) := by kernel_rfl
/-- n zero bytes, as cells. -/
def zcells (n : Nat) : Array Value := madeCells #[.int .u8 0] n
theorem make_bytes (n : Nat) (hn : n ≤ 281474976710656) (w : World) :
    (Instr.makeSlice 22 (.int .i64 (n : Int)) (.int .i64 (n : Int))).run Try.prog w = .ok (.slice (some ⟨w.heap.size, 0, none⟩) n n) (w.alloc (.cells (zcells n) 5)) :=
  run_make_row' _ _ _ 1 Try.underlying22 byte_info rfl .i64 .i64 n (by omega) (by omega) w
theorem zcells_get {n i : Nat} (h : i < n) : (zcells n)[i]? = some (.int .u8 0) := by
  unfold zcells madeCells
  simp [h, Nat.mod_one]
theorem sl_zeros {w : World} {g n : Nat} (hg : g < w.heap.size) (hc : ∀ i, w.cell? ⟨g, i, none⟩ = (zcells n)[i]?) : Sl w w.heap.size (some ⟨g, 0, none⟩) (byts (List.replicate n 0)) :=
  .inr ⟨g, 0, rfl, hg, fun i hi => by
    have hi' : i < n := by simpa [byts] using hi
    rw [Nat.zero_add, hc, zcells_get hi']
    simp [byts]⟩
theorem sum_zeros {W w : World} (hb : Below W.heap.size W w) (g n : Nat) (hn : n ≤ 65536) (hg : g < w.heap.size) (hc : ∀ i, w.cell? ⟨g, i, none⟩ = (zcells n)[i]?) :
    Calls Try.prog 10 #[.slice (some ⟨g, 0, none⟩) n n] w fun e w' => e = .returned (.int .u32 ((sum (List.replicate n 0) : Nat) : Int)) ∧ Below W.heap.size W w' ∧ Below w.heap.size w w' := by
  have h := sum_any (some ⟨g, 0, none⟩) n (List.replicate n 0) (by intro x hx; rw [List.eq_of_mem_replicate hx]; decide) (by rw [List.length_replicate]; omega) w (sl_zeros hg hc)
  rw [List.length_replicate] at h
  exact h.mono fun _ _ ⟨e, h⟩ => ⟨e, hb.trans (h.mono hb.size), h⟩

/-- The sum of n zero bytes. -/
def zsum (n : Nat) : Nat := sum (List.replicate n 0)

theorem sum_lt (l : List Nat) : sum l < 2 ^ 32 := more_lt (by decide) l
theorem zsum_eq {n m : Nat} (hn : n < 256) (hm : m < 256) : ((((zsum n : Nat) : Int) == ((zsum m : Nat) : Int)) == ((n : Int) == (m : Int))) = true := by
  have e : zsum n = zsum m ↔ n = m := ⟨zeros_differ hn hm, fun h => by rw [h]⟩
  have h1 : (((zsum n : Nat) : Int) == ((zsum m : Nat) : Int)) = decide (n = m) := by
    rw [Bool.eq_iff_iff, beq_iff_eq, decide_eq_true_eq]; exact ⟨fun h => e.1 (by omega), fun h => by rw [h]⟩
  have h2 : ((n : Int) == (m : Int)) = decide (n = m) := by
    rw [Bool.eq_iff_iff, beq_iff_eq, decide_eq_true_eq]; omega
  rw [h1, h2]; simp
theorem more_nil_rel (s : Nat) (hs : s < 2 ^ 32) {W w : World} (hb : Below W.heap.size W w) :
    Calls Try.prog 12 #[.int .u32 (s : Int), .slice none 0 0] w fun e w' => e = .returned (.int .u32 (s : Int)) ∧ Below W.heap.size W w' := by
  have h := more_rel s hs none 0 [] (by simp) (by simp) hb (Sl.nil _ _ _)
  rw [more_nil] at h
  exact h
theorem more_zero_rel (A : Option Addr) (cap : Nat) (l : List Nat) (hl : ∀ x ∈ l, x < 256) (hlen : l.length ≤ 9223372036854775807) {w w1 : World} (hb : Below w.heap.size w w1) (hsl : Sl w1 w1.heap.size A (byts l)) :
    Calls Try.prog 12 #[.int .u32 0, .slice A l.length cap] w1 fun e w' => e = .returned (.int .u32 ((sum l : Nat) : Int)) ∧ Below w.heap.size w w' := more_rel 0 (by decide) A cap l hl hlen hb hsl

set_option maxHeartbeats 2000000 in
theorem noughts_any (n m : Nat) (hn : n < 256) (hm : m < 256) (A : Option Addr) (cap : Nat) (l : List Nat) (hl : ∀ x ∈ l, x < 256) (hlen : l.length ≤ 9223372036854775807) (w : World) (hsl : Sl w w.heap.size A (byts l)) :
    Calls Try.prog 7 #[.int .u8 (n : Int), .int .u8 (m : Int), .slice A l.length cap] w fun e w' => e = .returned (.bool true) ∧ Below w.heap.size w w' := by
  have k1 := fun W => make_bytes n (by omega) W
  have k2 := fun W => make_bytes m (by omega) W
  have q1 : IntKind.i64.wrap (n : Int) = n := IntWalk.i64_in _ (by omega)
  have q2 : IntKind.i64.wrap (m : Int) = m := IntWalk.i64_in _ (by omega)
  by_cases h1000 : l.length ≤ 1000
  · go_enter Try.func7, Try.ntmps7
    go_wp2_with fail
    refine (awake_any _).mono ?_
    rintro e w1 ⟨rfl, hb⟩
    have hsz := hb.size
    go_upto_region 5 with fail
    go_cut [7, 8] (fun s7 s8 wx => s7 = .int .u32 ((zsum n : Nat) : Int) ∧ s8 = .int .u32 ((zsum m : Nat) : Int) ∧ Below w.heap.size w wx)
    case first =>
      go_region_with (go_at_call 10; go_loud (((refine (sum_zeros (W := w) (by go_grown) _ _ (by omega) (by first | (simp; done) | (simp; omega) | omega) (by intro i; (try simp only [World.cell?_drew]); first | exact cell_fresh (by simp) | exact (World.cell?_alloc_lt _ _ _ (by simp)).trans (cell_fresh (by simp)) | exact (hbs.cell (p := ⟨_, i, none⟩) (by first | (simp; done) | (simp; omega) | omega)).trans ((World.cell?_alloc_lt _ _ _ (by simp)).trans (cell_fresh (by simp))) | exact (hbs.cell (p := ⟨_, i, none⟩) (by first | (simp; done) | (simp; omega) | omega)).trans (cell_fresh (by simp)))).mono ?_)); rintro e w' ⟨rfl, hbw, hbs⟩; have hz' := hbw.size; have hzs := hbs.size; (try simp at hzs)))
      all_goals (go_wp2_with fail; go_meet; exact ⟨rfl, rfl, by go_grown⟩)
    case rest =>
      obtain ⟨rfl, rfl, hb2⟩ := hcut
      have e0 : ((((zsum n : Nat) : Int) == ((zsum m : Nat) : Int)) == ((n : Int) == (m : Int))) = true := zsum_eq hn hm
      have e1 : (zsum n = zsum m ↔ n = m) := ⟨zeros_differ hn hm, fun h => by rw [h]⟩
      go_wp2_with (first
        | (go_at_call 10; ((with_reducible refine (sum_nil hb2).mono ?_); rintro e w' ⟨rfl, hb2⟩))
        | (go_at_call 10; ((with_reducible refine (sum_rel _ _ _ hl hlen hb2 (sl_keep hsl hb2)).mono ?_); rintro e w' ⟨rfl, hb2⟩))
        | (go_at_call 12; ((with_reducible refine (more_nil_rel _ (sum_lt _) hb2).mono ?_); rintro e w' ⟨rfl, hb2⟩))
        | (go_at_call 12; ((with_reducible refine (more_zero_rel _ _ _ hl hlen hb2 (sl_keep hsl hb2)).mono ?_); rintro e w' ⟨rfl, hb2⟩)))
      go_ret
      exact ⟨rfl, hb2⟩
  · go_enter Try.func7, Try.ntmps7
    go_wp2_with fail
    refine (awake_any _).mono ?_
    rintro e w1 ⟨rfl, hb⟩
    go_wp2_with fail
    go_ret
    exact ⟨rfl, hb⟩

end Go.Proofs.Ythopckljhmommaa
