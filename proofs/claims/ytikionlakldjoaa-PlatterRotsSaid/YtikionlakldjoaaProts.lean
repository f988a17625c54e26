/- PlatterRots, walked. -/
import Derived.Test.YtikionlakldjoaaPawake
namespace Go.Proofs.Ytikionlakldjoaa
open Go.RowKit Go.Maps

/-- What is turned of byte q. -/
def turned (bit mask q : Nat) : Nat → Nat
  | 0 => 0
  | i + 1 => if mask / 2 ^ i % 2 = 1 ∧ (bit + i) / 8 = q then turned bit mask q i ^^^ 2 ^ ((bit + i) % 8) else turned bit mask q i
theorem rotTo_get (l : List Nat) (bit mask q : Nat) (hq : q < l.length) : ∀ i, (rotTo l bit mask i).getD q 0 = l.getD q 0 ^^^ turned bit mask q i
  | 0 => by simp [rotTo, turned]
  | i + 1 => by
    have ih := rotTo_get l bit mask q hq i
    rw [rotTo, turned]
    by_cases h1 : mask / 2 ^ i % 2 = 1
    · rw [if_pos h1]
      by_cases h2 : (bit + i) / 8 = q
      · rw [if_pos ⟨h1, h2⟩, h2, List.getD, List.getElem?_set_self (by rw [rotTo_length]; exact hq), Option.getD_some, ih, Nat.xor_assoc]
      · rw [if_neg (fun h => h2 h.2), List.getD, List.getElem?_set_ne h2, ← List.getD, ih]
    · rw [if_neg h1, if_neg (fun h => h1 h.1), ih]
theorem rot_twice (l : List Nat) (bit mask : Nat) : rotted (rotted l bit mask) bit mask = l := by
  unfold rotted
  generalize rotN bit = N
  refine List.ext_getElem? fun q => ?_
  by_cases hq : q < l.length
  · have h1 := rotTo_get (rotTo l bit mask N) bit mask q (by rw [rotTo_length]; exact hq) N
    rw [rotTo_get l bit mask q hq N, Nat.xor_assoc, Nat.xor_self, Nat.xor_zero] at h1
    rw [List.getElem?_eq_getElem (by rw [rotTo_length, rotTo_length]; exact hq), List.getElem?_eq_getElem hq]
    simp only [List.getD, List.getElem?_eq_getElem hq, Option.getD_some] at h1
    rw [List.getElem?_eq_getElem (by rw [rotTo_length, rotTo_length]; exact hq), Option.getD_some] at h1
    rw [h1]
  · rw [List.getElem?_eq_none (by rw [rotTo_length, rotTo_length]; omega), List.getElem?_eq_none (by omega)]
theorem rotN_none {bit : Nat} (h : 512 ≤ bit) : rotN bit = 0 := by unfold rotN; omega

/-- Block 9 is turned. -/
def rot9 (st : PSt) (a mask : Nat) : PSt := { st with blocks := st.blocks.set 9 (rotted (st.blocks.getD 9 []) a mask) }
theorem rot9_get {st : PSt} (h : st.blocks.length = 64) (a mask : Nat) : (rot9 st a mask).blocks.getD 9 [] = rotted (st.blocks.getD 9 []) a mask := by
  unfold rot9
  simp only [List.getD, List.getElem?_set_self (show 9 < st.blocks.length by omega), Option.getD_some]
theorem Mild.rot9 {st : PSt} {m N : Nat} (h : Mild st m N) (a mask : Nat) : Mild (rot9 st a mask) m N :=
  ⟨fun j hj => h.o j hj, h.c, by simp [Go.Proofs.Ytikionlakldjoaa.rot9, h.b], h.p⟩
theorem applied_nil (st : PSt) : ∀ j, applied st (fun i => ([] : List Bool).getD i false) j = st.blocks
  | 0 => rfl
  | j + 1 => by
    rw [applied]
    cases st.cache[j]? with
    | none => exact applied_nil st j
    | some p => simpa using applied_nil st j
theorem crash_none (st : PSt) : (st.crash []).blocks = st.blocks := applied_nil st _

section
variable {B : Nat} {w w' : World} {p : Nat} {st st' : PSt} {ks : List (Nat × List Nat)}
theorem ro (h : At B w p st ks) (hb : st.blocks.length = 64) (a mask : Nat) (hm : mask < 2 ^ 32) :
    Calls Try.prog 24 #[.pointer (some ⟨p, 0, none⟩), .int .i64 9, .int .i64 (a : Int), .int .u32 (mask : Int)] w fun e w' => e = .returned (.bool (decide ((a : Int) < 512))) ∧ At B w' p (rot9 st a mask) ks ∧ Below B w w' := by
  obtain ⟨hB, F, hd, hF, hk⟩ := h
  by_cases ha : a < 512
  · have e1 : decide ((a : Int) < 512) = true := by simp; omega
    rw [e1]
    exact (drot_good p st F w hd 9 a mask hm (by omega) ha).mono fun _ _ ⟨e, hd', hc'⟩ => ⟨e, at_chg hB hF hk hd' (fun _ h => .inl h) hc'⟩
  · have e1 : decide ((a : Int) < 512) = false := by simp; omega
    rw [e1]
    refine (drot_bad p st F w hd 9 a mask (by unfold PSt.rotOk; simp; omega)).mono ?_
    rintro e w' ⟨rfl, rfl⟩
    have hs : rot9 st a mask = st := by
      unfold rot9 rotted
      rw [rotN_none (by omega), rotTo]
      have h9 : 9 < st.blocks.length := by omega
      rw [show st.blocks.getD 9 [] = st.blocks[9] by simp [List.getD, List.getElem?_eq_getElem h9], List.set_getElem_self]
    rw [hs]
    exact ⟨rfl, ⟨hB, F, hd, hF, hk⟩, Below.refl _ _⟩
theorem ro_no (h : At B w p st ks) (n bit : Int) (mask : Nat) (hbad : st.rotOk n bit = false) :
    Calls Try.prog 24 #[.pointer (some ⟨p, 0, none⟩), .int .i64 n, .int .i64 bit, .int .u32 (mask : Int)] w fun e w' => e = .returned (.bool false) ∧ w' = w := by
  obtain ⟨hB, F, hd, hF, hk⟩ := h
  exact drot_bad p st F w hd n bit mask hbad
theorem At.cell {m : Nat} {l : List Nat} (h : At B w p st ks) (hm : (m, l) ∈ ks) {i : Nat} (hi : i < l.length) : w.cell? ⟨m, i, none⟩ = some (.int .u8 ((l.getD i 0 : Nat) : Int)) ∧ w.frozen? ⟨m, i, none⟩ = false := by
  obtain ⟨hB, F, hd, hF, hk⟩ := h
  obtain ⟨t, h1, h2⟩ := hk _ hm
  refine ⟨?_, h1.frozen i⟩
  rw [h1.cell i]
  simpa using cell_of_byts hi
/-- A cell of a kept slice is written. -/
theorem At.poke {m : Nat} {l : List Nat} (h : At B w p st [(m, l)]) (q y : Nat) : At B (w.setCell ⟨m, q, none⟩ (.int .u8 (y : Int))) p st [(m, l.set q y)] := by
  obtain ⟨hB, F, hd, hF, hk⟩ := h
  obtain ⟨t, h1, h2⟩ := hk _ (List.mem_cons_self ..)
  refine ⟨by simpa using hB, F, hd.keep (by simp) (fun b hb => Below.heap_setCell _ _ _ _ (fun e => h2 (by rw [← show b = m from e]; exact hb))), hF, fun x hx => ?_⟩
  rw [List.mem_singleton] at hx
  subst hx
  refine ⟨t, ?_, h2⟩
  have := h1.set_ q (.int .u8 (y : Int))
  rw [List.setIfInBounds_toArray, set_byts] at this
  exact this
end
end Go.Proofs.Ytikionlakldjoaa
