/- What the program's words.Unpack and words.Pack are held to (as hypotheses, to be met by its walks); the statements' own check that the program is awake; WordsRead. -/
import Derived.Test.YtnkgcibdibgmjaaRunpw2
import Derived.Test.YtnkgcibdibgmjaaBy
namespace Go.Proofs.Ytnkgcibdibgmjaa
open Go.RowKit

/-- The program's Unpack says what the bytes say. -/
def WUnpackC : Prop := ∀ (w : World) (A : Option Addr) (c : Nat) (l : List Nat) (n : Int) (N : Nat), By w A c l → l.length ≤ 100000 → N = l.length →
  Calls Try.prog 50 #[.slice A N c, .int .i64 n] w (UnpR (Wd.unpack l n) w)
/-- The program's Pack is a function of the bytes. -/
def WPackC (P : List Nat → List Nat) : Prop := ∀ (w : World) (A : Option Addr) (c : Nat) (l : List Nat) (N : Nat), By w A c l → l.length ≤ 100000 → N = l.length →
  Calls Try.prog 11 #[.slice A N c] w fun e w' => ∃ A' c', e = .returned (.slice A' (P l).length c') ∧ By w' A' c' (P l) ∧ Below w.heap.size w w'
/-- It gives the bytes back, and is not too long; nothing for too many. -/
structure WPackOk (P : List Nat → List Nat) : Prop where
  back : ∀ l : List Nat, (∀ x ∈ l, x < 256) → l.length ≤ 4096 → Wd.unpack (P l) l.length = (l, 0)
  most : ∀ l : List Nat, (∀ x ∈ l, x < 256) → l.length ≤ 4096 → (P l).length ≤ 272 + (11 * l.length + 7) / 8
  none : ∀ l : List Nat, 4096 < l.length → P l = []
theorem wback_of (hU : WUnpackC) {P : List Nat → List Nat} (hP : WPackC P) (hO : WPackOk P) : ∀ l : List Nat, (∀ x ∈ l, x < 256) → l.length ≤ 4096 →
    (P l).length ≤ 272 + (11 * l.length + 7) / 8 ∧
    (∀ w A c, By w A c l → Calls Try.prog 11 #[.slice A l.length c] w fun e w' => ∃ A' c', e = .returned (.slice A' (P l).length c') ∧ By w' A' c' (P l) ∧ Below w.heap.size w w') ∧
    (∀ w A c, By w A c (P l) → Calls Try.prog 50 #[.slice A (P l).length c, .int .i64 (l.length : Int)] w fun e w' => ∃ A' c', e = .returned (.tuple #[.slice A' l.length c', .int .i64 0]) ∧ By w' A' c' l ∧ Below w.heap.size w w') ∧
    (∀ w A c, By w A c (P l) → Calls Try.prog 19 #[.slice A (P l).length c, .int .i64 (l.length : Int)] w fun e w' => ∃ A' c', e = .returned (.tuple #[.slice A' l.length c', .int .i64 0]) ∧ By w' A' c' l ∧ Below w.heap.size w w') := by
  intro l hl hlen
  have hm := hO.most l hl hlen
  have hb := hO.back l hl hlen
  refine ⟨hm, fun w A c h => hP w A c l l.length h (by omega) rfl, fun w A c h => ?_, fun w A c h => ?_⟩
  · exact (hU w A c (P l) l.length (P l).length h (by omega) rfl).mono fun e w' h => unpR_is hb h
  · exact (runpw_by h (by omega) l.length (P l).length rfl).mono fun e w' h => unpR_is hb h
end Go.Proofs.Ytnkgcibdibgmjaa
