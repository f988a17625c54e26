/- The document's DecodeCrown. -/
import Derived.Test.YthdmghocfngfgaaRcd1
import Derived.Test.YthdmghocfngfgaaRcd2
import Derived.Test.YthdmghocfngfgaaRcd3
import Derived.Test.YthdmghocfngfgaaRcd4
namespace Go.Proofs.Ythdmghocfngfgaa
open Go.RowKit Crc

theorem rdec_64 (A : Option Addr) (cap : Nat) (l : List Nat) (hl : ∀ x ∈ l, x < 256) (h64 : l.length = 64) (hcap : 64 ≤ cap) {w : World} (hsl : Sl w w.heap.size A (byts l)) :
    Calls Try.prog 18 #[.slice A 64 cap] w (DecR l w) := by
  by_cases xs : g4 l 60 = sum (l.take 60)
  · by_cases x0 : l.getD 0 0 = 192
    · by_cases x1 : l.getD 1 0 = 158
      · cases xm : Cn.okB (Cn.fields l)
        · exact rdec_m A cap l hl h64 hcap hsl xs x0 x1 xm
        · cases xz : blankB ((l.drop 38).take 22)
          · exact rdec_z A cap l hl h64 hcap hsl xs x0 x1 xm xz
          · exact rdec_ok A cap l hl h64 hcap hsl xs x0 x1 xm xz
      · exact rdec_h1 A cap l hl h64 hcap hsl xs x0 x1
    · exact rdec_h0 A cap l hl h64 hcap hsl xs x0
  · exact rdec_sum A cap l hl h64 hcap hsl xs
theorem rdec_any (A : Option Addr) (cap : Nat) (l : List Nat) (hl : ∀ x ∈ l, x < 256) (hcap : l.length ≤ cap) (n : Nat) (hn : n = l.length) {w : World} (hsl : Sl w w.heap.size A (byts l)) :
    Calls Try.prog 18 #[.slice A n cap] w (DecR l w) := by
  by_cases h : l.length = 64
  · obtain rfl : n = 64 := by omega
    exact rdec_64 A cap l hl h (by omega) hsl
  · exact rdec_len A cap l h n hn w
end Go.Proofs.Ythdmghocfngfgaa
