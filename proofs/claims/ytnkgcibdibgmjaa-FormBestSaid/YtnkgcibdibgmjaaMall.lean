/- The program's mould: all that the statements ask of it (best_is, open_is, mo_ok, lzpack_is). -/
import Derived.Test.YtnkgcibdibgmjaaMopn
import Derived.Test.YtnkgcibdibgmjaaMbst
import Derived.Test.YtnkgcibdibgmjaaLzall
import Derived.Test.YtnkgcibdibgmjaaWall
namespace Go.Proofs.Ytnkgcibdibgmjaa
open Go.RowKit

theorem mo_ok : MoOk Lz.thePack (Wd.thePack theF) := ⟨pack_ok, words_ok, fun _ h => Lz.pack_lt h⟩
theorem lzpack_is : PackC Lz.thePack := pack_is
theorem open_is : OpenC := open_has unpack_is wunpack_is
theorem best_is : BestC Lz.thePack (Wd.thePack theF) := best_has pack_is wpack_is mo_ok
theorem mwf64 {x : Nat} (h : (Lit.float .f64 x).wf = true) : x < 2 ^ 64 := by simpa [Lit.wf] using h
end Go.Proofs.Ytnkgcibdibgmjaa
