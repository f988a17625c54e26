/- The program's words: all that the statements ask of it (wunpack_is, wpack_is, words_ok). -/
import Derived.Test.YtpaefpjggglmaaaWok
import Derived.Test.YtpaefpjggglmaaaWun
import Derived.Test.YtpaefpjggglmaaaWpack
namespace Go.Proofs.Ytpaefpjggglmaaa
open Go.RowKit

theorem words_ok : WPackOk (Wd.thePack theF) := wpack_the lens_ok
end Go.Proofs.Ytpaefpjggglmaaa
