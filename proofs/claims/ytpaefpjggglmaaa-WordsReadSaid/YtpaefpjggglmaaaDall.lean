/- The program's depth: all that the statements ask of it (kraft_is, cost_is, lens_is, lens_ok). -/
import Derived.Test.YtpaefpjggglmaaaDlw
