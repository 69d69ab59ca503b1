/-
  THE WALKS over package value's small functions.
-/
import Derived.Test.YtpfbiklbecdmiaaVBase
set_option linter.unusedVariables false
set_option linter.unusedSimpArgs false
namespace Go.Proofs.Ytpfbiklbecdmiaa
open Go.RowKit

end Go.Proofs.Ytpfbiklbecdmiaa
