/-
  THE WALKS over package value: With, Without.
-/
import Derived.Test.YtpfbiklbecdmiaaVWith
set_option linter.unusedVariables false
set_option linter.unusedSimpArgs false
namespace Go.Proofs.Ytpfbiklbecdmiaa
open Go.RowKit

end Go.Proofs.Ytpfbiklbecdmiaa
