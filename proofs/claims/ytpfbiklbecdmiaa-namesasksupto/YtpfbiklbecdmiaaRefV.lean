/-
  THE WALKS over the document's own answer for layer 2: Strings, Deep, Same.
-/
import Derived.Test.YtpfbiklbecdmiaaVWithE
import Derived.Test.YtpfbiklbecdmiaaVWalksC
import Derived.Test.YtpfbiklbecdmiaaRVal
import Derived.Deep.DeepCutAuto
import Derived.BigQuiet
import Derived.Deep.QuietTactic
import Derived.Lib.QuietBelow
set_option linter.unusedVariables false
set_option linter.unusedSimpArgs false
namespace Go.Proofs.Ytpfbiklbecdmiaa
open Go.RowKit Go.Sort

theorem bytes_eq {t t' : ByteArray} (h : t.toList = t'.toList) : t = t' := by
  rw [Lib.toList_data, Lib.toList_data] at h
  exact ByteArray.ext (Array.ext' h)
namespace V
theorem take_eq_succ {α : Type} {l l' : List α} {j : Nat} (h : l.take j = l'.take j) (h1 : j < l.length) (h2 : j < l'.length) (he : l[j] = l'[j]) : l.take (j + 1) = l'.take (j + 1) := by
  rw [List.take_succ_eq_append_getElem h1, List.take_succ_eq_append_getElem h2, h, he]
end V

end Go.Proofs.Ytpfbiklbecdmiaa
