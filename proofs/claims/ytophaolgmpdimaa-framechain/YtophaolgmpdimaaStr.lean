/-
  What wire.String answers.
-/
import Derived.Test.YtophaolgmpdimaaForms
namespace Go.Proofs.Ytophaolgmpdimaa
open Go.RowKit

end Go.Proofs.Ytophaolgmpdimaa
