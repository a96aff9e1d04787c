/-
  What wire.String answers.
-/
import Derived.Test.YtcbmkoneiidhaaaForms
namespace Go.Proofs.Ytcbmkoneiidhaaa
open Go.RowKit

end Go.Proofs.Ytcbmkoneiidhaaa
