/-
  What wire.String answers.
-/
import Derived.Test.YtebhkdaefjmbnaaForms
namespace Go.Proofs.Ytebhkdaefjmbnaa
open Go.RowKit

end Go.Proofs.Ytebhkdaefjmbnaa
