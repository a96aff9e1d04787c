/-
  What wire.String answers.
-/
import Derived.Test.YtoffahbnffhliaaForms
namespace Go.Proofs.Ytoffahbnffhliaa
open Go.RowKit

end Go.Proofs.Ytoffahbnffhliaa
