/-
  What wire.String answers.
-/
import Derived.Test.YtnglinhnpimlmaaForms
namespace Go.Proofs.Ytnglinhnpimlmaa
open Go.RowKit

end Go.Proofs.Ytnglinhnpimlmaa
