/-
  What wire.appendVarint does: the varint of n goes behind the bytes of a slice that the caller made.
-/
import Derived.Test.YtnglinhnpimlmaaProg
import Derived.Test.YtnglinhnpimlmaaEnc
import Derived.Test.YtnglinhnpimlmaaGen
namespace Go.Proofs.Ytnglinhnpimlmaa
open Go.RowKit


end Go.Proofs.Ytnglinhnpimlmaa
