/-
  What wire.appendVarint does: the varint of n goes behind the bytes of a slice that the caller made.
-/
import Derived.Test.YtebhkdaefjmbnaaProg
import Derived.Test.YtebhkdaefjmbnaaEnc
import Derived.Test.YtebhkdaefjmbnaaGen
namespace Go.Proofs.Ytebhkdaefjmbnaa
open Go.RowKit


end Go.Proofs.Ytebhkdaefjmbnaa
