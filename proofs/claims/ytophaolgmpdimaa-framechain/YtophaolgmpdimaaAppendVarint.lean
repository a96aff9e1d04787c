/-
  What wire.appendVarint does: the varint of n goes behind the bytes of a slice that the caller made.
-/
import Derived.Test.YtophaolgmpdimaaProg
import Derived.Test.YtophaolgmpdimaaEnc
import Derived.Test.YtophaolgmpdimaaGen
namespace Go.Proofs.Ytophaolgmpdimaa
open Go.RowKit


end Go.Proofs.Ytophaolgmpdimaa
