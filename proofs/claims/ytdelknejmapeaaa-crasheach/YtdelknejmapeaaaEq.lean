/-
  What flumelaw1.Eq answers: whether two lists of bytes are one.
-/
import Derived.Test.YtdelknejmapeaaaProg
import Derived.Test.YtdelknejmapeaaaBase
namespace Go.Proofs.Ytdelknejmapeaaa
open Go.RowKit

end Go.Proofs.Ytdelknejmapeaaa
