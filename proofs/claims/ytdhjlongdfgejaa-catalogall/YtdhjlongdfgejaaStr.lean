/-
  What wire.String answers.
-/
import Derived.Test.YtdhjlongdfgejaaForms
namespace Go.Proofs.Ytdhjlongdfgejaa
open Go.RowKit

end Go.Proofs.Ytdhjlongdfgejaa
