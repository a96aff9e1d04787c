/-
  Package real: how far apart two numbers stand; the document's own answer is the same.
-/
import Derived.Test.YtojohcckaklmpaaDoorRlB
namespace Go.Proofs.YtojohcckaklmpaaDoor.Rl
open Go.RowKit
set_option maxRecDepth 100000

def apB (a b : Nat) : Int := if nanB a || nanB b then 0 else if keyB a < keyB b then (keyB b : Int) - keyB a else (keyB a : Int) - keyB b
def apOk (a b : Nat) : Bool := !(nanB a || nanB b)
end Go.Proofs.YtojohcckaklmpaaDoor.Rl
