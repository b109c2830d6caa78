/- The walk of dom.State. -/
import Derived.Test.YtdjllpejonfpgaaVNum
namespace Go.Proofs.Ytdjllpejonfpgaa.Dom
open Go.RowKit Go.WideMaps Go.Maps
set_option linter.unusedSimpArgs false
set_option linter.unusedVariables false

def stateOk (l : List V) (xs : List Int) : Bool := decide (mayL l = 0 ∧ xs.length = l.length) && hasAll l xs
def stateV (l : List V) (xs : List Int) : Int := if stateOk l xs = true then numL l xs else 0

end Go.Proofs.Ytdjllpejonfpgaa.Dom
