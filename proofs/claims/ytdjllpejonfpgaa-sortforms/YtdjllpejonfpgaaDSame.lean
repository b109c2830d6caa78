/- The walks of the program's equal and Same. -/
import Derived.Test.YtdjllpejonfpgaaDValid
import Derived.Test.YtdjllpejonfpgaaERefC
namespace Go.Proofs.Ytdjllpejonfpgaa.Ex
open Go.RowKit
open Go.Sort (grow)
set_option linter.unusedSimpArgs false
set_option linter.unusedVariables false

end Go.Proofs.Ytdjllpejonfpgaa.Ex
