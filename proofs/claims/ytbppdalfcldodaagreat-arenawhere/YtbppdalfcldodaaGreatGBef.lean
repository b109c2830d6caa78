/- The walks of Before, on both sides. -/
import Derived.Test.YtbppdalfcldodaaGreatGNest
set_option maxRecDepth 100000
namespace Go.Proofs.YtbppdalfcldodaaGreat.Gr
open Go.RowKit
set_option linter.unusedSimpArgs false
set_option linter.unusedVariables false

end Go.Proofs.YtbppdalfcldodaaGreat.Gr
