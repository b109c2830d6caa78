/- A region that draws its order, lays memory and stores into blocks that were there: each operation's result, and each block that is given, is held by a fact about blocks of its own. -/
import Derived.Test.YtbppdalfcldodaaGreatMOwn
namespace Go.Proofs.YtbppdalfcldodaaGreat
open Go.RowKit Ex
set_option linter.unusedSimpArgs false
set_option linter.unusedVariables false

end Go.Proofs.YtbppdalfcldodaaGreat
