/- The game of the small module, as data. -/
import Derived.Test.YtbppdalfcldodaaGreatGAm
import Derived.Test.YtbppdalfcldodaaGreatGSm
namespace Go.Proofs.YtbppdalfcldodaaGreat
open Go.RowKit Ex
theorem small_tot : totN (smallM (.mk 2 1 [])) ≤ 24 := by decide +kernel
theorem small_go : (goV (smallM (.mk 2 1 [])) 15).1.length = 15 := by decide +kernel
theorem small_one : (goV (smallM (.mk 2 1 [])) 15).1[1]? = some (2, 0, 0) := by decide +kernel
theorem small_init : (initEnvL (smallM (.mk 2 1 []))).length = 2 := by decide +kernel
end Go.Proofs.YtbppdalfcldodaaGreat
