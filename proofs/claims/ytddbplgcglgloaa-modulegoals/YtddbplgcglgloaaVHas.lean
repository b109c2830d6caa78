/- The walk of dom.hasValue. -/
import Derived.Test.YtddbplgcglgloaaMLeaf
import Derived.Deep.RegionHeld3
import Derived.Deep.RegionWith
import Derived.Deep.QuietTactic
import Derived.BigQuiet
import Derived.IntWalk
namespace Go.Proofs.Ytddbplgcglgloaa.Dom
open Go.RowKit
set_option linter.unusedSimpArgs false
set_option linter.unusedVariables false
theorem below_drewN {B : Nat} {a w : World} (h : Below B a w) (n : Nat) : Below B a (w.drewN n) := ⟨h.os, h.tape, h.output, h.size, h.block⟩
def hasB (s lo hi x : Int) : Bool := decide (lo ≤ x ∧ x < lo + sizeOfV s lo hi)

end Go.Proofs.Ytddbplgcglgloaa.Dom
