/- When two modules are the same, as data. -/
import Derived.Test.YtddbplgcglgloaaMSmall
namespace Go.Proofs.Ytddbplgcglgloaa
open Go.RowKit Ex
end Go.Proofs.Ytddbplgcglgloaa
