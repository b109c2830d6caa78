/- The contracts of the program's module, gathered. -/
import Derived.Test.YtddbplgcglgloaaMDevI
import Derived.Test.YtddbplgcglgloaaMSame

