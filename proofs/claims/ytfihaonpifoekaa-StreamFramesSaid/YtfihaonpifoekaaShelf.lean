/- Contracts of library functions at this program, laid from the library. Conditions: none beyond those typed. -/
import Derived.Shelf.Lay
import Derived.Shelf.LaySoft

import Derived.Test.YtfihaonpifoekaaProg
namespace Go.Proofs
open Go.Shelf
shelf_tried
end Go.Proofs
