/- No library function is called here whose contract is wanted. Conditions: none beyond those typed. -/
import Derived.Test.YtfbddcbbkfklnaaDoorRows
namespace Go.Proofs
end Go.Proofs
