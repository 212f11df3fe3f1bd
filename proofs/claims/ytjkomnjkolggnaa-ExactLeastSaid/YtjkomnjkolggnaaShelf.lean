/- No library function is called here whose contract is wanted. Conditions: none beyond those typed. -/
import Derived.Test.YtjkomnjkolggnaaRows
namespace Go.Proofs
end Go.Proofs
