import Derived.Test.YtopjnalehllgcaaDoorRows
namespace Go.Proofs
end Go.Proofs
