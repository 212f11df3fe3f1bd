import Derived.Test.YtbdafhephmoedaaRows
namespace Go.Proofs
end Go.Proofs
