import Derived.Test.YtlliliddljkbfaaGreatC35
namespace Go.Proofs.YtlliliddljkbfaaGreat
set_option maxHeartbeats 64000000
set_option maxRecDepth 100000
open Go.RowKit Sp
end Go.Proofs.YtlliliddljkbfaaGreat
