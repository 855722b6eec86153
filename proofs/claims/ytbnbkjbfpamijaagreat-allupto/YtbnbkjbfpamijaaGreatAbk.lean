import Derived.Test.YtbnbkjbfpamijaaGreatAaa
import Derived.WalkSpells
import Derived.OwnWalk
set_option linter.all false
set_option maxRecDepth 100000
set_option maxHeartbeats 0
namespace Go.Proofs.YtbnbkjbfpamijaaGreat
open Go.RowKit Go.Proofs.Panes
end Go.Proofs.YtbnbkjbfpamijaaGreat
