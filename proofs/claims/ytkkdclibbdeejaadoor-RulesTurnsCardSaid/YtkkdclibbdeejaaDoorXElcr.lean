/- Package rules: all contracts, the turns of up to 60 rules among them. -/
import Derived.Test.YtkkdclibbdeejaaDoorXElcq
import Derived.Test.YtkkdclibbdeejaaDoorXElcrt
set_option maxRecDepth 100000
set_option maxHeartbeats 64000000
namespace Go.Proofs.YtkkdclibbdeejaaDoor
open Go.RowKit
theorem rulesT : RulesQ 60 Lens := rulesA (by decide) sort60
end Go.Proofs.YtkkdclibbdeejaaDoor
