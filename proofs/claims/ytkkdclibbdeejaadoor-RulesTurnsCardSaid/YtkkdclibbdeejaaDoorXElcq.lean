/- Package rules, whole: its contracts. -/
import Derived.Test.YtkkdclibbdeejaaDoorXElco
import Derived.Test.YtkkdclibbdeejaaDoorXGed
import Derived.Test.YtkkdclibbdeejaaDoorXGec
set_option maxRecDepth 100000
set_option maxHeartbeats 64000000
namespace Go.Proofs.YtkkdclibbdeejaaDoor
open Go.RowKit
theorem rulesA {M : Nat} (hM : M ≤ 900) (ST : SortsT M) : RulesQ M Lens where
  mono := fun _ _ T h => T.mono h
  right := fun A n c L W h _ => rightPE L A n c W h
  crowded := fun A n c L W h _ => crowdedE L A n c W h
  near := fun A n c L W h q => nearE L A n c W h q
  turns := fun A n c L y W h k q => turnsAE hM ST L y A n c W h q k
  ahead := fun A n c L a ha W h q => aheadAE L a ha A n c W h q
  force := fun A n c L off T ho hT W h q => forceAE L off T ho hT A n c W h q
end Go.Proofs.YtkkdclibbdeejaaDoor
