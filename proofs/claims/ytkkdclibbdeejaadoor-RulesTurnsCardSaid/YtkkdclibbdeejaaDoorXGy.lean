import Derived.Shelf.Small.Wraps
import Derived.Shelf.Strconv.Itoa0
import Derived.Shelf.Strconv.Itoa1
import Derived.Shelf.LaysM
import Derived.Shelf.Strconv.Itoa3
import Derived.Shelf.Strings.Search1
import Derived.Shelf.Strings.Search2
import Derived.Shelf.Strings.Search3
import Derived.Shelf.Strings.Cut
import Derived.Shelf.Strings.Prefix
import Derived.Test.YtkkdclibbdeejaaDoorProg
import Derived.Test.YtkkdclibbdeejaaDoorXGu
import Derived.Test.YtkkdclibbdeejaaDoorXGc
import Derived.BigQuiet
import Derived.Lib.IndexLaws
import Derived.Lib.IndexMore
set_option maxRecDepth 100000
set_option maxHeartbeats 64000000
namespace Go.Proofs.YtkkdclibbdeejaaDoor
open Go.Shelf Go.RowKit
end Go.Proofs.YtkkdclibbdeejaaDoor
namespace Go.Proofs.YtkkdclibbdeejaaDoor
open Go.RowKit
end Go.Proofs.YtkkdclibbdeejaaDoor
