import Derived.Shelf.Small.Wraps
import Derived.Shelf.Strconv.Itoa0
import Derived.Shelf.Strconv.Itoa1
import Derived.Shelf.LaysM
import Derived.Shelf.Strconv.Itoa3
import Derived.Shelf.Strings.Search1
import Derived.Shelf.Strings.Search2
import Derived.Shelf.Strings.Search3
import Derived.Shelf.Strings.Cut
import Derived.Shelf.Strings.Prefix
import Derived.Test.YtkkdclibbdeejaaDoorProg
import Derived.Test.YtkkdclibbdeejaaDoorYGu
import Derived.Test.YtkkdclibbdeejaaDoorYGc
import Derived.BigQuiet
import Derived.Lib.IndexLaws
import Derived.Lib.IndexMore
/- Go's library at this program: contracts off the shelf. -/
namespace Go.Proofs.YtkkdclibbdeejaaDoor
open Go.Shelf Go.RowKit
end Go.Proofs.YtkkdclibbdeejaaDoor
/- Package moment: rows of digits, days of a month. -/
namespace Go.Proofs.YtkkdclibbdeejaaDoor
open Go.RowKit
end Go.Proofs.YtkkdclibbdeejaaDoor
/- Package moment: names of months and of weekdays. -/
namespace Go.Proofs.YtkkdclibbdeejaaDoor
open Go.RowKit
end Go.Proofs.YtkkdclibbdeejaaDoor
/- Package moment: a text cut at its first two colons, and what stands between the signs. No program. -/
namespace Go.Proofs.YtkkdclibbdeejaaDoor
open Go.RowKit
end Go.Proofs.YtkkdclibbdeejaaDoor
/- Package moment: texts that begin with a text, and what stands behind. No program. -/
namespace Go.Proofs.YtkkdclibbdeejaaDoor
open Go.RowKit
end Go.Proofs.YtkkdclibbdeejaaDoor
/- Package moment: a text cut at a sign of two bytes. No program. -/
namespace Go.Proofs.YtkkdclibbdeejaaDoor
open Go.RowKit
end Go.Proofs.YtkkdclibbdeejaaDoor
/- Package moment: the letter behind a clock's time. -/
namespace Go.Proofs.YtkkdclibbdeejaaDoor
open Go.RowKit
end Go.Proofs.YtkkdclibbdeejaaDoor
