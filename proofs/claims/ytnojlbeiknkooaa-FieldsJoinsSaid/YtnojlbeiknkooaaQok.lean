/- Stage 8: what package fields answers, put together. -/
import Derived.Test.YtnojlbeiknkooaaFjoin
import Derived.Test.YtnojlbeiknkooaaFlines
namespace Go.Proofs.Ytnojlbeiknkooaa
open Go.RowKit
theorem fieldsP : FieldsP where
  lines := fun s hs w => linesP s hs w
  split := fun s _ r h w => by
    have := splitP s w
    rwa [splitC_ok h] at this
  join := joinP
end Go.Proofs.Ytnojlbeiknkooaa
