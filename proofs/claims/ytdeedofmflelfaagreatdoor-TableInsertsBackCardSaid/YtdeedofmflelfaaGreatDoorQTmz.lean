/- The reference's Neg, Add, Sub, Compare, Mul, Quo, Div, Floor, Abs, FromInt of rational. The reference's Floor, Abs, FromInt of rational. -/
import Derived.Test.YtdeedofmflelfaaGreatDoorQTkz
import Derived.Test.YtdeedofmflelfaaGreatDoorQSaz
import Derived.Test.YtdeedofmflelfaaGreatDoorQIgz
import Derived.Test.YtdeedofmflelfaaGreatDoorIq
import Derived.Test.YtdeedofmflelfaaGreatDoorQIlz
namespace Go.Proofs.YtdeedofmflelfaaGreatDoor
open Go.RowKit RQ
end Go.Proofs.YtdeedofmflelfaaGreatDoor

namespace Go.Proofs.YtdeedofmflelfaaGreatDoor
open Go.RowKit RQ
end Go.Proofs.YtdeedofmflelfaaGreatDoor
