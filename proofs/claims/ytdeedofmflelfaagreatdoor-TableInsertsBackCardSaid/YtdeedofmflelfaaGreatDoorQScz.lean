/- What Format writes is read back by Parse. Decimal of rational for every number of digits. The reference's Power; made's Mod. -/
import Derived.Test.YtdeedofmflelfaaGreatDoorQRnz
import Derived.Lib.Repeat
import Derived.Test.YtdeedofmflelfaaGreatDoorQWzz
import Derived.Test.YtdeedofmflelfaaGreatDoorQWqz
import Derived.Test.YtdeedofmflelfaaGreatDoorQWjz
namespace Go.Proofs.YtdeedofmflelfaaGreatDoor
open Go.RowKit RQ
end Go.Proofs.YtdeedofmflelfaaGreatDoor

namespace Go.Proofs.YtdeedofmflelfaaGreatDoor
open Go.RowKit RQ
end Go.Proofs.YtdeedofmflelfaaGreatDoor

namespace Go.Proofs.YtdeedofmflelfaaGreatDoor
open Go.RowKit RQ
end Go.Proofs.YtdeedofmflelfaaGreatDoor
