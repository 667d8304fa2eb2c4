/- Floor of rational. -/
import Derived.Test.YtgpgpkkgpedifaaGreatDoorDr
import Derived.Test.YtgpgpkkgpedifaaGreatDoorQRcz
import Derived.Test.YtgpgpkkgpedifaaGreatDoorQRgz
import Derived.Test.YtgpgpkkgpedifaaGreatDoorIp
namespace Go.Proofs.YtgpgpkkgpedifaaGreatDoor
open Go.RowKit RQ
end Go.Proofs.YtgpgpkkgpedifaaGreatDoor
