/- Add, Sub, Mul, Div of rational. -/
import Derived.Test.YtgpgpkkgpedifaaGreatDoorTg
import Derived.Test.YtgpgpkkgpedifaaGreatDoorQRcz
namespace Go.Proofs.YtgpgpkkgpedifaaGreatDoor
open Go.RowKit RQ
end Go.Proofs.YtgpgpkkgpedifaaGreatDoor
