/- Add, Sub, Mul, Div of rational. -/
import Derived.Test.YthlnhmdpimoojaaGreatDoorTg
import Derived.Test.YthlnhmdpimoojaaGreatDoorQRcz
namespace Go.Proofs.YthlnhmdpimoojaaGreatDoor
open Go.RowKit RQ
end Go.Proofs.YthlnhmdpimoojaaGreatDoor
