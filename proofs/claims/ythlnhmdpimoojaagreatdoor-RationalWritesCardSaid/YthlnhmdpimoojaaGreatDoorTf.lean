/- Floor of rational. -/
import Derived.Test.YthlnhmdpimoojaaGreatDoorDr
import Derived.Test.YthlnhmdpimoojaaGreatDoorQRcz
import Derived.Test.YthlnhmdpimoojaaGreatDoorQRgz
import Derived.Test.YthlnhmdpimoojaaGreatDoorIp
namespace Go.Proofs.YthlnhmdpimoojaaGreatDoor
open Go.RowKit RQ
end Go.Proofs.YthlnhmdpimoojaaGreatDoor
