/- Contracts of Sub. -/
import Derived.Test.YthlnhmdpimoojaaGreatDoorQIez
import Derived.Test.YthlnhmdpimoojaaGreatDoorIh
import Derived.Test.YthlnhmdpimoojaaGreatDoorIi
namespace Go.Proofs.YthlnhmdpimoojaaGreatDoor
open Go.RowKit

end Go.Proofs.YthlnhmdpimoojaaGreatDoor
