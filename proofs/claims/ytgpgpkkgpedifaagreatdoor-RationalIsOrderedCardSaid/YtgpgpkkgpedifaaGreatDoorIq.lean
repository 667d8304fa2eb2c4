/- Contract of the reference's Div. -/
import Derived.Test.YtgpgpkkgpedifaaGreatDoorIp
import Derived.Test.YtgpgpkkgpedifaaGreatDoorQWqz
namespace Go.Proofs.YtgpgpkkgpedifaaGreatDoor
open Go.RowKit

end Go.Proofs.YtgpgpkkgpedifaaGreatDoor
