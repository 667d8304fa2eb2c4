/- Contract of the reference's Add. -/
import Derived.Test.YtgpgpkkgpedifaaGreatDoorIh
namespace Go.Proofs.YtgpgpkkgpedifaaGreatDoor
open Go.RowKit

end Go.Proofs.YtgpgpkkgpedifaaGreatDoor
