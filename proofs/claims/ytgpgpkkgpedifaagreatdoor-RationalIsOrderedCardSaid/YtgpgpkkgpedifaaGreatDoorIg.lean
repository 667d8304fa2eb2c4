/- Contract of the reference's Mul. -/
import Derived.Test.YtgpgpkkgpedifaaGreatDoorQIaz
import Derived.Test.YtgpgpkkgpedifaaGreatDoorQWqz
namespace Go.Proofs.YtgpgpkkgpedifaaGreatDoor
open Go.RowKit

end Go.Proofs.YtgpgpkkgpedifaaGreatDoor
