/- The reference's Make and Same of rational; the law RationalMakes. What Format writes is read back by Parse. -/
import Derived.Test.YtgpgpkkgpedifaaGreatDoorQRnz
import Derived.Test.YtgpgpkkgpedifaaGreatDoorRf
namespace Go.Proofs.YtgpgpkkgpedifaaGreatDoor
open Go.RowKit RQ

end Go.Proofs.YtgpgpkkgpedifaaGreatDoor

namespace Go.Proofs.YtgpgpkkgpedifaaGreatDoor
open Go.RowKit RQ

end Go.Proofs.YtgpgpkkgpedifaaGreatDoor
