/- sum, product and inverse of rational; Add, Sub, Mul, Div. -/
import Derived.Test.YtgpgpkkgpedifaaGreatDoorTe
import Derived.Test.YtgpgpkkgpedifaaGreatDoorRe
namespace Go.Proofs.YtgpgpkkgpedifaaGreatDoor
open Go.RowKit RQ

end Go.Proofs.YtgpgpkkgpedifaaGreatDoor
