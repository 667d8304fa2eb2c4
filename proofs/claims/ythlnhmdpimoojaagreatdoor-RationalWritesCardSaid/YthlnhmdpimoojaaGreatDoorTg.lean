/- sum, product and inverse of rational; Add, Sub, Mul, Div. -/
import Derived.Test.YthlnhmdpimoojaaGreatDoorTe
import Derived.Test.YthlnhmdpimoojaaGreatDoorRe
namespace Go.Proofs.YthlnhmdpimoojaaGreatDoor
open Go.RowKit RQ

end Go.Proofs.YthlnhmdpimoojaaGreatDoor
