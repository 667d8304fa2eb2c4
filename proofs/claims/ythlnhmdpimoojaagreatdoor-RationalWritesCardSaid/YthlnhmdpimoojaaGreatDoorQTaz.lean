/- shortOf, bothShort and quotientOfInts of rational. bothShort, quotientOfInts and Floor of rational. quotientOfInts and Floor of rational. sum of rational. -/
import Derived.Test.YthlnhmdpimoojaaGreatDoorRe
import Derived.IntWalk
import Derived.Deep.CutBlock
import Derived.Test.YthlnhmdpimoojaaGreatDoorQIlz
import Derived.RegionTactic
import Derived.Test.YthlnhmdpimoojaaGreatDoorIh
import Derived.Test.YthlnhmdpimoojaaGreatDoorQIaz
namespace Go.Proofs.YthlnhmdpimoojaaGreatDoor
open Go.RowKit RQ

end Go.Proofs.YthlnhmdpimoojaaGreatDoor

namespace Go.Proofs.YthlnhmdpimoojaaGreatDoor
open Go.RowKit RQ

end Go.Proofs.YthlnhmdpimoojaaGreatDoor

namespace Go.Proofs.YthlnhmdpimoojaaGreatDoor
open Go.RowKit RQ
end Go.Proofs.YthlnhmdpimoojaaGreatDoor

namespace Go.Proofs.YthlnhmdpimoojaaGreatDoor
open Go.RowKit RQ
end Go.Proofs.YthlnhmdpimoojaaGreatDoor
