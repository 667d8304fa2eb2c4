/- Floor of rational. -/
import Derived.Test.YtekmoaedidigpaaGreatDoorDr
import Derived.Test.YtekmoaedidigpaaGreatDoorQRcz
import Derived.Test.YtekmoaedidigpaaGreatDoorQRgz
import Derived.Test.YtekmoaedidigpaaGreatDoorIp
namespace Go.Proofs.YtekmoaedidigpaaGreatDoor
open Go.RowKit RQ
end Go.Proofs.YtekmoaedidigpaaGreatDoor
