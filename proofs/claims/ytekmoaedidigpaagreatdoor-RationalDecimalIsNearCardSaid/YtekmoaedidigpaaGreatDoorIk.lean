/- Contracts of Sub. -/
import Derived.Test.YtekmoaedidigpaaGreatDoorQIez
import Derived.Test.YtekmoaedidigpaaGreatDoorIh
import Derived.Test.YtekmoaedidigpaaGreatDoorIi
namespace Go.Proofs.YtekmoaedidigpaaGreatDoor
open Go.RowKit

end Go.Proofs.YtekmoaedidigpaaGreatDoor
