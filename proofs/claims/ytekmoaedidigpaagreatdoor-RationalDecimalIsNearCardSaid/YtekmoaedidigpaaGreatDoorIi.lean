/- Contract of the reference's Add. -/
import Derived.Test.YtekmoaedidigpaaGreatDoorIh
namespace Go.Proofs.YtekmoaedidigpaaGreatDoor
open Go.RowKit

end Go.Proofs.YtekmoaedidigpaaGreatDoor
