/- Contracts of Sub. -/
import Derived.Test.YtphckmdnflbloaaGreatQIez
import Derived.Test.YtphckmdnflbloaaGreatIh
import Derived.Test.YtphckmdnflbloaaGreatIi
namespace Go.Proofs.YtphckmdnflbloaaGreat
open Go.RowKit
end Go.Proofs.YtphckmdnflbloaaGreat
