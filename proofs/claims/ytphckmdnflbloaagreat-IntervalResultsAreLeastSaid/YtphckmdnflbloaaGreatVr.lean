/- The reference's Within. -/
import Derived.Test.YtphckmdnflbloaaGreatQVpz
namespace Go.Proofs.YtphckmdnflbloaaGreat
open Go.RowKit RQ
end Go.Proofs.YtphckmdnflbloaaGreat
