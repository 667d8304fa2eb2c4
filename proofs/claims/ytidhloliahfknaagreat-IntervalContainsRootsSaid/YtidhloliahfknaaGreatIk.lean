/- Contracts of Sub. -/
import Derived.Test.YtidhloliahfknaaGreatQIez
import Derived.Test.YtidhloliahfknaaGreatIh
import Derived.Test.YtidhloliahfknaaGreatIi
namespace Go.Proofs.YtidhloliahfknaaGreat
open Go.RowKit

end Go.Proofs.YtidhloliahfknaaGreat
