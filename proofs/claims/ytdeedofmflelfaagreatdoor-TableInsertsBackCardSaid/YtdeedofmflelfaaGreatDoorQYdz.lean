/- Under way. -/
import Derived.Test.YtdeedofmflelfaaGreatDoorQYaz
namespace Go.Proofs.YtdeedofmflelfaaGreatDoor
open Go.RowKit
end Go.Proofs.YtdeedofmflelfaaGreatDoor

namespace Go.Proofs.YtdeedofmflelfaaGreatDoor
open Go.RowKit
end Go.Proofs.YtdeedofmflelfaaGreatDoor

namespace Go.Proofs.YtdeedofmflelfaaGreatDoor
open Go.RowKit
end Go.Proofs.YtdeedofmflelfaaGreatDoor
