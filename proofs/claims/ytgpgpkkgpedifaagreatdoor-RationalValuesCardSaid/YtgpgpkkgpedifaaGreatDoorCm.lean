/- An integer that came in: a sign and limbs. -/
import Derived.Test.YtgpgpkkgpedifaaGreatDoorCk
import Derived.Lib.SmallJoins
namespace Go.Proofs.YtgpgpkkgpedifaaGreatDoor
open Go.ChangeShapes Go.WideShapes Go.ChangeAt Go.RowKit Go.Joins Go.Deep

theorem cApi : Tryz.prog.cellsOf 24 = 2 := by kernel_rfl
end Go.Proofs.YtgpgpkkgpedifaaGreatDoor
