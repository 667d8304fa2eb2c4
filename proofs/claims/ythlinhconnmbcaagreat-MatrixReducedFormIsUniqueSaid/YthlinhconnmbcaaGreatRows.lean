/-
  No cell of these rows narrows 'for every input' (looked for: loops, veiled, ifaces, maps, wideKeys, modest, calm, conditions, laid).
  DERIVED. THE GIVEN ROWS OF THIS SEAT. 5 by the template 'for every input the law returns true; each argument reads behind the call as it read before'; 0 by the template 'total and deterministic' (their statements: YthlinhconnmbcaaGreatTotals.lean).
  GIVEN WITH THE SEED: the statements are not yours to turn. If you find one false, say at which input.
  Laid BY PROGRAM, IN A SANDBOX (cutbox-rows.mjs): the forced cells as the released guide's own fill.sh prints them over the translation 80ec7243b699ab49… (all of the seat's roots in one cut). By AI agents, Wed Nov 11 2026. No macro, syntax, notation, axiom, sorry.
-/
import Derived.Test.YthlinhconnmbcaaGreatChecked
import GoSem.Claim
import GoSem.ClaimJoined
import GoSem.ClaimMapViews
import Derived.JoinedTies
import Derived.KernelRfl
namespace Go.Proofs.YthlinhconnmbcaaGreat
/- THE CELL 'sum', in the pinned program and in every row, IS THE sha256 OF THE DUMP (.gsa) THAT YthlinhconnmbcaaGreatProg.lean LOADS. Nothing in Lean hashes anything: it is a label: what it is worth is what the hold of that sum in a sandbox is worth. -/
noncomputable def Tryz.pinned : Pinned := { name := "ythlinhconnmbcaagreat", sum := "80ec7243b699ab495a36d6e2b18eab26db05175d288a7caa7985f6f2d9d4c207", checked := Tryz.checked }
namespace Rows
def none {H : Type} : Left H := { results := [], args := [] }

/-- 'robuststatslaw06.MatrixProductHasTheDeterminant': WHATEVER THE INPUT: true; the input reads as it did. -/
def matrixProductHasTheDeterminantSpec : ChangeSpec := { name := "matrixProductHasTheDeterminant", fn := fun _ => fun
  | [d1, d2, d3] => { results := [.lit (.bool true)], args := [d1, d2, d3] }
  | _ => none }
def matrixProductHasTheDeterminantRow : OpenClaim := { program := "ythlinhconnmbcaagreat", sum := "80ec7243b699ab495a36d6e2b18eab26db05175d288a7caa7985f6f2d9d4c207", func := "robuststats/robuststatslaw06.MatrixProductHasTheDeterminant", spec := "matrixProductHasTheDeterminant", unfollowed := true, recurses := true, apart := false }
def MatrixProductHasTheDeterminantSaid : Prop := matrixProductHasTheDeterminantRow.holds Tryz.pinned (OpenSpec.ofChange matrixProductHasTheDeterminantSpec)

/-- ITS FALSE NEIGHBOUR: 'it returns false'. Refute it at one input. -/
def matrixProductHasTheDeterminantWrong : ChangeSpec := { name := "matrixProductHasTheDeterminant", fn := fun _ => fun
  | [d1, d2, d3] => { results := [.lit (.bool false)], args := [d1, d2, d3] }
  | _ => none }
def MatrixProductHasTheDeterminantWrongFalsely : Prop := matrixProductHasTheDeterminantRow.holds Tryz.pinned (OpenSpec.ofChange matrixProductHasTheDeterminantWrong)

/-- 'robuststatslaw06.MatrixInverseIsTwoSided': WHATEVER THE INPUT: true; the input reads as it did. -/
def matrixInverseIsTwoSidedSpec : ChangeSpec := { name := "matrixInverseIsTwoSided", fn := fun _ => fun
  | [d1, d2] => { results := [.lit (.bool true)], args := [d1, d2] }
  | _ => none }
def matrixInverseIsTwoSidedRow : OpenClaim := { program := "ythlinhconnmbcaagreat", sum := "80ec7243b699ab495a36d6e2b18eab26db05175d288a7caa7985f6f2d9d4c207", func := "robuststats/robuststatslaw06.MatrixInverseIsTwoSided", spec := "matrixInverseIsTwoSided", unfollowed := true, recurses := true, apart := false }
def MatrixInverseIsTwoSidedSaid : Prop := matrixInverseIsTwoSidedRow.holds Tryz.pinned (OpenSpec.ofChange matrixInverseIsTwoSidedSpec)

/-- ITS FALSE NEIGHBOUR: 'it returns false'. Refute it at one input. -/
def matrixInverseIsTwoSidedWrong : ChangeSpec := { name := "matrixInverseIsTwoSided", fn := fun _ => fun
  | [d1, d2] => { results := [.lit (.bool false)], args := [d1, d2] }
  | _ => none }
def MatrixInverseIsTwoSidedWrongFalsely : Prop := matrixInverseIsTwoSidedRow.holds Tryz.pinned (OpenSpec.ofChange matrixInverseIsTwoSidedWrong)

/-- 'robuststatslaw06.MatrixSolutionSolves': WHATEVER THE INPUT: true; the input reads as it did. -/
def matrixSolutionSolvesSpec : ChangeSpec := { name := "matrixSolutionSolves", fn := fun _ => fun
  | [d1, d2, d3, d4, d5] => { results := [.lit (.bool true)], args := [d1, d2, d3, d4, d5] }
  | _ => none }
def matrixSolutionSolvesRow : OpenClaim := { program := "ythlinhconnmbcaagreat", sum := "80ec7243b699ab495a36d6e2b18eab26db05175d288a7caa7985f6f2d9d4c207", func := "robuststats/robuststatslaw06.MatrixSolutionSolves", spec := "matrixSolutionSolves", unfollowed := true, recurses := true, apart := false }
def MatrixSolutionSolvesSaid : Prop := matrixSolutionSolvesRow.holds Tryz.pinned (OpenSpec.ofChange matrixSolutionSolvesSpec)

/-- ITS FALSE NEIGHBOUR: 'it returns false'. Refute it at one input. -/
def matrixSolutionSolvesWrong : ChangeSpec := { name := "matrixSolutionSolves", fn := fun _ => fun
  | [d1, d2, d3, d4, d5] => { results := [.lit (.bool false)], args := [d1, d2, d3, d4, d5] }
  | _ => none }
def MatrixSolutionSolvesWrongFalsely : Prop := matrixSolutionSolvesRow.holds Tryz.pinned (OpenSpec.ofChange matrixSolutionSolvesWrong)

/-- 'robuststatslaw06.MatrixNullIsABasis': WHATEVER THE INPUT: true; the input reads as it did. -/
def matrixNullIsABasisSpec : ChangeSpec := { name := "matrixNullIsABasis", fn := fun _ => fun
  | [d1, d2, d3] => { results := [.lit (.bool true)], args := [d1, d2, d3] }
  | _ => none }
def matrixNullIsABasisRow : OpenClaim := { program := "ythlinhconnmbcaagreat", sum := "80ec7243b699ab495a36d6e2b18eab26db05175d288a7caa7985f6f2d9d4c207", func := "robuststats/robuststatslaw06.MatrixNullIsABasis", spec := "matrixNullIsABasis", unfollowed := true, recurses := true, apart := false }
def MatrixNullIsABasisSaid : Prop := matrixNullIsABasisRow.holds Tryz.pinned (OpenSpec.ofChange matrixNullIsABasisSpec)

/-- ITS FALSE NEIGHBOUR: 'it returns false'. Refute it at one input. -/
def matrixNullIsABasisWrong : ChangeSpec := { name := "matrixNullIsABasis", fn := fun _ => fun
  | [d1, d2, d3] => { results := [.lit (.bool false)], args := [d1, d2, d3] }
  | _ => none }
def MatrixNullIsABasisWrongFalsely : Prop := matrixNullIsABasisRow.holds Tryz.pinned (OpenSpec.ofChange matrixNullIsABasisWrong)

/-- 'robuststatslaw06.MatrixReducedFormIsUnique': WHATEVER THE INPUT: true; the input reads as it did. -/
def matrixReducedFormIsUniqueSpec : ChangeSpec := { name := "matrixReducedFormIsUnique", fn := fun _ => fun
  | [d1, d2, d3, d4, d5, d6] => { results := [.lit (.bool true)], args := [d1, d2, d3, d4, d5, d6] }
  | _ => none }
def matrixReducedFormIsUniqueRow : OpenClaim := { program := "ythlinhconnmbcaagreat", sum := "80ec7243b699ab495a36d6e2b18eab26db05175d288a7caa7985f6f2d9d4c207", func := "robuststats/robuststatslaw06.MatrixReducedFormIsUnique", spec := "matrixReducedFormIsUnique", unfollowed := true, recurses := true, apart := false }
def MatrixReducedFormIsUniqueSaid : Prop := matrixReducedFormIsUniqueRow.holds Tryz.pinned (OpenSpec.ofChange matrixReducedFormIsUniqueSpec)

/-- ITS FALSE NEIGHBOUR: 'it returns false'. Refute it at one input. -/
def matrixReducedFormIsUniqueWrong : ChangeSpec := { name := "matrixReducedFormIsUnique", fn := fun _ => fun
  | [d1, d2, d3, d4, d5, d6] => { results := [.lit (.bool false)], args := [d1, d2, d3, d4, d5, d6] }
  | _ => none }
def MatrixReducedFormIsUniqueWrongFalsely : Prop := matrixReducedFormIsUniqueRow.holds Tryz.pinned (OpenSpec.ofChange matrixReducedFormIsUniqueWrong)

/- THE SECOND FORM. 'bulk': how many values and letters a reading holds, each counted each time it is reached (what is shared counts as often as it is met; a slice's spare places count too). A statement '..UptoSaid' is the law's where the arguments, and the package variables that the reading takes, are together of bulk at most 1048576: NARROWER than '..Said'. Prove '..Said' where nothing that the law and all that it calls make is longer than what came in: it says more and counts as full. Else prove '..UptoSaid'. A law counts once. -/
mutual
def uptoBulk {H : Type} : DataW H → Nat
  | .lit (.string bytes) => bytes.length + 1
  | .lit _ => 1
  | .nil => 1
  | .ptr d => uptoBulk d + 1
  | .slice elems spare => uptoBulkAll elems + uptoBulkAll spare + 1
  | .agg parts => uptoBulkAll parts + 1
  | .iface _ d => uptoBulk d + 1
  | .map entries => uptoBulkEntries entries + 1
  | .held _ => 1
def uptoBulkAll {H : Type} : List (DataW H) → Nat
  | [] => 0
  | d :: r => uptoBulk d + uptoBulkAll r
def uptoBulkEntries {H : Type} : List (Lit × DataW H) → Nat
  | [] => 0
  | x :: r => uptoBulkEntry x + uptoBulkEntries r
def uptoBulkEntry {H : Type} : Lit × DataW H → Nat
  | (.string bytes, d) => bytes.length + uptoBulk d + 1
  | (_, d) => uptoBulk d + 1
 end
def uptoSmall : (H : Type) → List (DataW H) → Bool := fun _ ds => decide (uptoBulkAll ds ≤ 1048576)
def OpenSpec.upto (s : _root_.Go.ChangeSpec) : _root_.Go.OpenSpec := { _root_.Go.OpenSpec.ofChange s with cond := some uptoSmall }

/-- 'robuststatslaw06.MatrixProductHasTheDeterminant', WHERE WHAT IT READS IS OF BULK AT MOST 1048576: true; the input reads as it did. -/
def matrixProductHasTheDeterminantUptoRow : OpenClaim := { program := "ythlinhconnmbcaagreat", sum := "80ec7243b699ab495a36d6e2b18eab26db05175d288a7caa7985f6f2d9d4c207", func := "robuststats/robuststatslaw06.MatrixProductHasTheDeterminant", spec := "matrixProductHasTheDeterminant", unfollowed := true, recurses := true, apart := false, narrowed := true }
def MatrixProductHasTheDeterminantUptoSaid : Prop := matrixProductHasTheDeterminantUptoRow.holds Tryz.pinned (OpenSpec.upto matrixProductHasTheDeterminantSpec)

/-- 'robuststatslaw06.MatrixInverseIsTwoSided', WHERE WHAT IT READS IS OF BULK AT MOST 1048576: true; the input reads as it did. -/
def matrixInverseIsTwoSidedUptoRow : OpenClaim := { program := "ythlinhconnmbcaagreat", sum := "80ec7243b699ab495a36d6e2b18eab26db05175d288a7caa7985f6f2d9d4c207", func := "robuststats/robuststatslaw06.MatrixInverseIsTwoSided", spec := "matrixInverseIsTwoSided", unfollowed := true, recurses := true, apart := false, narrowed := true }
def MatrixInverseIsTwoSidedUptoSaid : Prop := matrixInverseIsTwoSidedUptoRow.holds Tryz.pinned (OpenSpec.upto matrixInverseIsTwoSidedSpec)

/-- 'robuststatslaw06.MatrixSolutionSolves', WHERE WHAT IT READS IS OF BULK AT MOST 1048576: true; the input reads as it did. -/
def matrixSolutionSolvesUptoRow : OpenClaim := { program := "ythlinhconnmbcaagreat", sum := "80ec7243b699ab495a36d6e2b18eab26db05175d288a7caa7985f6f2d9d4c207", func := "robuststats/robuststatslaw06.MatrixSolutionSolves", spec := "matrixSolutionSolves", unfollowed := true, recurses := true, apart := false, narrowed := true }
def MatrixSolutionSolvesUptoSaid : Prop := matrixSolutionSolvesUptoRow.holds Tryz.pinned (OpenSpec.upto matrixSolutionSolvesSpec)

/-- 'robuststatslaw06.MatrixNullIsABasis', WHERE WHAT IT READS IS OF BULK AT MOST 1048576: true; the input reads as it did. -/
def matrixNullIsABasisUptoRow : OpenClaim := { program := "ythlinhconnmbcaagreat", sum := "80ec7243b699ab495a36d6e2b18eab26db05175d288a7caa7985f6f2d9d4c207", func := "robuststats/robuststatslaw06.MatrixNullIsABasis", spec := "matrixNullIsABasis", unfollowed := true, recurses := true, apart := false, narrowed := true }
def MatrixNullIsABasisUptoSaid : Prop := matrixNullIsABasisUptoRow.holds Tryz.pinned (OpenSpec.upto matrixNullIsABasisSpec)

/-- 'robuststatslaw06.MatrixReducedFormIsUnique', WHERE WHAT IT READS IS OF BULK AT MOST 1048576: true; the input reads as it did. -/
def matrixReducedFormIsUniqueUptoRow : OpenClaim := { program := "ythlinhconnmbcaagreat", sum := "80ec7243b699ab495a36d6e2b18eab26db05175d288a7caa7985f6f2d9d4c207", func := "robuststats/robuststatslaw06.MatrixReducedFormIsUnique", spec := "matrixReducedFormIsUnique", unfollowed := true, recurses := true, apart := false, narrowed := true }
def MatrixReducedFormIsUniqueUptoSaid : Prop := matrixReducedFormIsUniqueUptoRow.holds Tryz.pinned (OpenSpec.upto matrixReducedFormIsUniqueSpec)

end Rows
end Go.Proofs.YthlinhconnmbcaaGreat
