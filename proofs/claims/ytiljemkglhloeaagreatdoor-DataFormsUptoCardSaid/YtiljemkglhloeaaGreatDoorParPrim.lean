/- The contract of package parse's prim: what a goal is where the grammar has a prim, held in cells; or the panic. Conditions: the parser's block is its own; at most 16384 tokens. -/
import Derived.Test.YtiljemkglhloeaaGreatDoorPrimA
namespace Go.Proofs.YtiljemkglhloeaaGreatDoor
set_option linter.unusedSimpArgs false
set_option linter.unusedVariables false
namespace Lx
open Go Go.RowKit
end Lx
end Go.Proofs.YtiljemkglhloeaaGreatDoor
