/- The contract of package print's row at terms: the forms with the mark between each two, for whatever form the function it is handed puts. Conditions: the printer's block is its own; at most 2^40 bytes. -/
import Derived.Test.YtiljemkglhloeaaGreatDoorPrP
import Derived.StillTailTactics
namespace Go.Proofs.YtiljemkglhloeaaGreatDoor
set_option linter.unusedSimpArgs false
set_option linter.unusedVariables false
namespace Lx
open Go Go.RowKit
end Lx
end Go.Proofs.YtiljemkglhloeaaGreatDoor
