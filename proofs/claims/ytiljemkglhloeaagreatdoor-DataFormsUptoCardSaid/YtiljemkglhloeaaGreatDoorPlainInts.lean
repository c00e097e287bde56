/- Plain facts: the tokens of an int's numeral, alone and behind a nought. No program stands in this text; no conditions. -/
import Derived.Test.YtiljemkglhloeaaGreatDoorRefA
import Derived.Test.YtiljemkglhloeaaGreatDoorPlainA
import Derived.Lib.ItoaLen
namespace Go.Proofs.YtiljemkglhloeaaGreatDoor
set_option linter.unusedSimpArgs false
set_option linter.unusedVariables false
namespace Lx
open Go
end Lx
end Go.Proofs.YtiljemkglhloeaaGreatDoor
