/- The contract of the reference's reader's Type: what the parser's plain reading says. Conditions: the reader's block is its own; at most 16384 tokens, each of which is one by itself. -/
import Derived.Test.YtiljemkglhloeaaGreatDoorRdt
import Derived.Test.YtiljemkglhloeaaGreatDoorRowB
namespace Go.Proofs.YtiljemkglhloeaaGreatDoor
set_option linter.unusedSimpArgs false
set_option linter.unusedVariables false
namespace Lx
open Go Go.RowKit
def ShTy (v:Value):Prop:=∃ z1 z2 z3 z4 z5,v=.agg #[.bool z1,.string z2,.slice z3 z4 z5]
end Lx
end Go.Proofs.YtiljemkglhloeaaGreatDoor
