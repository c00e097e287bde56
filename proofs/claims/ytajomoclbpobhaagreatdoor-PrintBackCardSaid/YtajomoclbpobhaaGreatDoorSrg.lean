/- What a source's tokens come to, by its name. No program stands in this text. -/
import Derived.Test.YtajomoclbpobhaaGreatDoorItemC
namespace Go.Proofs.YtajomoclbpobhaaGreatDoor
set_option linter.unusedSimpArgs false
set_option linter.unusedVariables false
namespace Lx
open Go
abbrev srcG:List Tok→Out (List ItemT):=fun ts=>sourceO ts 0 0
end Lx
end Go.Proofs.YtajomoclbpobhaaGreatDoor
