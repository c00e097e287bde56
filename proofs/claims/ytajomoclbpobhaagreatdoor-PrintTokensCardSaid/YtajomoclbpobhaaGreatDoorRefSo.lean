/- The contract of the reference's Source at every text. No conditions. -/
import Derived.Test.YtajomoclbpobhaaGreatDoorRds
import Derived.Test.YtajomoclbpobhaaGreatDoorLawSoA
namespace Go.Proofs.YtajomoclbpobhaaGreatDoor
set_option linter.unusedSimpArgs false
set_option linter.unusedVariables false
namespace Lx
open Go Go.RowKit
theorem refSource_any (s:ByteArray) (w:World):Calls Tryz.prog 28 #[.string s] w fun e w'=>∃ v n,e=.returned (.tuple #[v,.int .i64 n])∧Below w.heap.size w w'∧PartR (ArgsV 33 20 ItemV) (.slice none 0 0) w w' v n (textO srcG s):=rsource_any (Lib.hid ritem_genc) s w
end Lx
end Go.Proofs.YtajomoclbpobhaaGreatDoor
