/- The contracts of the reference's SameTerm, SameTerms and SameGoal at two values that hold the same thing, at every depth: true. No conditions. -/
import Derived.Test.YtbbbbfglhphffaaDoorSameG
namespace Go.Proofs.YtbbbbfglhphffaaDoor
set_option linter.unusedSimpArgs false
set_option linter.unusedVariables false
namespace Lx
open Go Go.RowKit

theorem sameTerm_any : ∀ d, SameOk 29 (TermV d)
  | 0 => fun _ _ _ _ _ _ _ _ h => h.elim
  | d + 1 => sameTerm_step d (Lib.hid (sameTerms_step d (Lib.hid (sameTerm_any d))))
theorem sameTerms_any (d : Nat) : SameOk 30 (ArgsV 32 4 (TermV d)) := sameTerms_step d (Lib.hid (sameTerm_any d))
theorem sameGoal_any : ∀ d, SameOk 13 (GoalV d)
  | 0 => fun _ _ _ _ _ _ _ _ h => h.elim
  | d + 1 => sameGoal_step d (Lib.hid (sameTerm_any 66)) (Lib.hid (sameTerms_any 66)) (Lib.hid (sameGoal_any d))

end Lx
end Go.Proofs.YtbbbbfglhphffaaDoor
