/- The numbers of the four errors with which a text is refused; what a reading of a text comes to, in one word. Conditions: the sixteen error variables hold pointers to cells of their own. -/
import Derived.Test.YtiljemkglhloeaaGreatDoorFrA
import Derived.Test.YtiljemkglhloeaaGreatDoorRdA
import Derived.Test.YtiljemkglhloeaaGreatDoorTextI
namespace Go.Proofs.YtiljemkglhloeaaGreatDoor
set_option linter.unusedSimpArgs false
set_option linter.unusedVariables false
namespace Lx
open Go Go.RowKit
/-- A parser's four errors among the sixteen. -/
def four (f:Nat→Addr):Nat→Addr
 | 0=>f 2
 | 1=>f 3
 | 2=>f 1
 | _=>f 0
theorem Sents.four {w:World} {f:Nat→Addr} (h:Sents w f):Errs4 w (four f):=⟨h.cell 2 (by omega),h.cell 3 (by omega),h.cell 1 (by omega),h.cell 0 (by omega)⟩
theorem num_lit (f:Nat→Addr) (i:Nat) (hi:i < 16) (n:Int) (hn:(i:Int)+1=n) (w:World) (hS:Sents w f) :
  Calls Tryz.prog 22 #[sentV (f i)] w fun e w'=>e=.returned (.int .i64 n)∧Below w.heap.size w w':=by
 subst hn
 exact num_at f i hi w hS
theorem num_four (f:Nat→Addr) (i:Nat) (w:World) (hS:Sents w f) :
  Calls Tryz.prog 22 #[errP (four f i)] w fun e w'=>e=.returned (.int .i64 (erN i))∧Below w.heap.size w w':=by
 match i with
 | 0=>exact num_lit f 2 (by omega) 3 rfl w hS
 | 1=>exact num_lit f 3 (by omega) 4 rfl w hS
 | 2=>exact num_lit f 1 (by omega) 2 rfl w hS
 | _+3=>exact num_lit f 0 (by omega) 1 rfl w hS
end Lx
end Go.Proofs.YtiljemkglhloeaaGreatDoor
