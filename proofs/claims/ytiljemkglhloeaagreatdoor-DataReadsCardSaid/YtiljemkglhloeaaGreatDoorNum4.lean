/- The numbers of the four errors with which a text is refused; what a reading of a text comes to, in one word. Conditions: the sixteen error variables hold pointers to cells of their own. -/
import Derived.Test.YtiljemkglhloeaaGreatDoorFrA
import Derived.Test.YtiljemkglhloeaaGreatDoorRdA
import Derived.Test.YtiljemkglhloeaaGreatDoorTextI
namespace Go.Proofs.YtiljemkglhloeaaGreatDoor
set_option linter.unusedSimpArgs false
set_option linter.unusedVariables false
namespace Lx
open Go Go.RowKit
/-- A parser's four errors among the sixteen. -/
def four (f:Nat→Addr):Nat→Addr
 | 0=>f 2
 | 1=>f 3
 | 2=>f 1
 | _=>f 0
theorem Sents.four {w:World} {f:Nat→Addr} (h:Sents w f):Errs4 w (four f):=⟨h.cell 2 (by omega),h.cell 3 (by omega),h.cell 1 (by omega),h.cell 0 (by omega)⟩
theorem num_lit (f:Nat→Addr) (i:Nat) (hi:i < 16) (n:Int) (hn:(i:Int)+1=n) (w:World) (hS:Sents w f) :
  Calls Tryz.prog 22 #[sentV (f i)] w fun e w'=>e=.returned (.int .i64 n)∧Below w.heap.size w w':=by
 subst hn
 exact num_at f i hi w hS
theorem num_four (f:Nat→Addr) (i:Nat) (w:World) (hS:Sents w f) :
  Calls Tryz.prog 22 #[errP (four f i)] w fun e w'=>e=.returned (.int .i64 (erN i))∧Below w.heap.size w w':=by
 match i with
 | 0=>exact num_lit f 2 (by omega) 3 rfl w hS
 | 1=>exact num_lit f 3 (by omega) 4 rfl w hS
 | 2=>exact num_lit f 1 (by omega) 2 rfl w hS
 | _+3=>exact num_lit f 0 (by omega) 1 rfl w hS
theorem lex_cases (s:ByteArray):16384 < s.size ∨ (s.size≤16384∧whole s.data.toList=false) ∨ (s.size≤16384∧whole s.data.toList=true):=by
 rcases Nat.lt_or_ge 16384 s.size with h | h
 ·exact .inl h
 ·cases hw:whole s.data.toList
  ·exact .inr (.inl ⟨h,rfl⟩)
  ·exact .inr (.inr ⟨h,rfl⟩)
/-- What a text comes to: its thing (some thing where it is refused), its error, that error's number. -/
theorem text_one {α:Type} (V:Holds α) (zero:Value) (z:α) (hz:∀ lo hi w,V z zero lo hi w) (f:Nat→Addr) (O:Out α):∃ (x:α) (E:Value) (n:Int),(-9223372036854775808≤n∧n≤9223372036854775807) ∧
  (∀ w w' v er,TextR (four f) V zero w w' v er O→er=E∧V x v w.heap.size w'.heap.size w') ∧
  (∀ w,Sents w f→Calls Tryz.prog 22 #[E] w fun e w'=>e=.returned (.int .i64 n)∧Below w.heap.size w w') ∧
  ((∃ i,O=.no i∧x=z∧n=erN i) ∨ (∃ k,O=.ok x k∧n=0)):=by
 cases O with
 | no i =>
  refine ⟨z,errP (four f i),erN i,⟨Int.le_trans (by decide) (erN_lo i),Int.le_trans (erN_hi i) (by decide)⟩,?_,fun w hS=>num_four f i w hS,.inl ⟨i,rfl,rfl,rfl⟩⟩
  rintro w w' v er ⟨rfl,rfl⟩
  exact ⟨rfl,hz _ _ _⟩
 | ok x k =>
  refine ⟨x,.nilIface,0,⟨by decide,by decide⟩,?_,fun w hS=>(num_nil w).mono ?_,.inr ⟨k,rfl,rfl⟩⟩
  ·rintro w w' v er ⟨rfl,h⟩
   exact ⟨rfl,h⟩
  ·rintro e w' ⟨rfl,rfl⟩
   exact ⟨rfl,Below.refl _ _⟩
end Lx
end Go.Proofs.YtiljemkglhloeaaGreatDoor
