/- What a parser reads where the grammar has a prim, in plain words: by the nests left; each reading goes forward. No program stands in this text but the tokens' form; no conditions. -/
/- The contract of package parse's prim, guarded and unifyOrCall: what a goal is where the grammar has a prim, held in cells; or the panic. Conditions: the parser's block is its own; at most 16384 tokens. -/
/- The contract of package parse's guarded: what follows "try". Conditions: the parser's block is its own; at most 16384 tokens. -/
/- The contract of package parse's unifyOrCall: a unification or a call. Conditions: the parser's block is its own; at most 16384 tokens. -/
import Derived.Test.YtiljemkglhloeaaGreatDoorRowA
import Derived.Defers
import Derived.Deep.RegionHeld3
namespace Go.Proofs.YtiljemkglhloeaaGreatDoor
set_option linter.unusedSimpArgs false
set_option linter.unusedVariables false
namespace Lx
open Go Go.RowKit
def TermT.kind:TermT→Int
 | .mk k _ _ _=>k
def TermT.name:TermT→List UInt8
 | .mk _ s _ _=>s
def TermT.args:TermT→List TermT
 | .mk _ _ _ l=>l
/-- What follows "try". -/
def guardO (rd:Nat→Out GoalT) (ts:List Tok) (k:Nat):Out GoalT :=
 match rd k with
 | .no i=>.no i
 | .ok g k1=>match expO ts k1 [99,97,116,99,104] with
  | .no i=>.no i
  | .ok _ k2=>match varO ts k2 with
   | .no i=>.no i
   | .ok s k3=>match expO ts k3 [116,104,101,110] with
    | .no i=>.no i
    | .ok _ k4=>match rd k4 with
     | .no i=>.no i
     | .ok g2 k5=>.ok (.mk 9 zeroT zeroT s [] [g,g2]) k5
/-- A unification or a call. -/
def uocO (rdT:Nat→Out TermT) (ts:List Tok) (k:Nat):Out GoalT :=
 match rdT k with
 | .no i=>.no i
 | .ok t k1 =>
  if hasT ts k1 [61]=true then match rdT (k1+1) with
   | .no i=>.no i
   | .ok u k2=>.ok (.mk 3 t u [] [] []) k2
  else if t.kind=3 then .ok (.mk 4 zeroT zeroT t.name t.args []) k1
  else .no 2
def goalO (rd:Nat→Out GoalT) (ts:List Tok) (k:Nat):Out GoalT:=joinO (joinO rd ts [44] 5) ts [59] 6 k
def primO (ts:List Tok):Nat→Int→Nat→Out GoalT
 | 0,_,_=>.no 2
 | m+1,ne,k =>
  match enterO ts k ne with
  | .no i=>.no i
  | .ok _ _ =>
   if hasT ts k [116,114,117,101]=true then .ok (.mk 1 zeroT zeroT [] [] []) (k+1)
   else if hasT ts k [102,97,105,108]=true then .ok (.mk 2 zeroT zeroT [] [] []) (k+1)
   else if hasT ts k [110,111,116]=true then
    match primO ts m (ne+1) (k+1) with
    | .no i=>.no i
    | .ok g k'=>.ok (.mk 7 zeroT zeroT [] [] [g]) k'
   else if hasT ts k [116,104,114,111,119]=true then
    match termO ts 66 (ne+1) (k+1) with
    | .no i=>.no i
    | .ok t k'=>.ok (.mk 8 t zeroT [] [] []) k'
   else if hasT ts k [116,114,121]=true then guardO (primO ts m (ne+1)) ts (k+1)
   else if hasT ts k [40]=true then
    match goalO (primO ts m (ne+1)) ts (k+1) with
    | .no i=>.no i
    | .ok g k'=>match expO ts k' [41] with
     | .no i=>.no i
     | .ok _ k2=>.ok g k2
   else uocO (termO ts 66 (ne+1)) ts k
end Lx
end Go.Proofs.YtiljemkglhloeaaGreatDoor
namespace Go.Proofs.YtiljemkglhloeaaGreatDoor
set_option linter.unusedSimpArgs false
set_option linter.unusedVariables false
namespace Lx
open Go Go.RowKit
theorem TermV.succ:∀ (d:Nat) (x:TermT) (v:Value) (lo hi:Nat) (w:World),TermV d x v lo hi w→TermV (d+1) x v lo hi w
 | 0,_,_,_,_,_,h=>h.elim
 | d+1,⟨_,_,_,_⟩,_,_,_,_,⟨va,hv,h1⟩=>⟨va,hv,h1.imp (TermV.succ d)⟩
theorem TermV.parts {d:Nat} {x:TermT} {a0 a2 va:Value} {z:ByteArray} {lo hi:Nat} {w:World} (h:TermV (d+1) x (.agg #[a0,.string z,a2,va]) lo hi w):z=bs x.name∧ArgsV 28 4 (TermV d) x.args va lo hi w:=by
 match x,h with
 | .mk k s z2 l,⟨va2,hv,ha⟩ =>
  simp only [Value.agg.injEq,Array.mk.injEq,List.cons.injEq,and_true,Value.string.injEq] at hv
  obtain ⟨_,rfl,_,rfl⟩:=hv
  exact ⟨rfl,ha⟩
theorem GoalV.up {d d':Nat} (h:d≤d') {x:GoalT} {v:Value} {lo hi:Nat} {w:World} (hv:GoalV d x v lo hi w):GoalV d' x v lo hi w:=by
 induction h with
 | refl=>exact hv
 | step _ ih=>exact GoalV.succ _ _ _ _ _ _ ih
end Lx
end Go.Proofs.YtiljemkglhloeaaGreatDoor
namespace Go.Proofs.YtiljemkglhloeaaGreatDoor
set_option linter.unusedSimpArgs false
set_option linter.unusedVariables false
namespace Lx
open Go Go.RowKit
end Lx
end Go.Proofs.YtiljemkglhloeaaGreatDoor
namespace Go.Proofs.YtiljemkglhloeaaGreatDoor
set_option linter.unusedSimpArgs false
set_option linter.unusedVariables false
namespace Lx
open Go Go.RowKit
end Lx
end Go.Proofs.YtiljemkglhloeaaGreatDoor
