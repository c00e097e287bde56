/- What an item is, in plain words, and how it is held in cells; prim at whatever nest, and a whole goal. Conditions: the parser's block is its own; at most 16384 tokens. -/
/- A struct stored as a whole into a block of its own, and read as a whole: what the block holds, and that all else stands. No conditions. -/
import Derived.Test.YtiljemkglhloeaaGreatDoorParPrim
import Derived.Test.YtiljemkglhloeaaGreatDoorRowB
import Derived.Deep.MidRow
import Derived.Deep.Cut
import Derived.Laws.Rows
namespace Go.Proofs.YtiljemkglhloeaaGreatDoor
set_option linter.unusedSimpArgs false
set_option linter.unusedVariables false
namespace Lx
open Go Go.RowKit
def strH:Holds (List UInt8):=fun x v _ _ _=>v=.string (bs x)
theorem strH.stable:Stable strH:=fun _ _ _ _ _ _ h _=>h
theorem strH.this:ThisSt strH:=fun _ _ _ _ _ h=>⟨_,h⟩
theorem boolV.this:ThisBo boolV:=fun _ _ _ _ _ h=>⟨_,h⟩
theorem RowV.slice {α:Type} {t:TypeId} {sz:Nat} {V:Holds α} {l:List α} {v:Value} {lo hi:Nat} {w:World} (h:RowV t sz V l v lo hi w):∃ s n c,v=.slice s n c:=by
 obtain ⟨g,cap,vs,rfl,_⟩:=h
 exact ⟨_,_,_,rfl⟩
structure ItemT where
 kind:Int
 name:List UInt8
 vars:List (List UInt8)
 ctors:List CtorT
 types:List TypeT
 ins:List Bool
 det:Int
 args:List TermT
 body:GoalT
def zeroG:GoalT:=.mk 0 zeroT zeroT [] [] []
def trueG:GoalT:=.mk 1 zeroT zeroT [] [] []
/-- An item's cells. -/
def ItemV:Holds ItemT:=fun x v lo hi w=>∃ vv vc vt vi va b0 b1 b2 b3 b4 b5 b6 b7 b8 b9 b10 b11,v=.agg #[.int .i64 x.kind,.string (bs x.name),vv,vc,vt,vi,.int .i64 x.det,va,b0,b1,b2,b3,b4,b5,b6,b7,b8,b9,b10,b11] ∧
 ArgsV 9 1 strH x.vars vv lo hi w∧ArgsV 79 2 CtorV x.ctors vc lo hi w∧ArgsV 35 3 (TypeV 66) x.types vt lo hi w∧ArgsV 4 1 boolV x.ins vi lo hi w∧ArgsV 28 4 (TermV 66) x.args va lo hi w∧GoalV 134 x.body (.agg #[b0,b1,b2,b3,b4,b5,b6,b7,b8,b9,b10,b11]) lo hi w
theorem ItemV.wide (x:ItemT) (v:Value) (lo hi lo' hi':Nat) (w:World) (h:ItemV x v lo hi w) (e1:lo'≤lo) (e2:hi≤hi'):ItemV x v lo' hi' w:=by
 obtain ⟨vv,vc,vt,vi,va,b0,b1,b2,b3,b4,b5,b6,b7,b8,b9,b10,b11,hv,h1,h2,h3,h4,h5,h6⟩:=h
 exact ⟨vv,vc,vt,vi,va,b0,b1,b2,b3,b4,b5,b6,b7,b8,b9,b10,b11,hv,h1.wide e1 e2,h2.wide e1 e2,h3.wide e1 e2,h4.wide e1 e2,h5.wide e1 e2,GoalV.wide _ _ _ _ _ _ _ _ h6 e1 e2⟩
theorem ItemV.stable:Stable ItemV:=by
 rintro x v lo hi w w' ⟨vv,vc,vt,vi,va,b0,b1,b2,b3,b4,b5,b6,b7,b8,b9,b10,b11,hv,h1,h2,h3,h4,h5,h6⟩ h
 exact ⟨vv,vc,vt,vi,va,b0,b1,b2,b3,b4,b5,b6,b7,b8,b9,b10,b11,hv,ArgsV.stable _ _ strH.stable _ _ _ _ _ _ h1 h,ArgsV.stable _ _ CtorV.stable _ _ _ _ _ _ h2 h,ArgsV.stable _ _ (TypeV.stable 66) _ _ _ _ _ _ h3 h,ArgsV.stable _ _ boolV.stable _ _ _ _ _ _ h4 h,ArgsV.stable _ _ (TermV.stable 66) _ _ _ _ _ _ h5 h,GoalV.stable 134 _ _ _ _ _ _ h6 h⟩
def typeItemO (ts:List Tok) (ne:Int) (k:Nat):Out ItemT:=match nameO ts k with
 | .no i=>.no i
 | .ok s k1=>match argsO (varO ts) ts k1 with
  | .no i=>.no i
  | .ok vs k2=>match expO ts k2 [61] with
   | .no i=>.no i
   | .ok _ k3=>match rowO (ctorO ts ne) ts [124] 16384 k3 with
    | .no i=>.no i
    | .ok cs k4=>.ok ⟨1,s,vs,cs,[],[],0,[],zeroG⟩ k4
def predO (ts:List Tok) (ne:Int) (k:Nat):Out ItemT:=match nameO ts k with
 | .no i=>.no i
 | .ok s k1=>match argsO (typeO ts 66 ne) ts k1 with
  | .no i=>.no i
  | .ok l k2=>.ok ⟨2,s,[],[],l,[],0,[],zeroG⟩ k2
def modeItemO (ts:List Tok) (k:Nat):Out ItemT:=match nameO ts k with
 | .no i=>.no i
 | .ok s k1=>match argsO (wayO ts) ts k1 with
  | .no i=>.no i
  | .ok ws k2=>match expO ts k2 [105,115] with
   | .no i=>.no i
   | .ok _ k3=>match detO ts k3 with
    | .no i=>.no i
    | .ok d k4=>.ok ⟨3,s,[],[],[],ws,d,[],zeroG⟩ k4
def clauseO (ts:List Tok) (ne:Int) (k:Nat):Out ItemT:=match nameO ts k with
 | .no i=>.no i
 | .ok s k1=>match argsO (termO ts 66 ne) ts k1 with
  | .no i=>.no i
  | .ok l k2=>if hasT ts k2 [58,45]=true then match goalO (primO ts 66 ne) ts (k2+1) with
    | .no i=>.no i
    | .ok g k3=>.ok ⟨4,s,[],[],[],[],0,l,g⟩ k3
   else .ok ⟨4,s,[],[],[],[],0,l,trueG⟩ k2
def itemO (ts:List Tok) (ne:Int) (k:Nat):Out ItemT :=
 if hasT ts k [116,121,112,101]=true then typeItemO ts ne (k+1)
 else if hasT ts k [112,114,101,100]=true then predO ts ne (k+1)
 else if hasT ts k [109,111,100,101]=true then modeItemO ts (k+1)
 else clauseO ts ne k
end Lx
end Go.Proofs.YtiljemkglhloeaaGreatDoor
namespace Go.Proofs.YtiljemkglhloeaaGreatDoor
set_option linter.unusedSimpArgs false
set_option linter.unusedVariables false
namespace Lx
open Go Go.RowKit
theorem sets_size (N:Nat):∀ (l:List Value) (i:Nat) (w:World),(w.setCells N i l).heap.size=w.heap.size
 | [],_,_=>rfl
 | v :: l,i,w=>by rw [World.setCells,sets_size N l];simp [World.setCell]
theorem sets_else (N:Nat):∀ (l:List Value) (i:Nat) (w:World) (j:Nat),j ≠ N→(w.setCells N i l).heap[j]?=w.heap[j]?
 | [],_,_,_,_=>rfl
 | v :: l,i,w,j,hj=>by rw [World.setCells,sets_else N l _ _ j hj,Below.heap_setCell _ _ _ j hj]
theorem sets_os (N:Nat):∀ (l:List Value) (i:Nat) (w:World),(w.setCells N i l).os=w.os∧(w.setCells N i l).tape=w.tape∧(w.setCells N i l).output=w.output
 | [],_,_=>⟨rfl,rfl,rfl⟩
 | v :: l,i,w=>by rw [World.setCells];exact sets_os N l _ _
theorem sets_blk (N:Nat) {T:TypeId}:∀ (l:List Value) (i:Nat) (w:World) (C:Array Value),w.heap[N]?=some (.cells C T (0,0))→i+l.length≤C.size →
  ∃ C',(w.setCells N i l).heap[N]?=some (.cells C' T (0,0))∧C'.size=C.size∧∀ q:Nat,C'[q]?=if i≤q∧q < i+l.length then l[q - i]? else C[q]?
 | [],i,w,C,h,_=>⟨C,h,rfl,fun q=>by rw [if_neg (by simp <;> omega)]⟩
 | v :: l,i,w,C,h,hl=>by
  have hi:i < C.size:=by simp at hl;omega
  obtain ⟨C',h1,h2,h3⟩:=sets_blk N l (i+1) (w.setCell ⟨N,i,none⟩ v) (C.set i v hi) (blk_put w N i v h hi) (by simp at hl ⊢;omega)
  refine ⟨C',by rw [World.setCells];exact h1,by rw [h2];simp,fun q=>?_⟩
  rw [h3 q]
  by_cases e:q=i
  ·subst e
   rw [if_neg (by omega),if_pos (by simp)]
   simp
  ·by_cases e2:i+1≤q∧q < i+1+l.length
   ·rw [if_pos e2,if_pos (by simp;omega)]
    have:q - i=(q - (i+1))+1:=by omega
    rw [this]
    rfl
   ·rw [if_neg e2,if_neg (by simp;omega)]
    rw [Array.getElem?_set_ne hi (by omega)]
theorem sets_all {N:Nat} {T:TypeId} {w:World} {C:Array Value} (cs:Array Value) (h:w.heap[N]?=some (.cells C T (0,0))) (hs:cs.size=C.size):(w.setCells N 0 cs.toList).heap[N]?=some (.cells cs T (0,0)):=by
 obtain ⟨C',h1,h2,h3⟩:=sets_blk N cs.toList 0 w C h (by simp;omega)
 rw [h1]
 congr 2
 apply Array.ext_getElem?
 intro q
 rw [h3 q]
 by_cases hq:q < cs.size
 ·rw [if_pos (by simp;exact hq)]
  simp
 ·rw [if_neg (by simp;omega),Array.getElem?_eq_none (by omega),Array.getElem?_eq_none (by omega)]
theorem range_all {w:World} {b:Nat} {C:Array Value} {t:TypeId} {fr:Nat × Nat} (hb:w.heap[b]?=some (.cells C t fr)):w.rangeAt b 0 C.toList:=fun j v hv=>by
 rw [Nat.zero_add,cell_of_row w b j C t fr hb]
 simpa using hv
end Lx
end Go.Proofs.YtiljemkglhloeaaGreatDoor
