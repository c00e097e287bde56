/- The contract of package parse's whole at []api.Item: what a text comes to: the thing and no error, or no thing and one of the four errors. Conditions: the parser's block is new; the error variables hold what they should; strconv's table of powers of ten holds them. -/
/- So many cells of one block stored one by one: what the block holds, and that all else stands. No conditions. -/
/- The contract of package parse's whole at []api.Item: what a text comes to: the thing and no error, or no thing and one of the four errors. Conditions: the parser's block is new; the error variables hold what they should; strconv's table of powers of ten holds them. -/
/- What parse.Source, parse.Term and parse.Goal return at every text: the thing and no error, or no thing and one of the four errors. Conditions: the error variables hold what they should; strconv's table of powers of ten holds them. -/
import Derived.Test.YtiljemkglhloeaaGreatDoorParWholeS
import Derived.Deep.Cut
import Derived.Laws.ResultCell
namespace Go.Proofs.YtiljemkglhloeaaGreatDoor
set_option linter.unusedSimpArgs false
set_option linter.unusedVariables false
namespace Lx
open Go Go.RowKit
end Lx
end Go.Proofs.YtiljemkglhloeaaGreatDoor
namespace Go.Proofs.YtiljemkglhloeaaGreatDoor
set_option linter.unusedSimpArgs false
set_option linter.unusedVariables false
namespace Lx
open Go Go.RowKit
theorem drew_heap (w:World):w.drew.heap=w.heap:=rfl
theorem PFr.drew {b:Nat} {w x:World} (h:PFr b w x):PFr b w x.drew:=⟨h.os,h.tape,h.output,h.size,h.block⟩
theorem ch4_eq (w:World) (N:Nat) (x0 x1 x2 x3:Value):w.setCells N 0 [x0,x1,x2,x3]=((((w.setCell ⟨N,0,none⟩ x0).setCell ⟨N,1,none⟩ x1).setCell ⟨N,2,none⟩ x2).setCell ⟨N,3,none⟩ x3):=by simp only [World.setCells,Nat.zero_add,Nat.reduceAdd]
theorem ch4_blk {w:World} {N:Nat} {T:TypeId} {C:Array Value} (h:w.heap[N]?=some (.cells C T (0,0))) (hs:C.size=4) (x0 x1 x2 x3:Value):((((w.setCell ⟨N,0,none⟩ x0).setCell ⟨N,1,none⟩ x1).setCell ⟨N,2,none⟩ x2).setCell ⟨N,3,none⟩ x3).heap[N]?=some (.cells #[x0,x1,x2,x3] T (0,0)):=by
 have:=sets_all #[x0,x1,x2,x3] h (by rw [hs];rfl)
 rwa [show (#[x0,x1,x2,x3]:Array Value).toList=[x0,x1,x2,x3] from rfl,ch4_eq] at this
theorem ch4_size (w:World) (N:Nat) (x0 x1 x2 x3:Value):((((w.setCell ⟨N,0,none⟩ x0).setCell ⟨N,1,none⟩ x1).setCell ⟨N,2,none⟩ x2).setCell ⟨N,3,none⟩ x3).heap.size=w.heap.size:=by rw [← ch4_eq,sets_size]
theorem ch4_else {w:World} {N j:Nat} (hj:j ≠ N) (x0 x1 x2 x3:Value):((((w.setCell ⟨N,0,none⟩ x0).setCell ⟨N,1,none⟩ x1).setCell ⟨N,2,none⟩ x2).setCell ⟨N,3,none⟩ x3).heap[j]?=w.heap[j]?:=by rw [← ch4_eq];exact sets_else _ _ _ _ j hj
theorem PFr.ch4 {b:Nat} {w0 w:World} (h:PFr b w0 w) {N:Nat} (hN:w0.heap.size≤N) (x0 x1 x2 x3:Value):PFr b w0 ((((w.setCell ⟨N,0,none⟩ x0).setCell ⟨N,1,none⟩ x1).setCell ⟨N,2,none⟩ x2).setCell ⟨N,3,none⟩ x3):=by rw [← ch4_eq];exact h.sets hN _
theorem ch4_os (w:World) (N:Nat) (x0 x1 x2 x3:Value):((((w.setCell ⟨N,0,none⟩ x0).setCell ⟨N,1,none⟩ x1).setCell ⟨N,2,none⟩ x2).setCell ⟨N,3,none⟩ x3).os=w.os∧((((w.setCell ⟨N,0,none⟩ x0).setCell ⟨N,1,none⟩ x1).setCell ⟨N,2,none⟩ x2).setCell ⟨N,3,none⟩ x3).tape=w.tape∧((((w.setCell ⟨N,0,none⟩ x0).setCell ⟨N,1,none⟩ x1).setCell ⟨N,2,none⟩ x2).setCell ⟨N,3,none⟩ x3).output=w.output:=by rw [← ch4_eq];exact sets_os _ _ _ _
end Lx
end Go.Proofs.YtiljemkglhloeaaGreatDoor
namespace Go.Proofs.YtiljemkglhloeaaGreatDoor
set_option linter.unusedSimpArgs false
set_option linter.unusedVariables false
namespace Lx
open Go Go.RowKit
end Lx
end Go.Proofs.YtiljemkglhloeaaGreatDoor
namespace Go.Proofs.YtiljemkglhloeaaGreatDoor
set_option linter.unusedSimpArgs false
set_option linter.unusedVariables false
namespace Lx
open Go Go.RowKit
theorem results_cell_slot {P:Program} {fn:Func} {p u:Tmp} {ty:TypeId} (h:fn.results=#[.cell p ty,.tmp u]) (tmps:Array Value) (w:World) (R:Addr) (v er:Value) (hp:tmps.getD p undef=.pointer (some R)) (hu:tmps.getD u undef=er) (hR:(loadVar ty R).run P w=.ok v w):(results fn tmps).run P w=.ok (.tuple #[v,er]) w:=by
 have hp':tmps[p]?.getD undef=.pointer (some R):=by simpa using hp
 have hu':tmps[u]?.getD undef=er:=by simpa using hu
 simp [results,h,hp',hu',asAddr,hR]
theorem TextR.moved {α:Type} {f:Nat→Addr} {V:Holds α} (hV:Stable V) (hW:∀ x v lo hi lo' hi' w,V x v lo hi w→lo'≤lo→hi≤hi'→V x v lo' hi' w) {zero:Value} {w x w2 X:World} {v er:Value} {o:Out α} (h:TextR f V zero x w2 v er o) (hb:∀ j,x.heap.size≤j→X.heap[j]?=w2.heap[j]?) (hl:w.heap.size≤x.heap.size) (hs:w2.heap.size≤X.heap.size):TextR f V zero w X v er o:=by
 cases o with
 | no i=>exact h
 | ok y k=>exact ⟨h.1,hW _ _ _ _ _ _ _ (hV _ _ _ _ _ X h.2 (fun j j1 _=>hb j j1)) hl hs⟩
theorem textO_large {α:Type} (rd:List Tok→Out α) {s:ByteArray} (hs:16384 < s.size):textO rd s=.no 1:=by unfold textO;rw [if_pos hs]
theorem textO_bad {α:Type} (rd:List Tok→Out α) {s:ByteArray} (hs:s.size≤16384) (hw:whole s.data.toList=false):textO rd s=.no 3:=by unfold textO;rw [if_neg (by omega),if_pos hw]
theorem textO_good {α:Type} (rd:List Tok→Out α) {s:ByteArray} (hs:s.size≤16384) (hw:whole s.data.toList=true):textO rd s=endO (toks s.data.toList).length (rd (toks s.data.toList)):=by
 unfold textO
 rw [if_neg (by omega),if_neg (by simp [hw])]
 cases rd (toks s.data.toList) with
 | no i=>rfl
 | ok x k=>rfl
end Lx
end Go.Proofs.YtiljemkglhloeaaGreatDoor
