/- Types with unknowns as trees, and what the document says of them by themselves. No program stands in this text; no conditions. -/
import Derived.Test.YtomeggcpmcoamaaDoorUa
namespace Go.Proofs.YtomeggcpmcoamaaDoor
set_option linter.unusedSimpArgs false
set_option linter.unusedVariables false
namespace Lx
open Go Go.RowKit
inductive TyT where
 | mk (k:Int) (s:ByteArray) (n:Int) (l:List TyT)
def TyT.kind:TyT→Int | .mk k _ _ _=>k
def TyT.name:TyT→ByteArray | .mk _ s _ _=>s
def TyT.var:TyT→Int | .mk _ _ n _=>n
def TyT.args:TyT→List TyT | .mk _ _ _ l=>l
def TyW:Nat→HoldW TyT
 | 0=>fun _ _ _ _=>False
 | d+1=>fun Vol x v w=>match x with
  | .mk k s n l=>∃ va,v=.agg #[.int .i64 k,.string s,.int .i64 n,va]∧RowW 4 (TyW d) Vol l va w
theorem TyW.step:∀ d,StepW (TyW d)
 | 0=>fun _ _ _ _ _ _ h _ _=>h.elim
 | d+1=>by
  rintro Vol Vol' ⟨k,s,n,l⟩ v w w' ⟨va,rfl,h⟩ hk hv
  exact ⟨va,rfl,RowW.step (TyW.step d) _ _ _ _ _ _ h hk hv⟩
theorem TyW.this {d:Nat} {Vol:Nat→Prop} {x:TyT} {v:Value} {w:World} (h:TyW d Vol x v w):∃ A n c,v=.agg #[.int .i64 x.kind,.string x.name,.int .i64 x.var,.slice A n c]:=by
 cases d with
 | zero=>exact h.elim
 | succ d =>
  obtain ⟨k,s,n,l⟩:=x
  obtain ⟨va,rfl,h1⟩:=h
  obtain ⟨A,c,rfl⟩:=h1.slice
  exact ⟨A,_,c,rfl⟩
theorem tyCells:∀ {d:Nat} Vol x v w,TyW d Vol x v w→(cellsL v).length=4:=by
 intro d Vol x v w h
 obtain ⟨_,_,_,rfl⟩:=h.this
 rfl
mutual
def strange (m:Int):TyT→Bool
 | .mk k _ n l=>if k=1 then false else if k=3 then false else if k=2 then stranges m l else if k=4 then (decide (n < 0) || decide (m≤n)) else true
def stranges (m:Int):List TyT→Bool
 | []=>false
 | x :: l=>strange m x || stranges m l
end
mutual
def nodesZ:TyT→Int
 | .mk k _ _ l=>if k=2 then 1+nodesZs l else 1
def nodesZs:List TyT→Int
 | []=>0
 | x :: l=>nodesZ x+nodesZs l
end
mutual
def cleanT:TyT→TyT
 | .mk k s n l=>if k=2 then .mk 2 s 0 (cleanTs l) else if k=3 then .mk 3 s 0 [] else if k=4 then .mk 4 ⟨#[]⟩ n [] else .mk k ⟨#[]⟩ 0 []
def cleanTs:List TyT→List TyT
 | []=>[]
 | x :: l=>cleanT x :: cleanTs l
end
theorem stranges_any (m:Int):∀ l,stranges m l=l.any (strange m)
 | []=>by simp [stranges]
 | x :: l=>by simp [stranges,stranges_any m l]
theorem nodesZs_snoc:∀ (a:List TyT) (x:TyT),nodesZs (a++[x])=nodesZs a+nodesZ x
 | [],x=>by simp [nodesZs]
 | y :: a,x=>by simp [nodesZs,nodesZs_snoc a x,Int.add_assoc]
theorem cleanTs_map:∀ l,cleanTs l=l.map cleanT
 | []=>by simp [cleanTs]
 | x :: l=>by simp [cleanTs,cleanTs_map l]
end Lx
end Go.Proofs.YtomeggcpmcoamaaDoor
