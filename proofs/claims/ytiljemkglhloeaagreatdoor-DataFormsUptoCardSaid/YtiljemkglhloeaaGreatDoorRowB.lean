/- The contract of package parse's row at api.TypeExpr, for whatever reading the function it is handed has: the row of what is read, or the panic. Conditions: the parser's block is its own; at most 16384 tokens. -/
/- The contract of package parse's arguments at api.TypeExpr, for whatever reading the function it is handed has. Conditions: the parser's block is its own; at most 16384 tokens. -/
/- The contract of package parse's typeExpr: what a type is, held in cells; or the panic. Conditions: the parser's block is its own; at most 16384 tokens. -/
/- The contract of package parse's row at api.CtorDecl, for whatever reading the function it is handed has: the row of what is read, or the panic. Conditions: the parser's block is its own; at most 16384 tokens. -/
/- The contract of package parse's ctor: what a constructor is, held in cells; or the panic. Conditions: the parser's block is its own; at most 16384 tokens. -/
/- The contracts of package parse's way and det: which word stands next; or the panic. Conditions: the parser's block is its own; at most 16384 tokens. -/
/- The contract of package parse's row at string, for whatever reading the function it is handed has: the row of what is read, or the panic. Conditions: the parser's block is its own; at most 16384 tokens. -/
/- The contract of package parse's row at bool, for whatever reading the function it is handed has: the row of what is read, or the panic. Conditions: the parser's block is its own; at most 16384 tokens. -/
/- The contract of package parse's arguments at string and at bool, for whatever reading the function it is handed has. Conditions: the parser's block is its own; at most 16384 tokens. -/
import Derived.Test.YtiljemkglhloeaaGreatDoorParTerm
import Derived.Test.YtiljemkglhloeaaGreatDoorParRow
namespace Go.Proofs.YtiljemkglhloeaaGreatDoor
set_option linter.unusedSimpArgs false
set_option linter.unusedVariables false
namespace Lx
open Go Go.RowKit
inductive TypeT where
 | mk:Bool→List UInt8→List TypeT→TypeT
def ThisTy (V:Holds TypeT):Prop:=∀ x v lo hi w,V x v lo hi w→∃ z1 z2 z3 z4 z5,v=.agg #[.bool z1,.string z2,.slice z3 z4 z5]
/-- The row as the loop holds it. -/
structure RowTy (V:Holds TypeT) (rd:Nat→Out TypeT) (mark:List UInt8) (most:Nat) (O:Out (List TypeT)) (w:World) (b:Nat) (A:Option Addr) (c:Nat) (ts:List Tok) (ne:Int) (v:Value) (wr:World) (m k:Nat) (acc:List TypeT) (vs:List Value) (g cap:Nat):Prop where
 out:rowLoop rd ts mark most m k acc=O
 fuel:ts.length < k+m
 le:k≤ts.length
 few:acc.length≤k
 val:v=.slice (some ⟨g,0,none⟩) acc.length cap
 own:wr.ownsRow w.heap.size 35 3 v acc.length (vs.flatMap cellsL)
 items:Items V w.heap.size wr.heap.size g wr acc vs
 par:Par wr b A c ts k ne
 fr:PFr b w wr
theorem RowTy.next {V:Holds TypeT} (hV:Stable V) {rd:Nat→Out TypeT} {mark:List UInt8} {most:Nat} {O:Out (List TypeT)} {w:World} {b:Nat} {A:Option Addr} {c:Nat} {ts:List Tok} {ne:Int} {v:Value} {wr:World} {m k:Nat} {acc:List TypeT} {vs:List Value} {g cap:Nat}
  (h:RowTy V rd mark most O w b A c ts ne v wr m k acc vs g cap) {k0:Nat} (h0:Par w b A c ts k0 ne) {x2:TypeT} {v2:Value} {k2 m2:Nat} {w4 w6:World} {o:Obj} {lo4 g2 cap2:Nat}
  (hout:rowLoop rd ts mark most m2 k2 (acc++[x2])=O) (hfu:ts.length < k2+m2) (hk:k < k2) (hk4:k2≤ts.length) (hf4:PFr b wr w4) (hp4:Par w4 b A c ts k2 ne) (hlo:wr.heap.size≤lo4) (hv4:V x2 v2 lo4 w4.heap.size w4)
  (hown:w6.ownsRow w.heap.size 35 3 (.slice (some ⟨g2,0,none⟩) (acc.length+1) cap2) (acc.length+1) (vs.flatMap cellsL++cellsL v2)) (hg:(w4.alloc o).grownBy w6 v.ownBlock) (hat:v.ownBlock=some g2 ∨ g2=(w4.alloc o).heap.size) :
  RowTy V rd mark most O w b A c ts ne (.slice (some ⟨g2,0,none⟩) (acc++[x2]).length cap2) w6 m2 k2 (acc++[x2]) (vs++[v2]) g2 cap2:=by
 have hvb:v.ownBlock=some g:=by rw [h.val];rfl
 have hgl:=h.own.lt g hvb
 rw [hvb] at hg hat
 have hbw:=h0.lt
 have hfr:PFr b w w6:=((h.fr.trans hf4).alloc o).grown hg (fun j hj=>by have:=Option.some.inj hj;omega)
 have hs6:w4.heap.size≤w6.heap.size:=by have:=hg.size;simp at this;omega
 have hblk:∀ j,j < w4.heap.size→j ≠ g→w6.heap[j]?=w4.heap[j]?:=fun j hj hn=>(hg.block j (by simp;omega) (fun e=>hn (Option.some.inj e))).trans (Below.heap_alloc w4 o j hj)
 have hlen:(acc++[x2]).length=acc.length+1:=by simp
 refine ⟨hout,hfu,hk4,?_,rfl,?_,?_,?_,hfr⟩
 ·have:=h.few;rw [hlen];omega
 ·rw [hlen,flat_snoc];exact hown
 ·have i1:=Items.fr hV hf4 hbw h.items
  have i2:=Items.snoc (x:=x2) (v:=v2) ⟨lo4,w4.heap.size,by have:=h.fr.size;omega,Nat.le_refl _,by omega,hv4⟩ i1
  exact Items.step hV (fun j _ j2 j3=>hblk j j2 j3) hs6 (by rcases hat with e | e;exact .inl (Option.some.inj e).symm;exact .inr (by rw [e];simp)) i2
 ·exact h0.move hfr ((hblk b hp4.lt (by omega)).trans hp4.blk) hp4.near hp4.nest0 hp4.nest1
end Lx
end Go.Proofs.YtiljemkglhloeaaGreatDoor
namespace Go.Proofs.YtiljemkglhloeaaGreatDoor
set_option linter.unusedSimpArgs false
set_option linter.unusedVariables false
namespace Lx
open Go Go.RowKit
end Lx
end Go.Proofs.YtiljemkglhloeaaGreatDoor
namespace Go.Proofs.YtiljemkglhloeaaGreatDoor
set_option linter.unusedSimpArgs false
set_option linter.unusedVariables false
namespace Lx
open Go Go.RowKit
/-- A type's cells, its arguments so many rows deep. -/
def TypeV:Nat→Holds TypeT
 | 0=>fun _ _ _ _ _=>False
 | d+1=>fun x v lo hi w=>match x with
  | .mk k s l=>∃ va,v=.agg #[.bool k,.string (bs s),va]∧ArgsV 35 3 (TypeV d) l va lo hi w
theorem TypeV.wide:∀ (d:Nat) (x:TypeT) (v:Value) (lo hi lo' hi':Nat) (w:World),TypeV d x v lo hi w→lo'≤lo→hi≤hi'→TypeV d x v lo' hi' w
 | 0,_,_,_,_,_,_,_,h,_,_=>h.elim
 | _+1,⟨_,_,_⟩,_,_,_,_,_,_,⟨va,hv,ha⟩,h1,h2=>⟨va,hv,ha.wide h1 h2⟩
theorem TypeV.stable:∀ d,Stable (TypeV d)
 | 0=>fun _ _ _ _ _ _ h _=>h.elim
 | d+1=>by
  rintro ⟨k,s,l⟩ v lo hi w w' ⟨va,hv,ha⟩ h
  exact ⟨va,hv,ArgsV.stable _ _ (TypeV.stable d) _ _ _ _ _ _ ha h⟩
theorem TypeV.this:∀ d,ThisTy (TypeV d)
 | 0=>fun _ _ _ _ _ h=>h.elim
 | d+1=>by
  rintro ⟨k,s,l⟩ v lo hi w ⟨va,rfl,ha⟩
  rcases ha with ⟨_,rfl⟩ | ⟨g,cap,vs,rfl,_⟩
  ·exact ⟨_,_,_,_,_,rfl⟩
  ·exact ⟨_,_,_,_,_,rfl⟩
def typeO (ts:List Tok):Nat→Int→Nat→Out TypeT
 | 0,_,_=>.no 2
 | m+1,ne,k =>
  match enterO ts k ne with
  | .no i=>.no i
  | .ok _ _ =>
   if (peekT ts k).kind=2 then .ok (.mk true (peekT ts k).text []) (k+1)
   else if hasT ts k [105,110,116]=true then .ok (.mk false [105,110,116] []) (k+1)
   else match nameO ts k with
    | .no i=>.no i
    | .ok s k1=>match argsO (typeO ts m (ne+1)) ts k1 with
     | .no i=>.no i
     | .ok l k2=>.ok (.mk false s l) k2
end Lx
end Go.Proofs.YtiljemkglhloeaaGreatDoor
namespace Go.Proofs.YtiljemkglhloeaaGreatDoor
set_option linter.unusedSimpArgs false
set_option linter.unusedVariables false
namespace Lx
open Go Go.RowKit
inductive CtorT where
 | mk:List UInt8→List TypeT→CtorT
def ThisCt (V:Holds CtorT):Prop:=∀ x v lo hi w,V x v lo hi w→∃ z1 z2 z3 z4,v=.agg #[.string z1,.slice z2 z3 z4]
/-- The row as the loop holds it. -/
structure RowCt (V:Holds CtorT) (rd:Nat→Out CtorT) (mark:List UInt8) (most:Nat) (O:Out (List CtorT)) (w:World) (b:Nat) (A:Option Addr) (c:Nat) (ts:List Tok) (ne:Int) (v:Value) (wr:World) (m k:Nat) (acc:List CtorT) (vs:List Value) (g cap:Nat):Prop where
 out:rowLoop rd ts mark most m k acc=O
 fuel:ts.length < k+m
 le:k≤ts.length
 few:acc.length≤k
 val:v=.slice (some ⟨g,0,none⟩) acc.length cap
 own:wr.ownsRow w.heap.size 79 2 v acc.length (vs.flatMap cellsL)
 items:Items V w.heap.size wr.heap.size g wr acc vs
 par:Par wr b A c ts k ne
 fr:PFr b w wr
theorem RowCt.next {V:Holds CtorT} (hV:Stable V) {rd:Nat→Out CtorT} {mark:List UInt8} {most:Nat} {O:Out (List CtorT)} {w:World} {b:Nat} {A:Option Addr} {c:Nat} {ts:List Tok} {ne:Int} {v:Value} {wr:World} {m k:Nat} {acc:List CtorT} {vs:List Value} {g cap:Nat}
  (h:RowCt V rd mark most O w b A c ts ne v wr m k acc vs g cap) {k0:Nat} (h0:Par w b A c ts k0 ne) {x2:CtorT} {v2:Value} {k2 m2:Nat} {w4 w6:World} {o:Obj} {lo4 g2 cap2:Nat}
  (hout:rowLoop rd ts mark most m2 k2 (acc++[x2])=O) (hfu:ts.length < k2+m2) (hk:k < k2) (hk4:k2≤ts.length) (hf4:PFr b wr w4) (hp4:Par w4 b A c ts k2 ne) (hlo:wr.heap.size≤lo4) (hv4:V x2 v2 lo4 w4.heap.size w4)
  (hown:w6.ownsRow w.heap.size 79 2 (.slice (some ⟨g2,0,none⟩) (acc.length+1) cap2) (acc.length+1) (vs.flatMap cellsL++cellsL v2)) (hg:(w4.alloc o).grownBy w6 v.ownBlock) (hat:v.ownBlock=some g2 ∨ g2=(w4.alloc o).heap.size) :
  RowCt V rd mark most O w b A c ts ne (.slice (some ⟨g2,0,none⟩) (acc++[x2]).length cap2) w6 m2 k2 (acc++[x2]) (vs++[v2]) g2 cap2:=by
 have hvb:v.ownBlock=some g:=by rw [h.val];rfl
 have hgl:=h.own.lt g hvb
 rw [hvb] at hg hat
 have hbw:=h0.lt
 have hfr:PFr b w w6:=((h.fr.trans hf4).alloc o).grown hg (fun j hj=>by have:=Option.some.inj hj;omega)
 have hs6:w4.heap.size≤w6.heap.size:=by have:=hg.size;simp at this;omega
 have hblk:∀ j,j < w4.heap.size→j ≠ g→w6.heap[j]?=w4.heap[j]?:=fun j hj hn=>(hg.block j (by simp;omega) (fun e=>hn (Option.some.inj e))).trans (Below.heap_alloc w4 o j hj)
 have hlen:(acc++[x2]).length=acc.length+1:=by simp
 refine ⟨hout,hfu,hk4,?_,rfl,?_,?_,?_,hfr⟩
 ·have:=h.few;rw [hlen];omega
 ·rw [hlen,flat_snoc];exact hown
 ·have i1:=Items.fr hV hf4 hbw h.items
  have i2:=Items.snoc (x:=x2) (v:=v2) ⟨lo4,w4.heap.size,by have:=h.fr.size;omega,Nat.le_refl _,by omega,hv4⟩ i1
  exact Items.step hV (fun j _ j2 j3=>hblk j j2 j3) hs6 (by rcases hat with e | e;exact .inl (Option.some.inj e).symm;exact .inr (by rw [e];simp)) i2
 ·exact h0.move hfr ((hblk b hp4.lt (by omega)).trans hp4.blk) hp4.near hp4.nest0 hp4.nest1
end Lx
end Go.Proofs.YtiljemkglhloeaaGreatDoor
namespace Go.Proofs.YtiljemkglhloeaaGreatDoor
set_option linter.unusedSimpArgs false
set_option linter.unusedVariables false
namespace Lx
open Go Go.RowKit
def CtorV:Holds CtorT:=fun x v lo hi w=>match x with
 | .mk s l=>∃ va,v=.agg #[.string (bs s),va]∧ArgsV 35 3 (TypeV 66) l va lo hi w
theorem CtorV.wide (x:CtorT) (v:Value) (lo hi lo' hi':Nat) (w:World) (h:CtorV x v lo hi w) (h1:lo'≤lo) (h2:hi≤hi'):CtorV x v lo' hi' w:=by
 obtain ⟨s,l⟩:=x
 obtain ⟨va,hv,ha⟩:=h
 exact ⟨va,hv,ha.wide h1 h2⟩
theorem CtorV.stable:Stable CtorV:=by
 rintro ⟨s,l⟩ v lo hi w w' ⟨va,hv,ha⟩ h
 exact ⟨va,hv,ArgsV.stable _ _ (TypeV.stable 66) _ _ _ _ _ _ ha h⟩
theorem CtorV.this:ThisCt CtorV:=by
 rintro ⟨s,l⟩ v lo hi w ⟨va,rfl,ha⟩
 rcases ha with ⟨_,rfl⟩ | ⟨g,cap,vs,rfl,_⟩
 ·exact ⟨_,_,_,_,rfl⟩
 ·exact ⟨_,_,_,_,rfl⟩
def ctorO (ts:List Tok) (ne:Int) (k:Nat):Out CtorT:=match nameO ts k with
 | .no i=>.no i
 | .ok s k1=>match argsO (typeO ts 66 ne) ts k1 with
  | .no i=>.no i
  | .ok l k2=>.ok (.mk s l) k2
end Lx
end Go.Proofs.YtiljemkglhloeaaGreatDoor
namespace Go.Proofs.YtiljemkglhloeaaGreatDoor
set_option linter.unusedSimpArgs false
set_option linter.unusedVariables false
namespace Lx
open Go Go.RowKit
def boolV:Holds Bool:=fun x v _ _ _=>v=.bool x
def intV:Holds Int:=fun x v _ _ _=>v=.int .i64 x
theorem boolV.stable:Stable boolV:=fun _ _ _ _ _ _ h _=>h
theorem intV.stable:Stable intV:=fun _ _ _ _ _ _ h _=>h
def wayO (ts:List Tok) (k:Nat):Out Bool:=if hasT ts k [105,110]=true then .ok true (k+1) else if hasT ts k [111,117,116]=true then .ok false (k+1) else .no 2
def detO (ts:List Tok) (k:Nat):Out Int :=
 if hasT ts k [100,101,116]=true then .ok 1 (k+1) else if hasT ts k [115,101,109,105,100,101,116]=true then .ok 2 (k+1) else if hasT ts k [109,117,108,116,105]=true then .ok 3 (k+1) else if hasT ts k [110,111,110,100,101,116]=true then .ok 4 (k+1) else .no 2
end Lx
end Go.Proofs.YtiljemkglhloeaaGreatDoor
namespace Go.Proofs.YtiljemkglhloeaaGreatDoor
set_option linter.unusedSimpArgs false
set_option linter.unusedVariables false
namespace Lx
open Go Go.RowKit
def ThisSt (V:Holds (List UInt8)):Prop:=∀ x v lo hi w,V x v lo hi w→∃ z1,v=.string z1
/-- The row as the loop holds it. -/
structure RowSt (V:Holds (List UInt8)) (rd:Nat→Out (List UInt8)) (mark:List UInt8) (most:Nat) (O:Out (List (List UInt8))) (w:World) (b:Nat) (A:Option Addr) (c:Nat) (ts:List Tok) (ne:Int) (v:Value) (wr:World) (m k:Nat) (acc:List (List UInt8)) (vs:List Value) (g cap:Nat):Prop where
 out:rowLoop rd ts mark most m k acc=O
 fuel:ts.length < k+m
 le:k≤ts.length
 few:acc.length≤k
 val:v=.slice (some ⟨g,0,none⟩) acc.length cap
 own:wr.ownsRow w.heap.size 9 1 v acc.length (vs.flatMap cellsL)
 items:Items V w.heap.size wr.heap.size g wr acc vs
 par:Par wr b A c ts k ne
 fr:PFr b w wr
theorem RowSt.next {V:Holds (List UInt8)} (hV:Stable V) {rd:Nat→Out (List UInt8)} {mark:List UInt8} {most:Nat} {O:Out (List (List UInt8))} {w:World} {b:Nat} {A:Option Addr} {c:Nat} {ts:List Tok} {ne:Int} {v:Value} {wr:World} {m k:Nat} {acc:List (List UInt8)} {vs:List Value} {g cap:Nat}
  (h:RowSt V rd mark most O w b A c ts ne v wr m k acc vs g cap) {k0:Nat} (h0:Par w b A c ts k0 ne) {x2:(List UInt8)} {v2:Value} {k2 m2:Nat} {w4 w6:World} {o:Obj} {lo4 g2 cap2:Nat}
  (hout:rowLoop rd ts mark most m2 k2 (acc++[x2])=O) (hfu:ts.length < k2+m2) (hk:k < k2) (hk4:k2≤ts.length) (hf4:PFr b wr w4) (hp4:Par w4 b A c ts k2 ne) (hlo:wr.heap.size≤lo4) (hv4:V x2 v2 lo4 w4.heap.size w4)
  (hown:w6.ownsRow w.heap.size 9 1 (.slice (some ⟨g2,0,none⟩) (acc.length+1) cap2) (acc.length+1) (vs.flatMap cellsL++cellsL v2)) (hg:(w4.alloc o).grownBy w6 v.ownBlock) (hat:v.ownBlock=some g2 ∨ g2=(w4.alloc o).heap.size) :
  RowSt V rd mark most O w b A c ts ne (.slice (some ⟨g2,0,none⟩) (acc++[x2]).length cap2) w6 m2 k2 (acc++[x2]) (vs++[v2]) g2 cap2:=by
 have hvb:v.ownBlock=some g:=by rw [h.val];rfl
 have hgl:=h.own.lt g hvb
 rw [hvb] at hg hat
 have hbw:=h0.lt
 have hfr:PFr b w w6:=((h.fr.trans hf4).alloc o).grown hg (fun j hj=>by have:=Option.some.inj hj;omega)
 have hs6:w4.heap.size≤w6.heap.size:=by have:=hg.size;simp at this;omega
 have hblk:∀ j,j < w4.heap.size→j ≠ g→w6.heap[j]?=w4.heap[j]?:=fun j hj hn=>(hg.block j (by simp;omega) (fun e=>hn (Option.some.inj e))).trans (Below.heap_alloc w4 o j hj)
 have hlen:(acc++[x2]).length=acc.length+1:=by simp
 refine ⟨hout,hfu,hk4,?_,rfl,?_,?_,?_,hfr⟩
 ·have:=h.few;rw [hlen];omega
 ·rw [hlen,flat_snoc];exact hown
 ·have i1:=Items.fr hV hf4 hbw h.items
  have i2:=Items.snoc (x:=x2) (v:=v2) ⟨lo4,w4.heap.size,by have:=h.fr.size;omega,Nat.le_refl _,by omega,hv4⟩ i1
  exact Items.step hV (fun j _ j2 j3=>hblk j j2 j3) hs6 (by rcases hat with e | e;exact .inl (Option.some.inj e).symm;exact .inr (by rw [e];simp)) i2
 ·exact h0.move hfr ((hblk b hp4.lt (by omega)).trans hp4.blk) hp4.near hp4.nest0 hp4.nest1
end Lx
end Go.Proofs.YtiljemkglhloeaaGreatDoor
namespace Go.Proofs.YtiljemkglhloeaaGreatDoor
set_option linter.unusedSimpArgs false
set_option linter.unusedVariables false
namespace Lx
open Go Go.RowKit
def ThisBo (V:Holds Bool):Prop:=∀ x v lo hi w,V x v lo hi w→∃ z1,v=.bool z1
/-- The row as the loop holds it. -/
structure RowBo (V:Holds Bool) (rd:Nat→Out Bool) (mark:List UInt8) (most:Nat) (O:Out (List Bool)) (w:World) (b:Nat) (A:Option Addr) (c:Nat) (ts:List Tok) (ne:Int) (v:Value) (wr:World) (m k:Nat) (acc:List Bool) (vs:List Value) (g cap:Nat):Prop where
 out:rowLoop rd ts mark most m k acc=O
 fuel:ts.length < k+m
 le:k≤ts.length
 few:acc.length≤k
 val:v=.slice (some ⟨g,0,none⟩) acc.length cap
 own:wr.ownsRow w.heap.size 4 1 v acc.length (vs.flatMap cellsL)
 items:Items V w.heap.size wr.heap.size g wr acc vs
 par:Par wr b A c ts k ne
 fr:PFr b w wr
theorem RowBo.next {V:Holds Bool} (hV:Stable V) {rd:Nat→Out Bool} {mark:List UInt8} {most:Nat} {O:Out (List Bool)} {w:World} {b:Nat} {A:Option Addr} {c:Nat} {ts:List Tok} {ne:Int} {v:Value} {wr:World} {m k:Nat} {acc:List Bool} {vs:List Value} {g cap:Nat}
  (h:RowBo V rd mark most O w b A c ts ne v wr m k acc vs g cap) {k0:Nat} (h0:Par w b A c ts k0 ne) {x2:Bool} {v2:Value} {k2 m2:Nat} {w4 w6:World} {o:Obj} {lo4 g2 cap2:Nat}
  (hout:rowLoop rd ts mark most m2 k2 (acc++[x2])=O) (hfu:ts.length < k2+m2) (hk:k < k2) (hk4:k2≤ts.length) (hf4:PFr b wr w4) (hp4:Par w4 b A c ts k2 ne) (hlo:wr.heap.size≤lo4) (hv4:V x2 v2 lo4 w4.heap.size w4)
  (hown:w6.ownsRow w.heap.size 4 1 (.slice (some ⟨g2,0,none⟩) (acc.length+1) cap2) (acc.length+1) (vs.flatMap cellsL++cellsL v2)) (hg:(w4.alloc o).grownBy w6 v.ownBlock) (hat:v.ownBlock=some g2 ∨ g2=(w4.alloc o).heap.size) :
  RowBo V rd mark most O w b A c ts ne (.slice (some ⟨g2,0,none⟩) (acc++[x2]).length cap2) w6 m2 k2 (acc++[x2]) (vs++[v2]) g2 cap2:=by
 have hvb:v.ownBlock=some g:=by rw [h.val];rfl
 have hgl:=h.own.lt g hvb
 rw [hvb] at hg hat
 have hbw:=h0.lt
 have hfr:PFr b w w6:=((h.fr.trans hf4).alloc o).grown hg (fun j hj=>by have:=Option.some.inj hj;omega)
 have hs6:w4.heap.size≤w6.heap.size:=by have:=hg.size;simp at this;omega
 have hblk:∀ j,j < w4.heap.size→j ≠ g→w6.heap[j]?=w4.heap[j]?:=fun j hj hn=>(hg.block j (by simp;omega) (fun e=>hn (Option.some.inj e))).trans (Below.heap_alloc w4 o j hj)
 have hlen:(acc++[x2]).length=acc.length+1:=by simp
 refine ⟨hout,hfu,hk4,?_,rfl,?_,?_,?_,hfr⟩
 ·have:=h.few;rw [hlen];omega
 ·rw [hlen,flat_snoc];exact hown
 ·have i1:=Items.fr hV hf4 hbw h.items
  have i2:=Items.snoc (x:=x2) (v:=v2) ⟨lo4,w4.heap.size,by have:=h.fr.size;omega,Nat.le_refl _,by omega,hv4⟩ i1
  exact Items.step hV (fun j _ j2 j3=>hblk j j2 j3) hs6 (by rcases hat with e | e;exact .inl (Option.some.inj e).symm;exact .inr (by rw [e];simp)) i2
 ·exact h0.move hfr ((hblk b hp4.lt (by omega)).trans hp4.blk) hp4.near hp4.nest0 hp4.nest1
end Lx
end Go.Proofs.YtiljemkglhloeaaGreatDoor
namespace Go.Proofs.YtiljemkglhloeaaGreatDoor
set_option linter.unusedSimpArgs false
set_option linter.unusedVariables false
namespace Lx
open Go Go.RowKit
end Lx
end Go.Proofs.YtiljemkglhloeaaGreatDoor
