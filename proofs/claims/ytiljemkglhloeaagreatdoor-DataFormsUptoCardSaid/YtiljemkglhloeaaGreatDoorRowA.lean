/- The contract of package parse's row at api.Goal, for whatever reading the function it is handed has: the row of what is read, or the panic. Conditions: the parser's block is its own; at most 16384 tokens. -/
/- The contract of package parse's row at api.Goal, for whatever reading the function it is handed has: the row of what is read, or the panic. Conditions: the parser's block is its own; at most 16384 tokens. -/
/- How a goal is held in cells: its terms, its arguments and its goals in rows; and that a deeper count of rows holds it as well. No conditions. -/
/- The contract of package parse's joined: the goals of a row as one goal. Conditions: the row holds one goal at least. -/
import Derived.Test.YtiljemkglhloeaaGreatDoorParTerm
namespace Go.Proofs.YtiljemkglhloeaaGreatDoor
set_option linter.unusedSimpArgs false
set_option linter.unusedVariables false
namespace Lx
open Go Go.RowKit
inductive GoalT where
 | mk:Int→TermT→TermT→List UInt8→List TermT→List GoalT→GoalT
def ThisGo (V:Holds GoalT):Prop:=∀ x v lo hi w,V x v lo hi w→∃ z1 z2 z3 z4 z5 z6 z7 z8 z9 za zb zc zd ze zf zg zh zi zj zk,v=.agg #[.int .i64 z1,.int .i64 z2,.string z3,.int .i64 z4,.slice z5 z6 z7,.int .i64 z8,.string z9,.int .i64 za,.slice zb zc zd,.string ze,.slice zf zg zh,.slice zi zj zk]
/-- The row as the loop holds it. -/
structure RowGo (V:Holds GoalT) (rd:Nat→Out GoalT) (mark:List UInt8) (most:Nat) (O:Out (List GoalT)) (w:World) (b:Nat) (A:Option Addr) (c:Nat) (ts:List Tok) (ne:Int) (v:Value) (wr:World) (m k:Nat) (acc:List GoalT) (vs:List Value) (g cap:Nat):Prop where
 out:rowLoop rd ts mark most m k acc=O
 fuel:ts.length < k+m
 le:k≤ts.length
 few:acc.length≤k
 val:v=.slice (some ⟨g,0,none⟩) acc.length cap
 own:wr.ownsRow w.heap.size 31 12 v acc.length (vs.flatMap cellsL)
 items:Items V w.heap.size wr.heap.size g wr acc vs
 par:Par wr b A c ts k ne
 fr:PFr b w wr
theorem RowGo.next {V:Holds GoalT} (hV:Stable V) {rd:Nat→Out GoalT} {mark:List UInt8} {most:Nat} {O:Out (List GoalT)} {w:World} {b:Nat} {A:Option Addr} {c:Nat} {ts:List Tok} {ne:Int} {v:Value} {wr:World} {m k:Nat} {acc:List GoalT} {vs:List Value} {g cap:Nat}
  (h:RowGo V rd mark most O w b A c ts ne v wr m k acc vs g cap) {k0:Nat} (h0:Par w b A c ts k0 ne) {x2:GoalT} {v2:Value} {k2 m2:Nat} {w4 w6:World} {o:Obj} {lo4 g2 cap2:Nat}
  (hout:rowLoop rd ts mark most m2 k2 (acc++[x2])=O) (hfu:ts.length < k2+m2) (hk:k < k2) (hk4:k2≤ts.length) (hf4:PFr b wr w4) (hp4:Par w4 b A c ts k2 ne) (hlo:wr.heap.size≤lo4) (hv4:V x2 v2 lo4 w4.heap.size w4)
  (hown:w6.ownsRow w.heap.size 31 12 (.slice (some ⟨g2,0,none⟩) (acc.length+1) cap2) (acc.length+1) (vs.flatMap cellsL++cellsL v2)) (hg:(w4.alloc o).grownBy w6 v.ownBlock) (hat:v.ownBlock=some g2 ∨ g2=(w4.alloc o).heap.size) :
  RowGo V rd mark most O w b A c ts ne (.slice (some ⟨g2,0,none⟩) (acc++[x2]).length cap2) w6 m2 k2 (acc++[x2]) (vs++[v2]) g2 cap2:=by
 have hvb:v.ownBlock=some g:=by rw [h.val];rfl
 have hgl:=h.own.lt g hvb
 rw [hvb] at hg hat
 have hbw:=h0.lt
 have hfr:PFr b w w6:=((h.fr.trans hf4).alloc o).grown hg (fun j hj=>by have:=Option.some.inj hj;omega)
 have hs6:w4.heap.size≤w6.heap.size:=by have:=hg.size;simp at this;omega
 have hblk:∀ j,j < w4.heap.size→j ≠ g→w6.heap[j]?=w4.heap[j]?:=fun j hj hn=>(hg.block j (by simp;omega) (fun e=>hn (Option.some.inj e))).trans (Below.heap_alloc w4 o j hj)
 have hlen:(acc++[x2]).length=acc.length+1:=by simp
 refine ⟨hout,hfu,hk4,?_,rfl,?_,?_,?_,hfr⟩
 ·have:=h.few;rw [hlen];omega
 ·rw [hlen,flat_snoc];exact hown
 ·have i1:=Items.fr hV hf4 hbw h.items
  have i2:=Items.snoc (x:=x2) (v:=v2) ⟨lo4,w4.heap.size,by have:=h.fr.size;omega,Nat.le_refl _,by omega,hv4⟩ i1
  exact Items.step hV (fun j _ j2 j3=>hblk j j2 j3) hs6 (by rcases hat with e | e;exact .inl (Option.some.inj e).symm;exact .inr (by rw [e];simp)) i2
 ·exact h0.move hfr ((hblk b hp4.lt (by omega)).trans hp4.blk) hp4.near hp4.nest0 hp4.nest1
end Lx
end Go.Proofs.YtiljemkglhloeaaGreatDoor
namespace Go.Proofs.YtiljemkglhloeaaGreatDoor
set_option linter.unusedSimpArgs false
set_option linter.unusedVariables false
namespace Lx
open Go Go.RowKit
/-- The row as the loop holds it. -/
structure RowCo (V:Holds GoalT) (rd:Nat→Out GoalT) (mark:List UInt8) (most:Nat) (O:Out (List GoalT)) (w:World) (b:Nat) (A:Option Addr) (c:Nat) (ts:List Tok) (ne:Int) (v:Value) (wr:World) (m k:Nat) (acc:List GoalT) (vs:List Value) (g cap:Nat):Prop where
 out:rowLoop rd ts mark most m k acc=O
 fuel:ts.length < k+m
 le:k≤ts.length
 few:acc.length≤k
 val:v=.slice (some ⟨g,0,none⟩) acc.length cap
 own:wr.ownsRow w.heap.size 31 12 v acc.length (vs.flatMap cellsL)
 items:Items V w.heap.size wr.heap.size g wr acc vs
 par:Par wr b A c ts k ne
 fr:PFr b w wr
theorem RowCo.next {V:Holds GoalT} (hV:Stable V) {rd:Nat→Out GoalT} {mark:List UInt8} {most:Nat} {O:Out (List GoalT)} {w:World} {b:Nat} {A:Option Addr} {c:Nat} {ts:List Tok} {ne:Int} {v:Value} {wr:World} {m k:Nat} {acc:List GoalT} {vs:List Value} {g cap:Nat}
  (h:RowCo V rd mark most O w b A c ts ne v wr m k acc vs g cap) {k0:Nat} (h0:Par w b A c ts k0 ne) {x2:GoalT} {v2:Value} {k2 m2:Nat} {w4 w6:World} {o:Obj} {lo4 g2 cap2:Nat}
  (hout:rowLoop rd ts mark most m2 k2 (acc++[x2])=O) (hfu:ts.length < k2+m2) (hk:k < k2) (hk4:k2≤ts.length) (hf4:PFr b wr w4) (hp4:Par w4 b A c ts k2 ne) (hlo:wr.heap.size≤lo4) (hv4:V x2 v2 lo4 w4.heap.size w4)
  (hown:w6.ownsRow w.heap.size 31 12 (.slice (some ⟨g2,0,none⟩) (acc.length+1) cap2) (acc.length+1) (vs.flatMap cellsL++cellsL v2)) (hg:(w4.alloc o).grownBy w6 v.ownBlock) (hat:v.ownBlock=some g2 ∨ g2=(w4.alloc o).heap.size) :
  RowCo V rd mark most O w b A c ts ne (.slice (some ⟨g2,0,none⟩) (acc++[x2]).length cap2) w6 m2 k2 (acc++[x2]) (vs++[v2]) g2 cap2:=by
 have hvb:v.ownBlock=some g:=by rw [h.val];rfl
 have hgl:=h.own.lt g hvb
 rw [hvb] at hg hat
 have hbw:=h0.lt
 have hfr:PFr b w w6:=((h.fr.trans hf4).alloc o).grown hg (fun j hj=>by have:=Option.some.inj hj;omega)
 have hs6:w4.heap.size≤w6.heap.size:=by have:=hg.size;simp at this;omega
 have hblk:∀ j,j < w4.heap.size→j ≠ g→w6.heap[j]?=w4.heap[j]?:=fun j hj hn=>(hg.block j (by simp;omega) (fun e=>hn (Option.some.inj e))).trans (Below.heap_alloc w4 o j hj)
 have hlen:(acc++[x2]).length=acc.length+1:=by simp
 refine ⟨hout,hfu,hk4,?_,rfl,?_,?_,?_,hfr⟩
 ·have:=h.few;rw [hlen];omega
 ·rw [hlen,flat_snoc];exact hown
 ·have i1:=Items.fr hV hf4 hbw h.items
  have i2:=Items.snoc (x:=x2) (v:=v2) ⟨lo4,w4.heap.size,by have:=h.fr.size;omega,Nat.le_refl _,by omega,hv4⟩ i1
  exact Items.step hV (fun j _ j2 j3=>hblk j j2 j3) hs6 (by rcases hat with e | e;exact .inl (Option.some.inj e).symm;exact .inr (by rw [e];simp)) i2
 ·exact h0.move hfr ((hblk b hp4.lt (by omega)).trans hp4.blk) hp4.near hp4.nest0 hp4.nest1
end Lx
end Go.Proofs.YtiljemkglhloeaaGreatDoor
namespace Go.Proofs.YtiljemkglhloeaaGreatDoor
set_option linter.unusedSimpArgs false
set_option linter.unusedVariables false
namespace Lx
open Go Go.RowKit
theorem Items.imp {α:Type} {V V':Holds α} (hVV:∀ x v lo hi w,V x v lo hi w→V' x v lo hi w) {lo hi own:Nat} {w:World}:∀ {l:List α} {vs:List Value},Items V lo hi own w l vs→Items V' lo hi own w l vs
 | [],[],_=>trivial
 | _ :: _,_ :: _,⟨⟨p,q,a1,a2,a3,a4⟩,a5⟩=>⟨⟨p,q,a1,a2,a3,hVV _ _ _ _ _ a4⟩,Items.imp hVV a5⟩
 | [],_ :: _,h=>h.elim
 | _ :: _,[],h=>h.elim
theorem RowV.imp {α:Type} {t:TypeId} {sz:Nat} {V V':Holds α} (hVV:∀ x v lo hi w,V x v lo hi w→V' x v lo hi w) {l:List α} {v:Value} {lo hi:Nat} {w:World} (h:RowV t sz V l v lo hi w):RowV t sz V' l v lo hi w:=by
 obtain ⟨g,cap,vs,rfl,hg,hown,hit⟩:=h
 exact ⟨g,cap,vs,rfl,hg,hown,hit.imp hVV⟩
theorem ArgsV.imp {α:Type} {t:TypeId} {sz:Nat} {V V':Holds α} (hVV:∀ x v lo hi w,V x v lo hi w→V' x v lo hi w) {l:List α} {v:Value} {lo hi:Nat} {w:World} (h:ArgsV t sz V l v lo hi w):ArgsV t sz V' l v lo hi w:=by
 rcases h with h | h
 ·exact .inl h
 ·exact .inr (h.imp hVV)
theorem TermV.shape {d:Nat} {x:TermT} {v:Value} {lo hi:Nat} {w:World} (h:TermV d x v lo hi w):∃ p q z s n c,v=.agg #[.int .i64 p,.string q,.int .i64 z,.slice s n c]:=TermV.this d _ _ _ _ _ h
def zeroT:TermT:=.mk 0 [] 0 []
/-- A goal's cells, its goals so many rows deep. -/
def GoalV:Nat→Holds GoalT
 | 0=>fun _ _ _ _ _=>False
 | d+1=>fun x v lo hi w=>match x with
  | .mk k a b s l gs=>∃ x0 x1 x2 x3 y0 y1 y2 y3 va vg,v=.agg #[.int .i64 k,x0,x1,x2,x3,y0,y1,y2,y3,.string (bs s),va,vg]∧TermV 66 a (.agg #[x0,x1,x2,x3]) lo hi w∧TermV 66 b (.agg #[y0,y1,y2,y3]) lo hi w∧ArgsV 28 4 (TermV 66) l va lo hi w∧ArgsV 31 12 (GoalV d) gs vg lo hi w
theorem GoalV.wide:∀ (d:Nat) (x:GoalT) (v:Value) (lo hi lo' hi':Nat) (w:World),GoalV d x v lo hi w→lo'≤lo→hi≤hi'→GoalV d x v lo' hi' w
 | 0,_,_,_,_,_,_,_,h,_,_=>h.elim
 | _+1,⟨_,_,_,_,_,_⟩,_,_,_,_,_,_,⟨x0,x1,x2,x3,y0,y1,y2,y3,va,vg,hv,h1,h2,h3,h4⟩,e1,e2 =>
  ⟨x0,x1,x2,x3,y0,y1,y2,y3,va,vg,hv,TermV.wide _ _ _ _ _ _ _ _ h1 e1 e2,TermV.wide _ _ _ _ _ _ _ _ h2 e1 e2,h3.wide e1 e2,h4.wide e1 e2⟩
theorem GoalV.stable:∀ d,Stable (GoalV d)
 | 0=>fun _ _ _ _ _ _ h _=>h.elim
 | d+1=>by
  rintro ⟨k,a,b,s,l,gs⟩ v lo hi w w' ⟨x0,x1,x2,x3,y0,y1,y2,y3,va,vg,hv,h1,h2,h3,h4⟩ h
  exact ⟨x0,x1,x2,x3,y0,y1,y2,y3,va,vg,hv,TermV.stable 66 _ _ _ _ _ _ h1 h,TermV.stable 66 _ _ _ _ _ _ h2 h,ArgsV.stable _ _ (TermV.stable 66) _ _ _ _ _ _ h3 h,ArgsV.stable _ _ (GoalV.stable d) _ _ _ _ _ _ h4 h⟩
theorem GoalV.succ:∀ (d:Nat) (x:GoalT) (v:Value) (lo hi:Nat) (w:World),GoalV d x v lo hi w→GoalV (d+1) x v lo hi w
 | 0,_,_,_,_,_,h=>h.elim
 | d+1,⟨_,_,_,_,_,_⟩,_,_,_,_,⟨x0,x1,x2,x3,y0,y1,y2,y3,va,vg,hv,h1,h2,h3,h4⟩ =>
  ⟨x0,x1,x2,x3,y0,y1,y2,y3,va,vg,hv,h1,h2,h3,h4.imp (GoalV.succ d)⟩
theorem GoalV.this:∀ d,ThisGo (GoalV d)
 | 0=>fun _ _ _ _ _ h=>h.elim
 | d+1=>by
  rintro ⟨k,a,b,s,l,gs⟩ v lo hi w ⟨x0,x1,x2,x3,y0,y1,y2,y3,va,vg,rfl,h1,h2,h3,h4⟩
  obtain ⟨p1,p2,p3,p4,p5,p6,e1⟩:=TermV.shape h1
  obtain ⟨q1,q2,q3,q4,q5,q6,e2⟩:=TermV.shape h2
  obtain ⟨r1,r2,r3,rfl⟩:=h3.slice
  obtain ⟨s1,s2,s3,rfl⟩:=h4.slice
  simp only [Value.agg.injEq,Array.mk.injEq,List.cons.injEq,and_true] at e1 e2
  obtain ⟨rfl,rfl,rfl,rfl⟩:=e1
  obtain ⟨rfl,rfl,rfl,rfl⟩:=e2
  exact ⟨_,_,_,_,_,_,_,_,_,_,_,_,_,_,_,_,_,_,_,_,rfl⟩
end Lx
end Go.Proofs.YtiljemkglhloeaaGreatDoor
namespace Go.Proofs.YtiljemkglhloeaaGreatDoor
set_option linter.unusedSimpArgs false
set_option linter.unusedVariables false
namespace Lx
open Go Go.RowKit
def joinG (kind:Int):List GoalT→GoalT
 | [g]=>g
 | gs=>.mk kind zeroT zeroT [] [] gs
def joinO (rd:Nat→Out GoalT) (ts:List Tok) (mark:List UInt8) (kind:Int) (k:Nat):Out GoalT:=match rowO rd ts mark 16384 k with
 | .no i=>.no i
 | .ok l k'=>.ok (joinG kind l) k'
theorem PFr.below {b:Nat} {x y z:World} (h:PFr b x y) (hb:Below y.heap.size y z):PFr b x z :=
 ⟨hb.os.trans h.os,hb.tape.trans h.tape,hb.output.trans h.output,Nat.le_trans h.size hb.size,fun k hk hn=>(hb.block k (Nat.lt_of_lt_of_le hk h.size)).trans (h.block k hk hn)⟩
theorem Par.below {w w':World} {b:Nat} {A:Option Addr} {c:Nat} {ts:List Tok} {k:Nat} {ne:Int} (h:Par w b A c ts k ne) (hb:Below w.heap.size w w'):Par w' b A c ts k ne :=
 h.move ((PFr.refl b w).below hb) ((hb.block b h.lt).trans h.blk) h.near h.nest0 h.nest1
end Lx
end Go.Proofs.YtiljemkglhloeaaGreatDoor
