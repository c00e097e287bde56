/- The contract of package parse's item: what an item is, held in cells; or the panic. Conditions: the parser's block is its own; at most 16384 tokens. -/
/- The contract of package parse's source: the row of the items up to the end; or the panic. Conditions: the parser's block is its own; at most 16384 tokens. -/
import Derived.Test.YtiljemkglhloeaaGreatDoorItemB
import Derived.Test.YtiljemkglhloeaaGreatDoorParItemC
namespace Go.Proofs.YtiljemkglhloeaaGreatDoor
set_option linter.unusedSimpArgs false
set_option linter.unusedVariables false
namespace Lx
open Go Go.RowKit
theorem ItemV.this {x:ItemT} {v:Value} {lo hi:Nat} {w:World} (h:ItemV x v lo hi w):∃ i1 i2 i3 i4 i5 i6 i7 i8 i9 ia ib ic id ie ig ih ii ij z1 z2 z3 z4 z5 z6 z7 z8 z9 za zb zc zd ze zf zg zh zi zj zk,v=.agg #[.int .i64 i1,.string i2,.slice i3 i4 i5,.slice i6 i7 i8,.slice i9 ia ib,.slice ic id ie,.int .i64 ig,.slice ih ii ij,.int .i64 z1,.int .i64 z2,.string z3,.int .i64 z4,.slice z5 z6 z7,.int .i64 z8,.string z9,.int .i64 za,.slice zb zc zd,.string ze,.slice zf zg zh,.slice zi zj zk]:=by
 obtain ⟨vv,vc,vt,vi,va,b0,b1,b2,b3,b4,b5,b6,b7,b8,b9,b10,b11,rfl,h1,h2,h3,h4,h5,h6⟩:=h
 obtain ⟨a1,a2,a3,rfl⟩:=h1.slice
 obtain ⟨c1,c2,c3,rfl⟩:=h2.slice
 obtain ⟨d1,d2,d3,rfl⟩:=h3.slice
 obtain ⟨e1,e2,e3,rfl⟩:=h4.slice
 obtain ⟨f1,f2,f3,rfl⟩:=h5.slice
 obtain ⟨z1,z2,z3,z4,z5,z6,z7,z8,z9,za,zb,zc,zd,ze,zf,zg,zh,zi,zj,zk,hz⟩:=GoalV.this _ _ _ _ _ _ h6
 simp only [Value.agg.injEq,Array.mk.injEq,List.cons.injEq,and_true] at hz
 obtain ⟨rfl,rfl,rfl,rfl,rfl,rfl,rfl,rfl,rfl,rfl,rfl,rfl⟩:=hz
 exact ⟨_,_,_,_,_,_,_,_,_,_,_,_,_,_,_,_,_,_,_,_,_,_,_,_,_,_,_,_,_,_,_,_,_,_,_,_,_,_,rfl⟩
end Lx
end Go.Proofs.YtiljemkglhloeaaGreatDoor
namespace Go.Proofs.YtiljemkglhloeaaGreatDoor
set_option linter.unusedSimpArgs false
set_option linter.unusedVariables false
namespace Lx
open Go Go.RowKit
def srcLoop (ts:List Tok) (ne:Int):Nat→Nat→List ItemT→Out (List ItemT)
 | 0,_,_=>.no 2
 | m+1,k,acc =>
  if k < ts.length then
   if acc.length=512 then .no 1
   else match itemO ts ne k with
    | .no i=>.no i
    | .ok x k1=>match expO ts k1 [46] with
     | .no i=>.no i
     | .ok _ k2=>srcLoop ts ne m k2 (acc++[x])
  else .ok acc k
/-- The row as the loop holds it. -/
structure SrcI (ne:Int) (O:Out (List ItemT)) (w:World) (b:Nat) (A:Option Addr) (c:Nat) (ts:List Tok) (s:Option Addr) (cap:Nat) (wr:World) (m k:Nat) (acc:List ItemT) (vs:List Value) (g:Nat):Prop where
 out:srcLoop ts ne m k acc=O
 fuel:ts.length < k+m
 le:k≤ts.length
 few:acc.length≤512
 val:(acc=[]∧s=none∧cap=0) ∨ s=some ⟨g,0,none⟩
 own:wr.ownsRow w.heap.size 33 20 (.slice s acc.length cap) acc.length (vs.flatMap cellsL)
 items:Items ItemV w.heap.size wr.heap.size g wr acc vs
 par:Par wr b A c ts k ne
 fr:PFr b w wr
theorem SrcI.held {ne:Int} {O:Out (List ItemT)} {w:World} {b:Nat} {A:Option Addr} {c:Nat} {ts:List Tok} {s:Option Addr} {cap:Nat} {wr:World} {m k:Nat} {acc:List ItemT} {vs:List Value} {g:Nat} (h:SrcI ne O w b A c ts s cap wr m k acc vs g) :
  ArgsV 33 20 ItemV acc (.slice s acc.length cap) w.heap.size wr.heap.size wr:=by
 rcases h.val with ⟨rfl,rfl,rfl⟩ | rfl
 ·exact .inl ⟨rfl,rfl⟩
 ·exact .inr ⟨g,cap,vs,rfl,(h.own.lt g rfl).2,h.own,h.items⟩
theorem SrcI.next {ne:Int} {O:Out (List ItemT)} {w:World} {b:Nat} {A:Option Addr} {c:Nat} {ts:List Tok} {s:Option Addr} {cap:Nat} {wr:World} {m k:Nat} {acc:List ItemT} {vs:List Value} {g:Nat} (h:SrcI ne O w b A c ts s cap wr m k acc vs g) {k0:Nat} (h0:Par w b A c ts k0 ne)
  {x2:ItemT} {v2:Value} {k1:Nat} {w4 w6:World} {o:Obj} {lo4 g2 cap2:Nat} (hl:acc.length < 512)
  (hf4:PFr b wr w4) (hp4:Par w4 b A c ts k1 ne) (hlo:wr.heap.size≤lo4) (hv4:ItemV x2 v2 lo4 w4.heap.size w4)
  (hown:w6.ownsRow w.heap.size 33 20 (.slice (some ⟨g2,0,none⟩) (acc.length+1) cap2) (acc.length+1) (vs.flatMap cellsL++cellsL v2)) (hg:(w4.alloc o).grownBy w6 (Value.slice s acc.length cap).ownBlock) (hat:(Value.slice s acc.length cap).ownBlock=some g2 ∨ g2=(w4.alloc o).heap.size)
  : Par w6 b A c ts k1 ne∧PFr b w w6∧(∀ w7 k2 m2,srcLoop ts ne m2 k2 (acc++[x2])=O→ts.length < k2+m2→k2≤ts.length→Par w7 b A c ts k2 ne→PFr b w6 w7→SrcI ne O w b A c ts (some ⟨g2,0,none⟩) cap2 w7 m2 k2 (acc++[x2]) (vs++[v2]) g2):=by
 have hbw:=h0.lt
 have hgl:∀ j,(Value.slice s acc.length cap).ownBlock=some j→w.heap.size≤j∧j < wr.heap.size∧(acc ≠ []→j=g):=fun j hj=>by
  have h1:=h.own.lt j hj
  refine ⟨h1.1,h1.2,fun hne=>?_⟩
  rcases h.val with ⟨e,_⟩ | rfl
  ·exact absurd e hne
  ·exact (Option.some.inj hj).symm
 have hfr:PFr b w w6:=((h.fr.trans hf4).alloc o).grown hg (fun j hj=>(hgl j hj).1)
 have hs6:w4.heap.size≤w6.heap.size:=by have:=hg.size;simp at this;omega
 have hblk:∀ j,j < w4.heap.size→some j ≠ (Value.slice s acc.length cap).ownBlock→w6.heap[j]?=w4.heap[j]?:=fun j hj hn=>(hg.block j (by simp;omega) hn).trans (Below.heap_alloc w4 o j hj)
 have hlen:(acc++[x2]).length=acc.length+1:=by simp
 have hp6:Par w6 b A c ts k1 ne:=h0.move hfr ((hblk b hp4.lt (fun e=>by have:=(hgl b e.symm).1;omega)).trans hp4.blk) hp4.near hp4.nest0 hp4.nest1
 refine ⟨hp6,hfr,fun w7 k2 m2 hout hfu hk4 hp7 hf7=>⟨hout,hfu,hk4,by rw [hlen];omega,.inr rfl,?_,?_,hp7,hfr.trans hf7⟩⟩
 ·rw [hlen,flat_snoc]
  exact own_fr hown hf7 hbw
 ·have i1:=Items.fr ItemV.stable hf4 hbw h.items
  refine Items.fr ItemV.stable hf7 hbw ?_
  rcases h.val with ⟨rfl,rfl,rfl⟩ | rfl
  ·match vs,i1 with
   | [],_ =>
    have hg2:g2=(w4.alloc o).heap.size:=by
     rcases hat with e | e
     ·cases e
     ·exact e
    refine ⟨⟨lo4,w4.heap.size,by have:=h.fr.size;omega,hs6,by rw [hg2];simp <;> omega,?_⟩,trivial⟩
    exact ItemV.stable _ _ _ _ _ _ hv4 (fun j _ hj=>hblk j hj (fun e=>by cases e))
  ·have i2:=Items.snoc (x:=x2) (v:=v2) ⟨lo4,w4.heap.size,by have:=h.fr.size;omega,Nat.le_refl _,by have:=(hgl g rfl).2.1;omega,hv4⟩ i1
   exact Items.step ItemV.stable (fun j _ j2 j3=>hblk j j2 (fun e=>j3 (Option.some.inj e))) hs6 (by rcases hat with e | e;exact .inl (Option.some.inj e).symm;exact .inr (by rw [e];simp)) i2
end Lx
end Go.Proofs.YtiljemkglhloeaaGreatDoor
