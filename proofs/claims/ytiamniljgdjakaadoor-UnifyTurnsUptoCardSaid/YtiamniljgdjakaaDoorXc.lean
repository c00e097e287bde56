/- Unify of two new tables' types, by its code; new tables in any surroundings; rows that grow beside one another. No program is walked in this text; conditions: as each states. -/
import Derived.Test.YtiamniljgdjakaaDoorXb
namespace Go.Proofs.YtiamniljgdjakaaDoor
set_option linter.unusedSimpArgs false
set_option linter.unusedVariables false
namespace Lx
open Go Go.RowKit
/-- A new table's state, whatever else may be written. -/
theorem st_startV {B B0 b m c g0:Nat} {A:Option Addr} {cs0:Array Value} {w:World} (hT:TabF B b m A c w) (h0:m=0→A=none) (hg:w.heap[g0]?=some (.cells cs0 70 (0,0))) (hg0:B0≤g0) (hB:B0≤B):∃ g,B0≤g∧A=gA g m∧(∃ cs,w.heap[g]?=some (.cells cs 70 (0,0)))∧∀ Vol:Nat→Prop,Vol g→¬ Vol b→St Vol b g m c fr w:=by
 obtain ⟨g,h1,h2⟩:=st_start (B0:=B0) hT h0 hg hg0 hB
 obtain ⟨rk,Bx,us,rkU,⟨Bd,p1,p2,p3⟩,p4,⟨vus,p5⟩,p6⟩:=h2
 have hA:A=gA g m:=by
  have q:=p3.blk
  rw [hT.blk] at q
  injection q with q
  injection q with q _
  have q2:=congrArg (fun a:Array Value=>a[0]?) q
  simp only [List.getElem?_toArray,List.getElem?_cons_zero,Option.some.injEq,Value.slice.injEq] at q2
  exact q2.1
 obtain ⟨cs,q1,q2⟩:=p5.row
 have hcell:∀ i j,i < m→j < 6→w.cell? ⟨g,i * 6+j,none⟩=bind0[j]?:=fun i j hi hj=>by
  have ho:=hT.own
  rcases ho.2 with ⟨_,e⟩ | ⟨g',cap',cur,e,_,hb,_⟩
  ·omega
  ·injection e with e1 _ _
   rw [hA,gA_pos hi] at e1
   injection e1 with e1
   injection e1 with e1
   subst e1
   have hlt:i * 6+j < m * 6:=by omega
   rw [hA,gA_pos hi] at ho
   rw [ho.cellAt _ hlt]
   exact freeCells_at m i j hi hj
 refine ⟨g,h1,hA,⟨cs,q1⟩,fun Vol hv hb=>⟨fun _=>0,fun _=>none,fun _=>[],fun _=>0,⟨fun _=>none,⟨res_fr m,fun _ _ _=>rfl,fun _ _ _ e=>(by cases e),fun _ _ _ e=>(by cases e)⟩,fun _=>Iff.rfl,⟨p3.blk,⟨cs,q1,q2⟩,fun i hi=>hcell i 0 hi (by decide),hv,hb⟩⟩,fun i hi=>?_,⟨fun _=>.slice none 0 0,p3.blk,⟨cs,q1,q2⟩,fun i hi=>hcell i 5 hi (by decide),fun _ _=>World.ownsRow_nil _ _ _ _,fun _ _ _ e=>(by cases e),fun _ _ _ _ _ _ e=>(by cases e),hv,hb⟩,⟨fun _ _ _=>rfl,fun _ _ _ e=>(by cases e),fun _ _ _ e=>(by cases e),fun _ _ _ _=>rfl,fun _ _ _ h=>(by cases h)⟩⟩⟩
 rw [hcell i 4 hi (by decide)]
 show _=some (Value.int .i64 ((sizeT (fr i):Nat):Int))
 rw [size_fr]
 rfl
section
variable {fe:Nat→Addr} {b g m cap:Nat} {W0 W W':World} {r:Rho} {Vol:Nat→Prop}
/-- How Unify of a new table ends. -/
def TurnP (fe:Nat→Addr) (m:Nat) (x y:TyT) (z:Value) (r':Rho):Prop :=
 (z=errP (fe 1)∧(strange (m:Int) x=true ∨ strange (m:Int) y=true)) ∨ z=errP (fe 0) ∨
 (strange (m:Int) x=false∧strange (m:Int) y=false∧∃ code,Unif m fr (cleanT x) (cleanT y) code r'∧code ≠ 2∧z=errC fe code)
theorem ls_turn (hE:ErrU fe W0) (hms:m≤1000000000) (h:LS b g m cap W0 W fr Vol) {d:Nat} {x y:TyT} {v1 v2:Value} (hx:TyW d Vol x v1 W) (hy:TyW d Vol y v2 W) (hfx:fewT x) (hfy:fewT y) (hsx:smallT x) (hsy:smallT y) (hV:∀ k,Vol k→∃ cs fz,W.heap[k]?=some (.cells cs 70 fz)) :
  Calls Tryd.prog 14 #[.pointer (some ⟨b,0,none⟩),v1,v2] W fun e w'=>∃ z r' Vol',e=.returned z∧LS b g m cap W0 w' r' Vol'∧Kb (fun k=>k=g) W w'∧(∀ k,Vol k→Vol' k)∧TurnP fe m x y z r':=by
 have hR:=h.1.res
 refine (Unify_any fe b g m cap d hms Vol fr x y v1 v2 W hx hy hfx hfy hsx hsy h.1 h.2.1 (h.err hE) (fun k e=>(h.2.2.1 k e).2)).mono ?_
 rintro e w' (⟨rfl,hs,hb⟩ | ⟨rfl,_,_,_,hb⟩ | ⟨s1,s2,z1,z2,code,r',Vol',hu,rfl,p3,p4,p5,p6,p7⟩)
 ·exact ⟨_,fr,Vol,rfl,h.below hb,Kb.of_below hb,fun _ e=>e,.inl ⟨rfl,hs⟩⟩
 ·exact ⟨_,fr,Vol,rfl,h.below hb,Kb.of_below hb,fun _ e=>e,.inr (.inl rfl)⟩
 ·have g1:=good_clean m x s1
  have g2:=good_clean m y s2
  rw [sub_id _ g1,sub_id _ g2] at hu
  obtain ⟨hn,_⟩:=hu.next hR g1 g2 (sub_id _ g1) (sub_id _ g2)
  refine ⟨_,r',Vol',rfl,h.go p6 (hn.few h.2.1) p7.kb p3 p5,p7.only hV,p4,?_⟩
  by_cases hc:code=2
  ·subst hc
   exact .inr (.inl rfl)
  ·exact .inr (.inr ⟨s1,s2,code,hu,hc,rfl⟩)
end
/-- How two of them end that are turned round. -/
theorem turn_ends {fe:Nat→Addr} {m:Nat} {x y:TyT} {z1 z2:Value} {r1 r2:Rho} (h1:TurnP fe m x y z1 r1) (h2:TurnP fe m y x z2 r2) :
  z1=errP (fe 0) ∨ z2=errP (fe 0) ∨ (z1=errP (fe 1)∧z2=errP (fe 1)) ∨ (z1=errP (fe 2)∧z2=errP (fe 2)) ∨ (z1=.nilIface∧z2=.nilIface∧Over m r1 r2∧Over m r2 r1∧Res m r1∧Res m r2):=by
 rcases h1 with ⟨e1,s1⟩ | e1 | ⟨s1,s2,c1,u1,n1,e1⟩
 ·rcases h2 with ⟨e2,_⟩ | e2 | ⟨t1,t2,_⟩
  ·exact .inr (.inr (.inl ⟨e1,e2⟩))
  ·exact .inr (.inl e2)
  ·rw [t1,t2] at s1
   rcases s1 with s1 | s1 <;> cases s1
 ·exact .inl e1
 ·rcases h2 with ⟨e2,t⟩ | e2 | ⟨t1,t2,c2,u2,n2,e2⟩
  ·rw [s1,s2] at t
   rcases t with t | t <;> cases t
  ·exact .inr (.inl e2)
  ·obtain ⟨q1,q2⟩:=unif_turn u1 u2 (good_clean m x s1) (good_clean m y s2) n1 n2
   subst q1
   rcases u1.code with hc | hc | hc
   ·subst hc
    obtain ⟨p1,p2,p3,p4⟩:=q2 rfl
    exact .inr (.inr (.inr (.inr ⟨e1,e2,p1,p2,p3,p4⟩)))
   ·subst hc
    exact .inr (.inr (.inr (.inl ⟨e1,e2⟩)))
   ·exact absurd hc n1
section
variable {Vol:Nat→Prop} {b g m cap S S2 c:Nat} {W0 w1 wr w4 Wx w6:World} {r:Rho} {acc:List TyT} {vs:List Value}
/-- A new block beside. -/
theorem WasT.fresh (h:WasT Vol b g m cap W0 w1 wr r S c acc vs) (hb:Below wr.heap.size wr w4) (h1:wr.heap.size≤S2) (h2:S2 < w4.heap.size):WasT (fun k=>Vol k ∨ k=S2) b g m cap W0 w1 w4 r S c acc vs:=by
 have hwr:∀ k,(Vol k ∨ k=S)→k < wr.heap.size:=fun k e=>(h.ls.2.2.1 k e).2
 have hw0:=h.ls.2.2.2.size
 have hnew:∀ k,k < wr.heap.size→((Vol k ∨ k=S2) ∨ k=S)→(Vol k ∨ k=S):=fun k hk e=>by
  rcases e with (e | e) | e
  ·exact .inl e
  ·omega
  ·exact .inr e
 refine ⟨own_belowN h.own hb,h.len,fun i p1 p2=>TyE.step _ _ _ _ _ _ (h.els i p1 p2) (Kb.of_below hb) hnew,h.ls.go (h.ls.1.wide hb hnew (fun k e=>e.elim (fun e=>.inl (.inl e)) .inr)) h.ls.2.1 (Kb.of_below hb) hnew (fun k e=>?_),fun e=>?_,h.lo⟩
 ·have:=hb.size
  rcases e with (e | e) | e
  ·have:=hwr k (.inl e);omega
  ·omega
  ·have:=hwr k (.inr e);omega
 ·rcases e with e | e
  ·exact h.nS e
  ·have:=hwr S (.inr rfl);omega
/-- The other row has grown. -/
theorem WasT.moved {g2:Nat} {cur:Array Value} (h:WasT (fun k=>Vol k ∨ k=S2) b g m cap W0 w1 Wx r S c acc vs) (hb2:Wx.heap[S2]?=some (.cells cur 32 (0,0))) (hg:Wx.grownBy w6 (some S2)) (hat:some S2=some g2 ∨ g2=Wx.heap.size) (h6:g2 < w6.heap.size):WasT (fun k=>Vol k ∨ k=g2) b g m cap W0 w1 w6 r S c acc vs:=by
 have hvg:Vol g:=by
  rcases h.vol.1 with e | e
  ·exact e
  ·exfalso
   obtain ⟨cs,q⟩:=h.ls.grow
   rw [e,hb2] at q
   injection q with q
   injection q with _ ht
   exact absurd ht (by decide)
 have k6:Kb (fun k=>k=S2) Wx w6:=⟨hg.os,hg.tape,hg.output,hg.size,fun k hk hn=>hg.block k hk (fun e=>hn (by injection e))⟩
 have hSS:S ≠ S2:=fun e=>h.nS (.inr e)
 have hSl:=(h.ls.2.2.1 S (.inr rfl)).2
 have hnew:∀ k,k < Wx.heap.size→((Vol k ∨ k=g2) ∨ k=S)→((Vol k ∨ k=S2) ∨ k=S):=fun k hk e=>by
  rcases e with (e | e) | e
  ·exact .inl (.inl e)
  ·rcases hat with e3 | e3
   ·injection e3 with e3;exact .inl (.inr (e.trans e3.symm))
   ·omega
  ·exact .inr e
 have hkV:Kb (fun k=>(Vol k ∨ k=S2) ∨ k=S) Wx w6:=k6.wider (fun k _ e=>.inl (.inr e))
 have hst:=h.ls.1.swap k6 (fun k (e:k=S2)=>⟨.inl (.inr e),cur,(0,0),e ▸ hb2⟩) hnew (.inl (.inl hvg)) (fun k e=>by
  rcases e with (e | e) | e
  ·exact .inl (.inl (.inl e))
  ·exact .inr ⟨cur,(0,0),e ▸ hb2⟩
  ·exact .inl (.inr e))
 refine ⟨own_kb h.own k6 (fun k e (e2:k=S2)=>by
  have e3:S=k:=by injection e
  exact hSS (e3.trans e2)),h.len,fun i p1 p2=>TyE.step _ _ _ _ _ _ (h.els i p1 p2) hkV hnew,h.ls.go hst h.ls.2.1 hkV hnew (fun k e=>?_),fun e=>?_,h.lo⟩
 ·rcases e with (e | e) | e
  ·have:=(h.ls.2.2.1 k (.inl (.inl e))).2;have:=hg.size;omega
  ·omega
  ·have:=(h.ls.2.2.1 k (.inr e)).2;have:=hg.size;omega
 ·rcases e with e | e
  ·exact h.nS (.inl e)
  ·rcases hat with e3 | e3
   ·injection e3 with e3;exact hSS (e.trans e3.symm)
   ·omega
end
end Lx
end Go.Proofs.YtiamniljgdjakaaDoor
