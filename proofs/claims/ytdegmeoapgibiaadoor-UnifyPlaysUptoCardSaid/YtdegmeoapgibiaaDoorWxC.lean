/- Types and pairs of types that come in, opened to their trees, with how many nodes they have. Conditions: each list of the datum is one that memory holds. -/
/- A row of pairs of types that comes in, opened. Conditions: each list of the datum is one that memory holds, and the whole is of bounded bulk. -/
import Derived.Test.YtdegmeoapgibiaaDoorUv
import Derived.Test.YtdegmeoapgibiaaDoorVy
namespace Go.Proofs.YtdegmeoapgibiaaDoor
set_option linter.unusedSimpArgs false
set_option linter.unusedVariables false
namespace Lx
open Go Go.ChangeShapes Go.WideShapes Go.ChangeAt Go.Deep Go.RowKit
theorem size_clean_le (k:Int) (s:ByteArray) (n:Int) (l:List TyT):sizeT (cleanT (.mk k s n l))≤1+sizeTs (cleanTs l):=by
 rw [cleanT]
 split
 ·rw [sizeT];omega
 ·split
  ·simp only [sizeT,sizeTs];omega
  ·split
   ·simp only [sizeT,sizeTs];omega
   ·simp only [sizeT,sizeTs];omega
theorem sizes_bulk {H:Type}:∀ (l:List TyT) (ds:List (DataW H)),l.length=ds.length→(∀ (i:Nat) (h:i < l.length) (h':i < ds.length),sizeT (cleanT l[i])≤Rows.uptoBulk ds[i])→sizeTs (cleanTs l)≤Rows.uptoBulkAll ds
 | [],[],_,_=>by simp [cleanTs,sizeTs]
 | [],_ :: _,h,_=>by simp at h
 | _ :: _,[],h,_=>by simp at h
 | x :: l,d :: ds,h,hh=>by
  have h1:=hh 0 (by simp) (by simp)
  have h2:=sizes_bulk l ds (by simpa using h) (fun i h h'=>hh (i+1) (by simpa using h) (by simpa using h'))
  simp only [List.getElem_cons_zero] at h1
  rw [cleanTs,sizeTs,Rows.uptoBulkAll]
  omega
section
variable {H:Type} {enc:TypeId × Value→H} {w:World} {base:Nat} {spare:Nat→Bool} {held:Bool}
set_option maxRecDepth 100000 in
theorem open_tyB:∀ (fuel:Nat) (cs:List Value) (x:DataW H × List MemPlace),DataW.trod enc Tryd.prog w base spare held fuel 32 cs=some x→(∀ z ∈ x.1.weights Tryd.prog 32,z≤reachBytes) →
  ∃ (T:TyT) (v:Value),cs=cellsL v∧TyW fuel (fun _=>False) T v w∧fewT T∧sizeT (cleanT T)≤Rows.uptoBulk x.1:=by
 intro fuel
 induction fuel using Nat.strongRecOn with
 | _ fuel ih =>
 intro cs x h hz
 obtain ⟨y0,y1,y2,y3,n,rfl,rfl,hl,h0,h1,h2,h3⟩:=trod_struct4 Tryd.underlying32 h
 rw [cellsTy4] at hl
 match cs,hl with
 | [c0,c1,c2,c3],_ =>
 have h0:DataW.trod enc Tryd.prog w base spare held n 3 [c0]=some y0:=h0
 have h1:DataW.trod enc Tryd.prog w base spare held n 9 [c1]=some y1:=h1
 have h2:DataW.trod enc Tryd.prog w base spare held n 3 [c2]=some y2:=h2
 have h3:DataW.trod enc Tryd.prog w base spare held n 27 [c3]=some y3:=h3
 obtain ⟨k,e0,_,_⟩:=DataW.trod_int Tryd.underlying3 h0
 obtain ⟨s,e1,_,_⟩:=DataW.trod_string Tryd.underlying9 h1
 obtain ⟨m,e2,_,_⟩:=DataW.trod_int Tryd.underlying3 h2
 obtain rfl:=(List.cons.inj e0).1
 obtain rfl:=(List.cons.inj e1).1
 obtain rfl:=(List.cons.inj e2).1
 rcases DataW.trod_slice Tryd.underlying27 h3 with ⟨e3,_⟩ | ⟨a,len,cap,elems,rest,n',rfl,e3,rfl,hb,hlc,hcm,hlen,hel,_,_⟩
 ·obtain rfl:=(List.cons.inj e3).1
  exact ⟨.mk k s m [],_,rfl,⟨_,rfl,RowW.nil _ _⟩,⟨by simp,trivial⟩,by have:=size_clean_le k s m [];simp only [cleanTs,sizeTs] at this;simp only [Rows.uptoBulk];omega⟩
 ·obtain rfl:=(List.cons.inj e3).1
  have hwt:∀ z,(z=(elems.length+rest.length) * 56 ∨ ∃ d ∈ elems.map (·.1),z ∈ d.weights Tryd.prog 32)→z≤reachBytes:=by
   intro z hz'
   refine hz z ?_
   have hm:z ∈ DataW.weights Tryd.prog 27 (.slice (elems.map (·.1)) (rest.map (·.1))):=by
    simp only [DataW.weights,Tryd.underlying27,List.mem_cons,List.mem_append,List.length_map,bytesTy]
    rcases hz' with rfl | ⟨d,hd,hz'⟩
    ·exact .inl rfl
    ·exact .inr (.inl (weights_all_mem hd hz'))
   show z ∈ DataW.weights Tryd.prog 32 (.agg [y0.1,y1.1,y2.1,_])
   simp only [DataW.weights,Tryd.underlying32]
   exact DataW.weights_mem_each (j:=3) rfl rfl z hm
  have hone:∀ i,i < len→∃ (T:TyT) (v:Value),TyW n' (fun _=>False) T v w∧fewT T∧(∀ (h:i < elems.length),sizeT (cleanT T)≤Rows.uptoBulk elems[i].1)∧∀ j,j < 4→w.cell? ((a.add (i * 4)).add j)=(cellsL v)[j]?:=by
   intro i hi
   have hk:=hel i hi
   rw [cellsTy4] at hk
   rw [List.getElem?_eq_getElem (by omega),Option.bind_eq_some_iff] at hk
   obtain ⟨cs',hc,ht⟩:=hk
   obtain ⟨T,v,e,hT,hF,hZ⟩:=ih n' (by omega) cs' _ ht (fun z hz'=>hwt z (.inr ⟨_,List.mem_map.2 ⟨elems[i],List.getElem_mem _,rfl⟩,hz'⟩))
   obtain ⟨_,_,hcell⟩:=World.cells?_some hc
   exact ⟨T,v,hT,hF,fun _=>hZ,fun j hj=>by rw [hcell j hj,e]⟩
  haveI:Inhabited (TyT × Value):=⟨(.mk 0 ⟨#[]⟩ 0 [],undef)⟩
  obtain ⟨q,hq⟩:=choose_lt (n:=len) (p:=fun i (u:TyT × Value)=>TyW n' (fun _=>False) u.1 u.2 w∧fewT u.1∧(∀ (h:i < elems.length),sizeT (cleanT u.1)≤Rows.uptoBulk elems[i].1)∧∀ j,j < 4→w.cell? ((a.add (i * 4)).add j)=(cellsL u.2)[j]?) (fun i hi=>by
   obtain ⟨T,v,h⟩:=hone i hi
   exact ⟨(T,v),h⟩)
  have hle:len * 56≤140737488355328:=by
   have h1:=hwt _ (.inl rfl)
   have h2:len * 56≤(elems.length+rest.length) * 56:=Nat.mul_le_mul_right _ (by omega)
   simp only [reachBytes] at h1
   omega
  refine ⟨.mk k s m ((List.range len).map fun i=>(q i).1),_,rfl,⟨_,rfl,some a,cap,by simp,by simpa using hlc,hcm,fun i hi=>?_⟩,⟨by simpa using hle,fewTs_of _ (fun i hi=>?_)⟩,?_⟩
  ·have hi':i < len:=by simpa using hi
   obtain ⟨g1,_,_,g3⟩:=hq i hi'
   obtain ⟨_,_,_,g0⟩:=hq 0 (by omega)
   obtain ⟨_,_,_,e0⟩:=(hq 0 (by omega)).1.this
   have hc0:=g0 0 (by decide)
   rw [e0] at hc0
   have hc1:w.cell? ((a.add (0 * 4)).add 0)=some (.int .i64 (q 0).1.kind):=hc0
   have hsp:a.spot=none:=World.cell?_spot (a:=a) (by simpa [Addr.add] using hc1)
   obtain ⟨b,o,sp⟩:=a
   have hsp:sp=none:=hsp
   subst hsp
   rw [Nat.zero_mul,add_none,add_none] at hc0
   have hc0':w.cell? ⟨b,o+0+0,none⟩=some (.int .i64 (q 0).1.kind):=hc0
   refine ⟨b,o,(q i).2,rfl,World.block_lt_of_cell? _ _ hc0',fun e=>e,?_,fun j hj=>?_⟩
   ·have e2:((List.range len).map fun i=>(q i).1)[i]=(q i).1:=by simp
    rw [e2]
    exact TyW.up _ _ _ _ _ g1
   ·rw [← g3 j hj,add_none,add_none]
  ·have hi':i < len:=by simpa using hi
   have e2:((List.range len).map fun i=>(q i).1)[i]=(q i).1:=by simp
   rw [e2]
   exact (hq i hi').2.1
  ·have h1:=size_clean_le k s m ((List.range len).map fun i=>(q i).1)
   have h2:=sizes_bulk ((List.range len).map fun i=>(q i).1) (elems.map (·.1)) (by simp;omega) (fun i hi hi'=>by
    have h3:i < len:=by simpa using hi
    simp only [List.getElem_map,List.getElem_range]
    exact (hq i h3).2.2.1 (by omega))
   simp only [Rows.uptoBulk,Rows.uptoBulkAll]
   omega
end
/-- A pair of types. -/
def PairW (d:Nat):HoldW (TyT × TyT):=fun Vol p v w=>∃ a0 a1 a2 a3 b0 b1 b2 b3,v=.agg #[a0,a1,a2,a3,b0,b1,b2,b3]∧TyW d Vol p.1 (.agg #[a0,a1,a2,a3]) w∧TyW d Vol p.2 (.agg #[b0,b1,b2,b3]) w
theorem PairW.step (d:Nat):StepW (PairW d):=by
 rintro Vol Vol' p v w w' ⟨a0,a1,a2,a3,b0,b1,b2,b3,rfl,h1,h2⟩ hk hv
 exact ⟨a0,a1,a2,a3,b0,b1,b2,b3,rfl,TyW.step d _ _ _ _ _ _ h1 hk hv,TyW.step d _ _ _ _ _ _ h2 hk hv⟩
theorem cellsPair8:Tryd.prog.cellsOf 35=8:=by kernel_rfl
theorem bytesPair:Tryd.prog.bytesOf 35=112:=by kernel_rfl
theorem trod_struct2 {H:Type} {enc:TypeId × Value→H} {P:Program} {w:World} {base:Nat} {spare:Nat→Bool} {held:Bool} {t:TypeId} {f0 f1:Field} {fuel:Nat} {cs:List Value} {x:DataW H × List MemPlace} (ht:P.underlying t=some (.struct #[f0,f1])) (h:DataW.trod enc P w base spare held fuel t cs=some x) :
  ∃ y0 y1 n,fuel=n+1∧x=(.agg [y0.1,y1.1],y0.2++y1.2)∧cs.length=P.cellsOf t∧DataW.trod enc P w base spare held n f0.type ((cs.drop f0.offset).take (P.cellsOf f0.type))=some y0 ∧
   DataW.trod enc P w base spare held n f1.type ((cs.drop f1.offset).take (P.cellsOf f1.type))=some y1:=by
 obtain ⟨xs,n,hf,rfl,hl,hlen,hx⟩:=DataW.trod_struct ht h
 match xs,hlen with
 | [y0,y1],_=>exact ⟨y0,y1,n,hf,by simp,hl,by simpa using hx 0 f0 rfl,by simpa using hx 1 f1 rfl⟩
section
variable {H:Type} {enc:TypeId × Value→H} {w:World} {base:Nat} {spare:Nat→Bool} {held:Bool}
set_option maxRecDepth 100000 in
theorem open_pair (fuel:Nat) (cs:List Value) (x:DataW H × List MemPlace) (h:DataW.trod enc Tryd.prog w base spare held fuel 35 cs=some x) (hz:∀ z ∈ x.1.weights Tryd.prog 35,z≤reachBytes) :
  ∃ (p:TyT × TyT) (v:Value),cs=cellsL v∧PairW fuel (fun _=>False) p v w∧fewT p.1∧fewT p.2∧sizeT (cleanT p.1)≤Rows.uptoBulk x.1∧sizeT (cleanT p.2)≤Rows.uptoBulk x.1:=by
 obtain ⟨y0,y1,n,rfl,rfl,hl,h0,h1⟩:=trod_struct2 Tryd.underlying35 h
 rw [cellsPair8] at hl
 match cs,hl with
 | [c0,c1,c2,c3,c4,c5,c6,c7],_ =>
 have h0:DataW.trod enc Tryd.prog w base spare held n 32 [c0,c1,c2,c3]=some y0:=h0
 have h1:DataW.trod enc Tryd.prog w base spare held n 32 [c4,c5,c6,c7]=some y1:=h1
 have w0:∀ z ∈ y0.1.weights Tryd.prog 32,z≤reachBytes:=fun z hz'=>by
  refine hz z ?_
  show z ∈ DataW.weights Tryd.prog 35 (.agg [y0.1,y1.1])
  simp only [DataW.weights,Tryd.underlying35]
  exact DataW.weights_mem_each (j:=0) rfl rfl z hz'
 have w1:∀ z ∈ y1.1.weights Tryd.prog 32,z≤reachBytes:=fun z hz'=>by
  refine hz z ?_
  show z ∈ DataW.weights Tryd.prog 35 (.agg [y0.1,y1.1])
  simp only [DataW.weights,Tryd.underlying35]
  exact DataW.weights_mem_each (j:=1) rfl rfl z hz'
 obtain ⟨T0,v0,e0,q0,q1,q2⟩:=open_tyB n _ _ h0 w0
 obtain ⟨T1,v1,e1,p0,p1,p2⟩:=open_tyB n _ _ h1 w1
 obtain ⟨A0,l0,m0,rfl⟩:=q0.this
 obtain ⟨A1,l1,m1,rfl⟩:=p0.this
 simp only [cellsL,Value.cells,List.cons.injEq,and_true] at e0 e1
 obtain ⟨rfl,rfl,rfl,rfl⟩:=e0
 obtain ⟨rfl,rfl,rfl,rfl⟩:=e1
 refine ⟨(T0,T1),.agg #[_,_,_,_,_,_,_,_],rfl,⟨_,_,_,_,_,_,_,_,rfl,TyW.up _ _ _ _ _ q0,TyW.up _ _ _ _ _ p0⟩,q1,p1,?_,?_⟩
 ·simp only [Rows.uptoBulk,Rows.uptoBulkAll];omega
 ·simp only [Rows.uptoBulk,Rows.uptoBulkAll];omega
end
end Lx
end Go.Proofs.YtdegmeoapgibiaaDoor
namespace Go.Proofs.YtdegmeoapgibiaaDoor
set_option linter.unusedSimpArgs false
set_option linter.unusedVariables false
namespace Lx
open Go Go.ChangeShapes Go.WideShapes Go.ChangeAt Go.Deep Go.RowKit
theorem bulk_mem {H:Type} {d:DataW H}:∀ {ds:List (DataW H)},d ∈ ds→Rows.uptoBulk d≤Rows.uptoBulkAll ds
 | [],h=>by simp at h
 | a :: l,h=>by
  rw [Rows.uptoBulkAll]
  rcases List.mem_cons.1 h with rfl | h
  ·omega
  ·have:=bulk_mem h;omega
theorem bulk_sliceN {H:Type} {l r:List (DataW H)} {N:Nat} (h:Rows.uptoBulk (.slice l r)≤N):Rows.uptoBulkAll l≤N:=by
 simp only [Rows.uptoBulk] at h
 omega
theorem bulk_snd {H:Type} {a b:DataW H} (hk:Rows.uptoSmall H ([a,b]++[])=true):Rows.uptoBulk b≤1048576:=by
 have h:=of_decide_eq_true hk
 simp only [List.append_nil,Rows.uptoBulkAll] at h
 omega
theorem pairCells {d:Nat}:∀ Vol x v w,PairW d Vol x v w→(cellsL v).length=8:=by
 rintro Vol x v w ⟨_,_,_,_,_,_,_,_,rfl,_⟩
 rfl
theorem PairW.up (d:Nat) (Vol:Nat→Prop) (p:TyT × TyT) (v:Value) (w:World):PairW d Vol p v w→PairW (d+1) Vol p v w:=by
 rintro ⟨a0,a1,a2,a3,b0,b1,b2,b3,rfl,h1,h2⟩
 exact ⟨a0,a1,a2,a3,b0,b1,b2,b3,rfl,TyW.up _ _ _ _ _ h1,TyW.up _ _ _ _ _ h2⟩
section
variable {H:Type} {enc:TypeId × Value→H} {w:World} {base:Nat} {spare:Nat→Bool} {held:Bool}
set_option maxRecDepth 100000 in
set_option maxHeartbeats 1000000 in
theorem open_pairs (fuel:Nat) (v:Value) (x:DataW H × List MemPlace) (h3:DataW.trod enc Tryd.prog w base spare held fuel 22 [v]=some x) (hz:∀ z ∈ x.1.weights Tryd.prog 22,z≤reachBytes) (hbk:Rows.uptoBulk x.1≤1048576) :
  ∃ l:List (TyT × TyT),RowW 8 (PairW fuel) (fun _=>False) l v w∧∀ p ∈ l,fewT p.1∧fewT p.2∧smallT p.1∧smallT p.2:=by
 rcases DataW.trod_slice Tryd.underlying22 h3 with ⟨e3,_⟩ | ⟨a,len,cap,elems,rest,n',rfl,e3,rfl,hb,hlc,hcm,hlen,hel,_,_⟩
 ·obtain rfl:=(List.cons.inj e3).1
  exact ⟨[],RowW.nil _ _,fun p hp=>by simp at hp⟩
 ·obtain rfl:=(List.cons.inj e3).1
  dsimp only at hz hbk
  have hwt:∀ z,(∃ d ∈ elems.map (·.1),z ∈ d.weights Tryd.prog 35)→z≤reachBytes:=by
   intro z hz'
   refine hz z ?_
   obtain ⟨d,hd,hz'⟩:=hz'
   simp only [DataW.weights,Tryd.underlying22,List.mem_cons,List.mem_append]
   exact .inr (.inl (weights_all_mem hd hz'))
  have hbe:=bulk_sliceN hbk
  have hone:∀ i,i < len→∃ (p:TyT × TyT) (v:Value),PairW n' (fun _=>False) p v w∧(fewT p.1∧fewT p.2∧smallT p.1∧smallT p.2)∧∀ j,j < 8→w.cell? ((a.add (i * 8)).add j)=(cellsL v)[j]?:=by
   intro i hi
   have hk:=hel i hi
   rw [cellsPair8] at hk
   rw [List.getElem?_eq_getElem (by omega),Option.bind_eq_some_iff] at hk
   obtain ⟨cs',hc,ht⟩:=hk
   have hmem:elems[i].1 ∈ elems.map (·.1):=List.mem_map.2 ⟨elems[i],List.getElem_mem _,rfl⟩
   obtain ⟨T,v,e,hT,q1,q2,q3,q4⟩:=open_pair n' cs' _ ht (fun z hz'=>hwt z ⟨_,hmem,hz'⟩)
   have hbm:=Nat.le_trans (bulk_mem hmem) hbe
   obtain ⟨_,_,hcell⟩:=World.cells?_some hc
   exact ⟨T,v,hT,⟨q1,q2,by unfold smallT;omega,by unfold smallT;omega⟩,fun j hj=>by rw [hcell j hj,e]⟩
  haveI:Inhabited ((TyT × TyT) × Value):=⟨((.mk 0 ⟨#[]⟩ 0 [],.mk 0 ⟨#[]⟩ 0 []),undef)⟩
  obtain ⟨q,hq⟩:=choose_lt (n:=len) (p:=fun i (u:(TyT × TyT) × Value)=>PairW n' (fun _=>False) u.1 u.2 w∧(fewT u.1.1∧fewT u.1.2∧smallT u.1.1∧smallT u.1.2)∧∀ j,j < 8→w.cell? ((a.add (i * 8)).add j)=(cellsL u.2)[j]?) (fun i hi=>by
   obtain ⟨T,v,h⟩:=hone i hi
   exact ⟨(T,v),h⟩)
  refine ⟨(List.range len).map fun i=>(q i).1,⟨some a,cap,by simp,by simpa using hlc,hcm,fun i hi=>?_⟩,fun p hp=>?_⟩
  ·have hi':i < len:=by simpa using hi
   obtain ⟨g1,_,g3⟩:=hq i hi'
   obtain ⟨g10,_,g0⟩:=hq 0 (by omega)
   obtain ⟨z0,z1,z2,z3,z4,z5,z6,z7,e0,_⟩:=g10
   have hc0:=g0 0 (by decide)
   rw [e0] at hc0
   have hc1:w.cell? ((a.add (0 * 8)).add 0)=some z0:=hc0
   have hsp:a.spot=none:=World.cell?_spot (a:=a) (by simpa [Addr.add] using hc1)
   obtain ⟨b,o,sp⟩:=a
   have hsp:sp=none:=hsp
   subst hsp
   rw [Nat.zero_mul,add_none,add_none] at hc0
   have hc0':w.cell? ⟨b,o+0+0,none⟩=some z0:=hc0
   refine ⟨b,o,(q i).2,rfl,World.block_lt_of_cell? _ _ hc0',fun e=>e,?_,fun j hj=>?_⟩
   ·have e2:((List.range len).map fun i=>(q i).1)[i]=(q i).1:=by simp
    rw [e2]
    exact PairW.up _ _ _ _ _ g1
   ·rw [← g3 j hj,add_none,add_none]
  ·obtain ⟨i,hi,rfl⟩:=List.mem_map.1 hp
   exact (hq i (List.mem_range.1 hi)).2.1
end
end Lx
end Go.Proofs.YtdegmeoapgibiaaDoor
