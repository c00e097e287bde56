/- A type that comes in, opened to its tree; the three errors out of what a row lists. Conditions: each list of the datum is one that memory holds. -/
import Derived.Test.YtnpacamcgifabaaDoorUt
import Derived.Test.YtnpacamcgifabaaDoorCards
import Derived.Test.YtnpacamcgifabaaDoorTie
import Derived.ProofKit
import Derived.OpenShut
import Derived.Deep.DeepHandedRow
import Derived.Deep.DeepWitnessRowRef
import Derived.Deep.DeepLaidRun
import Derived.Lib.LaidTab
import Derived.Stop.LaidErr
import Derived.SevenTiedAt
import Derived.Deep.Slices
import Derived.SizedLaws
namespace Go.Proofs.YtnpacamcgifabaaDoor
set_option linter.unusedSimpArgs false
set_option linter.unusedVariables false
namespace Lx
open Go Go.ChangeShapes Go.WideShapes Go.ChangeAt Go.Deep Go.RowKit
theorem cellsTy4:Tryd.prog.cellsOf 32=4:=by kernel_rfl
theorem cellsI1:Tryd.prog.cellsOf 3=1:=by kernel_rfl
theorem cellsS1:Tryd.prog.cellsOf 9=1:=by kernel_rfl
theorem cellsL1:Tryd.prog.cellsOf 27=1:=by kernel_rfl
theorem bytesTy:Tryd.prog.bytesOf 32=56:=by kernel_rfl
section
variable {H:Type} {enc:TypeId × Value→H} {P:Program} {w:World} {base:Nat} {spare:Nat→Bool} {held:Bool}
theorem trod_struct4 {t:TypeId} {f0 f1 f2 f3:Field} {fuel:Nat} {cs:List Value} {x:DataW H × List MemPlace} (ht:P.underlying t=some (.struct #[f0,f1,f2,f3])) (h:DataW.trod enc P w base spare held fuel t cs=some x) :
  ∃ y0 y1 y2 y3 n,fuel=n+1∧x=(.agg [y0.1,y1.1,y2.1,y3.1],y0.2++(y1.2++(y2.2++y3.2)))∧cs.length=P.cellsOf t∧DataW.trod enc P w base spare held n f0.type ((cs.drop f0.offset).take (P.cellsOf f0.type))=some y0 ∧
   DataW.trod enc P w base spare held n f1.type ((cs.drop f1.offset).take (P.cellsOf f1.type))=some y1∧DataW.trod enc P w base spare held n f2.type ((cs.drop f2.offset).take (P.cellsOf f2.type))=some y2∧DataW.trod enc P w base spare held n f3.type ((cs.drop f3.offset).take (P.cellsOf f3.type))=some y3:=by
 obtain ⟨xs,n,hf,rfl,hl,hlen,hx⟩:=DataW.trod_struct ht h
 match xs,hlen with
 | [y0,y1,y2,y3],_=>exact ⟨y0,y1,y2,y3,n,hf,by simp,hl,by simpa using hx 0 f0 rfl,by simpa using hx 1 f1 rfl,by simpa using hx 2 f2 rfl,by simpa using hx 3 f3 rfl⟩
theorem weights_all_mem {e:TypeId} {z:Nat} {d:DataW H}:∀ {l:List (DataW H)},d ∈ l→z ∈ d.weights P e→z ∈ DataW.weightsAll P e l
 | [],h,_=>by simp at h
 | a :: l,h,hz=>by
  simp only [DataW.weightsAll,List.mem_append]
  rcases List.mem_cons.1 h with rfl | h
  ·exact .inl hz
  ·exact .inr (weights_all_mem h hz)
end
section
variable {H:Type} {enc:TypeId × Value→H} {w:World} {base:Nat} {spare:Nat→Bool} {held:Bool}
theorem RowW.imp {α:Type} {sz:Nat} {V V':HoldW α} {Vol:Nat→Prop} {w:World} (hVV:∀ x v,V Vol x v w→V' Vol x v w) {l:List α} {v:Value} (h:RowW sz V Vol l v w):RowW sz V' Vol l v w:=by
 obtain ⟨A,c,rfl,h1,h2,h3⟩:=h
 exact ⟨A,c,rfl,h1,h2,fun i hi=>by
  obtain ⟨b,off,vi,e1,e2,e3,e4,e5⟩:=h3 i hi
  exact ⟨b,off,vi,e1,e2,e3,hVV _ _ e4,e5⟩⟩
theorem TyW.up:∀ (d:Nat) (Vol:Nat→Prop) (x:TyT) (v:Value) (w:World),TyW d Vol x v w→TyW (d+1) Vol x v w
 | 0,_,_,_,_,h=>h.elim
 | d+1,Vol,.mk k s n l,v,w,⟨va,hv,h⟩=>⟨va,hv,RowW.imp (fun x v h=>TyW.up d Vol x v w h) h⟩
theorem add_none (b o n:Nat):(⟨b,o,none⟩:Addr).add n=⟨b,o+n,none⟩:=by
 by_cases h:n=0
 ·subst h;rfl
 ·simp [Addr.add,h]
theorem fewTs_of:∀ l:List TyT,(∀ (i:Nat) (h:i < l.length),fewT l[i])→fewTs l
 | [],_=>trivial
 | x :: l,h=>⟨h 0 (by simp),fewTs_of l (fun i hi=>h (i+1) (by simpa using hi))⟩
set_option maxRecDepth 100000 in
theorem open_ty:∀ (fuel:Nat) (cs:List Value) (x:DataW H × List MemPlace),DataW.trod enc Tryd.prog w base spare held fuel 32 cs=some x→(∀ z ∈ x.1.weights Tryd.prog 32,z≤reachBytes) →
  ∃ (T:TyT) (v:Value),cs=cellsL v∧TyW fuel (fun _=>False) T v w∧fewT T:=by
 intro fuel
 induction fuel using Nat.strongRecOn with
 | _ fuel ih =>
 intro cs x h hz
 obtain ⟨y0,y1,y2,y3,n,rfl,rfl,hl,h0,h1,h2,h3⟩:=trod_struct4 Tryd.underlying32 h
 rw [cellsTy4] at hl
 match cs,hl with
 | [c0,c1,c2,c3],_ =>
 have h0:DataW.trod enc Tryd.prog w base spare held n 3 [c0]=some y0:=h0
 have h1:DataW.trod enc Tryd.prog w base spare held n 9 [c1]=some y1:=h1
 have h2:DataW.trod enc Tryd.prog w base spare held n 3 [c2]=some y2:=h2
 have h3:DataW.trod enc Tryd.prog w base spare held n 27 [c3]=some y3:=h3
 obtain ⟨k,e0,_,_⟩:=DataW.trod_int Tryd.underlying3 h0
 obtain ⟨s,e1,_,_⟩:=DataW.trod_string Tryd.underlying9 h1
 obtain ⟨m,e2,_,_⟩:=DataW.trod_int Tryd.underlying3 h2
 obtain rfl:=(List.cons.inj e0).1
 obtain rfl:=(List.cons.inj e1).1
 obtain rfl:=(List.cons.inj e2).1
 rcases DataW.trod_slice Tryd.underlying27 h3 with ⟨e3,_⟩ | ⟨a,len,cap,elems,rest,n',rfl,e3,rfl,hb,hlc,hcm,hlen,hel,_,_⟩
 ·obtain rfl:=(List.cons.inj e3).1
  exact ⟨.mk k s m [],_,rfl,⟨_,rfl,RowW.nil _ _⟩,⟨by simp,trivial⟩⟩
 ·obtain rfl:=(List.cons.inj e3).1
  have hwt:∀ z,(z=(elems.length+rest.length) * 56 ∨ ∃ d ∈ elems.map (·.1),z ∈ d.weights Tryd.prog 32)→z≤reachBytes:=by
   intro z hz'
   refine hz z ?_
   have hm:z ∈ DataW.weights Tryd.prog 27 (.slice (elems.map (·.1)) (rest.map (·.1))):=by
    simp only [DataW.weights,Tryd.underlying27,List.mem_cons,List.mem_append,List.length_map,bytesTy]
    rcases hz' with rfl | ⟨d,hd,hz'⟩
    ·exact .inl rfl
    ·exact .inr (.inl (weights_all_mem hd hz'))
   show z ∈ DataW.weights Tryd.prog 32 (.agg [y0.1,y1.1,y2.1,_])
   simp only [DataW.weights,Tryd.underlying32]
   exact DataW.weights_mem_each (j:=3) rfl rfl z hm
  have hone:∀ i,i < len→∃ (T:TyT) (v:Value),TyW n' (fun _=>False) T v w∧fewT T∧∀ j,j < 4→w.cell? ((a.add (i * 4)).add j)=(cellsL v)[j]?:=by
   intro i hi
   have hk:=hel i hi
   rw [cellsTy4] at hk
   rw [List.getElem?_eq_getElem (by omega),Option.bind_eq_some_iff] at hk
   obtain ⟨cs',hc,ht⟩:=hk
   obtain ⟨T,v,e,hT,hF⟩:=ih n' (by omega) cs' _ ht (fun z hz'=>hwt z (.inr ⟨_,List.mem_map.2 ⟨elems[i],List.getElem_mem _,rfl⟩,hz'⟩))
   obtain ⟨_,_,hcell⟩:=World.cells?_some hc
   exact ⟨T,v,hT,hF,fun j hj=>by rw [hcell j hj,e]⟩
  haveI:Inhabited (TyT × Value):=⟨(.mk 0 ⟨#[]⟩ 0 [],undef)⟩
  obtain ⟨q,hq⟩:=choose_lt (n:=len) (p:=fun i (u:TyT × Value)=>TyW n' (fun _=>False) u.1 u.2 w∧fewT u.1∧∀ j,j < 4→w.cell? ((a.add (i * 4)).add j)=(cellsL u.2)[j]?) (fun i hi=>by
   obtain ⟨T,v,h⟩:=hone i hi
   exact ⟨(T,v),h⟩)
  have hle:len * 56≤140737488355328:=by
   have h1:=hwt _ (.inl rfl)
   have h2:len * 56≤(elems.length+rest.length) * 56:=Nat.mul_le_mul_right _ (by omega)
   simp only [reachBytes] at h1
   omega
  refine ⟨.mk k s m ((List.range len).map fun i=>(q i).1),_,rfl,⟨_,rfl,some a,cap,by simp,by simpa using hlc,hcm,fun i hi=>?_⟩,⟨by simpa using hle,fewTs_of _ (fun i hi=>?_)⟩⟩
  ·have hi':i < len:=by simpa using hi
   obtain ⟨g1,_,g3⟩:=hq i hi'
   obtain ⟨_,_,g0⟩:=hq 0 (by omega)
   obtain ⟨_,_,_,e0⟩:=(hq 0 (by omega)).1.this
   have hc0:=g0 0 (by decide)
   rw [e0] at hc0
   have hc1:w.cell? ((a.add (0 * 4)).add 0)=some (.int .i64 (q 0).1.kind):=hc0
   have hsp:a.spot=none:=World.cell?_spot (a:=a) (by simpa [Addr.add] using hc1)
   obtain ⟨b,o,sp⟩:=a
   have hsp:sp=none:=hsp
   subst hsp
   rw [Nat.zero_mul,add_none,add_none] at hc0
   have hc0':w.cell? ⟨b,o+0+0,none⟩=some (.int .i64 (q 0).1.kind):=hc0
   refine ⟨b,o,(q i).2,rfl,World.block_lt_of_cell? _ _ hc0',fun e=>e,?_,fun j hj=>?_⟩
   ·have e2:((List.range len).map fun i=>(q i).1)[i]=(q i).1:=by simp
    rw [e2]
    exact TyW.up _ _ _ _ _ g1
   ·rw [← g3 j hj,add_none,add_none]
  ·have hi':i < len:=by simpa using hi
   have e2:((List.range len).map fun i=>(q i).1)[i]=(q i).1:=by simp
   rw [e2]
   exact (hq i hi').2.1
end
/-! The errors. -/
theorem own:ownKnob Tryd.prog.godebug=none:=by kernel_rfl
theorem gLarge : Tryd.prog.globalNamed "augur/api.ErrLarge" = some 0 := by kernel_rfl
theorem gLargeT:(Tryd.prog.globals[0]?).map (·.type)=some 38:=by kernel_rfl
theorem gState : Tryd.prog.globalNamed "augur/api.ErrState" = some 1 := by kernel_rfl
theorem gStateT:(Tryd.prog.globals[1]?).map (·.type)=some 38:=by kernel_rfl
theorem gTypes : Tryd.prog.globalNamed "augur/api.ErrTypes" = some 3 := by kernel_rfl
theorem gTypesT:(Tryd.prog.globals[3]?).map (·.type)=some 38:=by kernel_rfl
theorem cellsES:Tryd.prog.cellsOf 178=1:=by kernel_rfl
theorem star : "*" ++ "errors.errorString" = "*errors.errorString" := by decide
theorem rowES (u : TypeId) (h : Tryd.prog.typeName? 3 u = some "*errors.errorString") : u = 163 :=
 typeName_ptr_named (nm := "errors.errorString") (by rw [star]; kernel_rfl) (by kernel_rfl) (by decide) u (by rw [star]; exact h)
abbrev Laid:=List (String × DataW Unit)
theorem tl {P:Program} {x:String × DataW Unit} {r:Laid} {w:World} (h:laidMet P (x :: r) w):laidMet P r w:=by
 obtain ⟨n,d⟩:=x
 obtain ⟨ps,⟨g,t,cs,fuel,p,q,_,_,_,_,hq,rfl⟩,hn,hr⟩:=h
 exact ⟨q,hq,(List.nodup_append.1 hn).2.1,fun b off hb=>hr b off (List.mem_append_right _ hb)⟩
theorem sent_of {n : String} {text : List UInt8} {r : Laid} {W : World} {g : Nat} (h : laidMet Tryd.prog ((n, .iface "*errors.errorString" (.ptr (.agg [.lit (.string text)]))) :: r) W)
  (hg:Tryd.prog.globalNamed n=some g) (ht:(Tryd.prog.globals[g]?).map (·.type)=some 38):∃ a,W.cell? ⟨g,0,none⟩=some (.iface 163 (.pointer (some a))):=by
 obtain ⟨a,s,hv,_⟩:=laid_sentinel h hg ht Tryd.underlying38 rowES Tryd.underlying163 Tryd.underlying178 rfl rfl Tryd.underlying9 cellsES cellsS1
 exact ⟨a,by have h0:=World.var?_cell hg hv 0;simpa using h0⟩
def laidU : Laid := [("augur/api.ErrLarge", Rows.laid_augur_api_ErrLarge), ("augur/api.ErrTypes", Rows.laid_augur_api_ErrTypes), ("augur/api.ErrState", Rows.laid_augur_api_ErrState)]
theorem met_of_H {W:World} (h:laidMetH Tryd.prog laidU W):laidMet Tryd.prog laidU W:=by
 unfold laidMetH at h
 rw [show (laidU.filter fun x=>x.2.handleName?.isSome)=[] from by kernel_rfl] at h
 exact h
theorem env_ofU {W:World} (hH:laidMetH Tryd.prog laidU W):∃ f,ErrU f W:=by
 have h:=met_of_H hH
 unfold laidU at h
 have h1:=tl h
 have h2:=tl h1
 obtain ⟨al,hl⟩:=sent_of h gLarge gLargeT
 obtain ⟨at_,ht⟩:=sent_of h1 gTypes gTypesT
 obtain ⟨as_,hs⟩:=sent_of h2 gState gStateT
 exact ⟨fun i=>if i=0 then al else if i=1 then as_ else at_,⟨hl,hs,ht⟩⟩
/-! A world in which the listed variables hold what their initialisers lay. -/
def putC (cs:Array Value):Obj→Obj
 | .cells _ t frozen=>.cells cs t frozen
 | o=>o
def textC:DataW Unit→Array Value
 | .iface _ (.ptr (.agg [.lit (.string l)]))=>#[.string ⟨l.toArray⟩]
 | _=>#[]
noncomputable def low:Nat:=(World.holding Tryd.prog default ⟨#[],#[],[]⟩).heap.size
def esB (d:DataW Unit):Obj:=.cells (textC d) 178
noncomputable def esP (i:Nat):Obj→Obj:=putC #[.iface 163 (.pointer (some ⟨low+i,0,none⟩))]
noncomputable def laidWorld (os:Os):World :=
 let w0:=World.holding Tryd.prog os ⟨#[esB Rows.laid_augur_api_ErrLarge,esB Rows.laid_augur_api_ErrTypes,esB Rows.laid_augur_api_ErrState],#[],[]⟩
 { w0 with heap:=((w0.heap.modify 0 (esP 0)).modify 3 (esP 1)).modify 1 (esP 2) }
end Lx
end Go.Proofs.YtnpacamcgifabaaDoor
