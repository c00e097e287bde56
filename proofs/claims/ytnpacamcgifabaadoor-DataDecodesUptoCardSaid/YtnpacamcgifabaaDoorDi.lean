/- Data that come in, opened to their trees; the errors out of what a row lists. Conditions: each list of the datum is one that memory holds. -/
import Derived.Test.YtnpacamcgifabaaDoorDg
import Derived.Test.YtnpacamcgifabaaDoorCards
import Derived.Test.YtnpacamcgifabaaDoorTie
import Derived.ProofKit
import Derived.OpenShut
import Derived.Deep.DeepHandedRow
import Derived.Deep.DeepWitnessRowRef
import Derived.Deep.DeepLaidRun
import Derived.Lib.LaidTab
import Derived.Stop.LaidErr
import Derived.SevenTiedAt
import Derived.Deep.Slices
import Derived.SizedLaws
namespace Go.Proofs.YtnpacamcgifabaaDoor
set_option linter.unusedSimpArgs false
set_option linter.unusedVariables false
namespace Lx
open Go Go.ChangeShapes Go.WideShapes Go.ChangeAt Go.Deep Go.RowKit
theorem cellsDa4:Tryd.prog.cellsOf 68=4:=by kernel_rfl
theorem cellsS1:Tryd.prog.cellsOf 9=1:=by kernel_rfl
section
variable {H:Type} {enc:TypeId × Value→H} {P:Program} {w:World} {base:Nat} {spare:Nat→Bool} {held:Bool}
theorem trod_struct4 {t:TypeId} {f0 f1 f2 f3:Field} {fuel:Nat} {cs:List Value} {x:DataW H × List MemPlace} (ht:P.underlying t=some (.struct #[f0,f1,f2,f3])) (h:DataW.trod enc P w base spare held fuel t cs=some x) :
  ∃ y0 y1 y2 y3 n,fuel=n+1∧x=(.agg [y0.1,y1.1,y2.1,y3.1],y0.2++(y1.2++(y2.2++y3.2)))∧cs.length=P.cellsOf t∧DataW.trod enc P w base spare held n f0.type ((cs.drop f0.offset).take (P.cellsOf f0.type))=some y0 ∧
   DataW.trod enc P w base spare held n f1.type ((cs.drop f1.offset).take (P.cellsOf f1.type))=some y1∧DataW.trod enc P w base spare held n f2.type ((cs.drop f2.offset).take (P.cellsOf f2.type))=some y2∧DataW.trod enc P w base spare held n f3.type ((cs.drop f3.offset).take (P.cellsOf f3.type))=some y3:=by
 obtain ⟨xs,n,hf,rfl,hl,hlen,hx⟩:=DataW.trod_struct ht h
 match xs,hlen with
 | [y0,y1,y2,y3],_=>exact ⟨y0,y1,y2,y3,n,hf,by simp,hl,by simpa using hx 0 f0 rfl,by simpa using hx 1 f1 rfl,by simpa using hx 2 f2 rfl,by simpa using hx 3 f3 rfl⟩
theorem weights_all_mem {e:TypeId} {z:Nat} {d:DataW H}:∀ {l:List (DataW H)},d ∈ l→z ∈ d.weights P e→z ∈ DataW.weightsAll P e l
 | [],h,_=>by simp at h
 | a :: l,h,hz=>by
  simp only [DataW.weightsAll,List.mem_append]
  rcases List.mem_cons.1 h with rfl | h
  ·exact .inl hz
  ·exact .inr (weights_all_mem h hz)
end
section
variable {H:Type} {enc:TypeId × Value→H} {w:World} {base:Nat} {spare:Nat→Bool} {held:Bool}
theorem RowW.imp {α:Type} {sz:Nat} {V V':HoldW α} {Vol:Nat→Prop} {w:World} (hVV:∀ x v,V Vol x v w→V' Vol x v w) {l:List α} {v:Value} (h:RowW sz V Vol l v w):RowW sz V' Vol l v w:=by
 obtain ⟨A,c,rfl,h1,h2,h3⟩:=h
 exact ⟨A,c,rfl,h1,h2,fun i hi=>by
  obtain ⟨b,off,vi,e1,e2,e3,e4,e5⟩:=h3 i hi
  exact ⟨b,off,vi,e1,e2,e3,hVV _ _ e4,e5⟩⟩
theorem DaW.up:∀ (d:Nat) (Vol:Nat→Prop) (x:DaT) (v:Value) (w:World),DaW d Vol x v w→DaW (d+1) Vol x v w
 | 0,_,_,_,_,h=>h.elim
 | d+1,Vol,.mk c n s l,v,w,⟨va,hv,h⟩=>⟨va,hv,RowW.imp (fun x v h=>DaW.up d Vol x v w h) h⟩
theorem DaW.ups {d d':Nat} (h:d≤d') {Vol:Nat→Prop} {x:DaT} {v:Value} {w:World} (hx:DaW d Vol x v w):DaW d' Vol x v w:=by
 induction h with
 | refl=>exact hx
 | step _ ih=>exact DaW.up _ _ _ _ _ ih
theorem add_none (b o n:Nat):(⟨b,o,none⟩:Addr).add n=⟨b,o+n,none⟩:=by
 by_cases h:n=0
 ·subst h;rfl
 ·simp [Addr.add,h]
end
section
variable {H:Type} {enc:TypeId × Value→H} {P:Program} {w:World} {base:Nat} {spare:Nat→Bool} {held:Bool}
/-- A row that comes in, opened by how its parts are opened. -/
theorem open_row {α:Type} (dflt:α) {sz:Nat} {t e:TypeId} (V:Nat→HoldW α) (G:α→DataW H→Prop) (hsz:0 < sz) (hut:P.underlying t=some (.slice e)) (hc:P.cellsOf e=sz)
  (hup:∀ n Vol x v w,V n Vol x v w→V (n+1) Vol x v w) (hcells:∀ n Vol x v w,V n Vol x v w→(cellsL v).length=sz)
  (fuel:Nat) (v:Value) (x:DataW H × List MemPlace) (h:DataW.trod enc P w base spare held fuel t [v]=some x) (hz:∀ z ∈ x.1.weights P t,z≤reachBytes)
  (hopen:∀ n,n < fuel→∀ cs y,DataW.trod enc P w base spare held n e cs=some y→(∀ z ∈ y.1.weights P e,z≤reachBytes)→∃ (X:α) (u:Value),cs=cellsL u∧V n (fun _=>False) X u w∧G X y.1) :
  ∃ (l:List α) (ds:List (DataW H)),RowW sz (V fuel) (fun _=>False) l v w∧l.length=ds.length∧(∀ (i:Nat) (h:i < l.length) (h':i < ds.length),G l[i] ds[i])∧l.length * P.bytesOf e≤140737488355328∧Rows.uptoBulkAll ds≤Rows.uptoBulk x.1:=by
 rcases DataW.trod_slice hut h with ⟨e3,_⟩ | ⟨a,len,cap,elems,rest,n',rfl,e3,rfl,hb,hlc,hcm,hlen,hel,_,_⟩
 ·obtain rfl:=(List.cons.inj e3).1
  exact ⟨[],[],RowW.nil _ _,rfl,fun i h=>by simp at h,by simp,by simp [Rows.uptoBulkAll]⟩
 ·obtain rfl:=(List.cons.inj e3).1
  dsimp only at hz ⊢
  have hwt:∀ z,(z=(elems.length+rest.length) * P.bytesOf e ∨ ∃ d ∈ elems.map (·.1),z ∈ d.weights P e)→z≤reachBytes:=by
   intro z hz'
   refine hz z ?_
   simp only [DataW.weights,hut,List.mem_cons,List.mem_append,List.length_map]
   rcases hz' with rfl | ⟨d,hd,hz'⟩
   ·exact .inl rfl
   ·exact .inr (.inl (weights_all_mem hd hz'))
  have hone:∀ i,i < len→∃ (u:α × Value),V n' (fun _=>False) u.1 u.2 w∧(∀ (h:i < elems.length),G u.1 elems[i].1)∧∀ j,j < sz→w.cell? ((a.add (i * sz)).add j)=(cellsL u.2)[j]?:=by
   intro i hi
   have hk:=hel i hi
   rw [hc] at hk
   rw [List.getElem?_eq_getElem (by omega),Option.bind_eq_some_iff] at hk
   obtain ⟨cs',hc',ht⟩:=hk
   obtain ⟨T,v,e,hT,hG⟩:=hopen n' (by omega) cs' _ ht (fun z hz'=>hwt z (.inr ⟨_,List.mem_map.2 ⟨elems[i],List.getElem_mem _,rfl⟩,hz'⟩))
   obtain ⟨_,_,hcell⟩:=World.cells?_some hc'
   exact ⟨(T,v),hT,fun _=>hG,fun j hj=>by rw [hcell j hj,e]⟩
  haveI:Inhabited (α × Value):=⟨(dflt,undef)⟩
  obtain ⟨q,hq⟩:=choose_lt (n:=len) (p:=fun i (u:α × Value)=>V n' (fun _=>False) u.1 u.2 w∧(∀ (h:i < elems.length),G u.1 elems[i].1)∧∀ j,j < sz→w.cell? ((a.add (i * sz)).add j)=(cellsL u.2)[j]?) hone
  have hle:len * P.bytesOf e≤140737488355328:=by
   have h1:=hwt _ (.inl rfl)
   have h2:len * P.bytesOf e≤(elems.length+rest.length) * P.bytesOf e:=Nat.mul_le_mul_right _ (by omega)
   simp only [reachBytes] at h1
   omega
  refine ⟨(List.range len).map fun i=>(q i).1,elems.map (·.1),⟨some a,cap,by simp,by simpa using hlc,hcm,fun i hi=>?_⟩,by simp;omega,fun i hi hi'=>?_,by simpa using hle,?_⟩
  ·have hi':i < len:=by simpa using hi
   obtain ⟨g1,_,g3⟩:=hq i hi'
   obtain ⟨g10,_,g0⟩:=hq 0 (by omega)
   have hl0:=hcells _ _ _ _ _ g10
   have hc0:=g0 0 hsz
   rw [List.getElem?_eq_getElem (by omega)] at hc0
   have hc1:w.cell? ((a.add (0 * sz)).add 0)=some ((cellsL (q 0).2)[0]'(by omega)):=hc0
   rw [Nat.zero_mul] at hc1
   have hsp:a.spot=none:=World.cell?_spot (a:=a) (by simpa [Addr.add] using hc1)
   obtain ⟨b,o,sp⟩:=a
   have hsp:sp=none:=hsp
   subst hsp
   rw [add_none,add_none] at hc1
   refine ⟨b,o,(q i).2,rfl,World.block_lt_of_cell? _ _ hc1,fun e=>e,?_,fun j hj=>?_⟩
   ·have e2:((List.range len).map fun i=>(q i).1)[i]=(q i).1:=by simp
    rw [e2]
    exact hup _ _ _ _ _ g1
   ·rw [← g3 j hj,add_none,add_none]
  ·have h3:i < len:=by simpa using hi
   simp only [List.getElem_map,List.getElem_range]
   exact (hq i h3).2.1 (by omega)
  ·simp only [Rows.uptoBulk]
   omega
end
section
variable {H:Type} {enc:TypeId × Value→H} {w:World} {base:Nat} {spare:Nat→Bool} {held:Bool}
/-- Each number is one that a machine's integer holds. -/
def wfI (n:Int):Prop:=(Lit.int .i64 n).wf=true
mutual
def wfD:DaT→Prop
 | .mk _ n _ l=>wfI n∧wfDs l
def wfDs:List DaT→Prop
 | []=>True
 | x :: l=>wfD x∧wfDs l
end
theorem wfDs_of:∀ l:List DaT,(∀ (i:Nat) (h:i < l.length),wfD l[i])→wfDs l
 | [],_=>trivial
 | x :: l,h=>⟨h 0 (by simp),wfDs_of l (fun i hi=>h (i+1) (by simpa using hi))⟩
set_option maxRecDepth 100000 in
theorem open_da:∀ (fuel:Nat) (cs:List Value) (x:DataW H × List MemPlace),DataW.trod enc Tryd.prog w base spare held fuel 68 cs=some x→(∀ z ∈ x.1.weights Tryd.prog 68,z≤reachBytes) →
  ∃ (T:DaT) (v:Value),cs=cellsL v∧DaW fuel (fun _=>False) T v w∧wfD T:=by
 intro fuel
 induction fuel using Nat.strongRecOn with
 | _ fuel ih =>
 intro cs x h hz
 obtain ⟨y0,y1,y2,y3,n,rfl,rfl,hl,h0,h1,h2,h3⟩:=trod_struct4 Tryd.underlying68 h
 rw [cellsDa4] at hl
 match cs,hl with
 | [c0,c1,c2,c3],_ =>
 have h0:DataW.trod enc Tryd.prog w base spare held n 4 [c0]=some y0:=h0
 have h1:DataW.trod enc Tryd.prog w base spare held n 3 [c1]=some y1:=h1
 have h2:DataW.trod enc Tryd.prog w base spare held n 9 [c2]=some y2:=h2
 have h3:DataW.trod enc Tryd.prog w base spare held n 66 [c3]=some y3:=h3
 obtain ⟨k,e0,x0⟩:=DataW.trod_bool Tryd.underlying4 h0
 obtain ⟨m,e1,x1,wm⟩:=DataW.trod_int Tryd.underlying3 h1
 obtain ⟨s,e2,x2,_⟩:=DataW.trod_string Tryd.underlying9 h2
 obtain rfl:=(List.cons.inj e0).1
 obtain rfl:=(List.cons.inj e1).1
 obtain rfl:=(List.cons.inj e2).1
 have hz3:∀ z ∈ y3.1.weights Tryd.prog 66,z≤reachBytes:=fun z hz'=>by
  refine hz z ?_
  simp only [DataW.weights,Tryd.underlying68]
  exact DataW.weights_mem_each (j:=3) rfl rfl z hz'
 obtain ⟨l,ds,hrow,hlen,hG,_,_⟩:=open_row (.mk false 0 ⟨#[]⟩ []) DaW (fun T _=>wfD T) (by decide) Tryd.underlying66 cellsDa4 DaW.up daCells n c3 y3 h3 hz3 (fun n' hn'=>ih n' (by omega))
 exact ⟨.mk k m s l,_,rfl,⟨_,rfl,hrow⟩,⟨wm,wfDs_of _ (fun i hi=>hG i hi (by omega))⟩⟩
end
/-! The errors. -/
theorem own:ownKnob Tryd.prog.godebug=none:=by kernel_rfl
theorem gLarge : Tryd.prog.globalNamed "augur/api.ErrLarge" = some 0 := by kernel_rfl
theorem gLargeT:(Tryd.prog.globals[0]?).map (·.type)=some 38:=by kernel_rfl
theorem gData : Tryd.prog.globalNamed "augur/api.ErrData" = some 11 := by kernel_rfl
theorem gDataT:(Tryd.prog.globals[11]?).map (·.type)=some 38:=by kernel_rfl
theorem cellsES:Tryd.prog.cellsOf 178=1:=by kernel_rfl
theorem star : "*" ++ "errors.errorString" = "*errors.errorString" := by decide
theorem rowES (u : TypeId) (h : Tryd.prog.typeName? 3 u = some "*errors.errorString") : u = 163 :=
 typeName_ptr_named (nm := "errors.errorString") (by rw [star]; kernel_rfl) (by kernel_rfl) (by decide) u (by rw [star]; exact h)
abbrev Laid:=List (String × DataW Unit)
theorem tl {P:Program} {x:String × DataW Unit} {r:Laid} {w:World} (h:laidMet P (x :: r) w):laidMet P r w:=by
 obtain ⟨n,d⟩:=x
 obtain ⟨ps,⟨g,t,cs,fuel,p,q,_,_,_,_,hq,rfl⟩,hn,hr⟩:=h
 exact ⟨q,hq,(List.nodup_append.1 hn).2.1,fun b off hb=>hr b off (List.mem_append_right _ hb)⟩
theorem sent_of {n : String} {text : List UInt8} {r : Laid} {W : World} {g : Nat} (h : laidMet Tryd.prog ((n, .iface "*errors.errorString" (.ptr (.agg [.lit (.string text)]))) :: r) W)
  (hg:Tryd.prog.globalNamed n=some g) (ht:(Tryd.prog.globals[g]?).map (·.type)=some 38):∃ a,W.cell? ⟨g,0,none⟩=some (.iface 163 (.pointer (some a))):=by
 obtain ⟨a,s,hv,_⟩:=laid_sentinel h hg ht Tryd.underlying38 rowES Tryd.underlying163 Tryd.underlying178 rfl rfl Tryd.underlying9 cellsES cellsS1
 exact ⟨a,by have h0:=World.var?_cell hg hv 0;simpa using h0⟩
def laidD : Laid := [("augur/api.ErrLarge", Rows.laid_augur_api_ErrLarge), ("augur/api.ErrData", Rows.laid_augur_api_ErrData)]
theorem met_of_HD {W:World} (h:laidMetH Tryd.prog laidD W):laidMet Tryd.prog laidD W:=by
 unfold laidMetH at h
 rw [show (laidD.filter fun x=>x.2.handleName?.isSome)=[] from by kernel_rfl] at h
 exact h
theorem env_ofD {W:World} (hH:laidMetH Tryd.prog laidD W):∃ f,ErrD f W:=by
 have h:=met_of_HD hH
 unfold laidD at h
 have h1:=tl h
 obtain ⟨al,hl⟩:=sent_of h gLarge gLargeT
 obtain ⟨ad,hd⟩:=sent_of h1 gData gDataT
 exact ⟨fun i=>if i=0 then al else ad,⟨hl,hd⟩⟩
/-! A world in which the listed variables hold what their initialisers lay. -/
def putC (cs:Array Value):Obj→Obj
 | .cells _ t frozen=>.cells cs t frozen
 | o=>o
def textC:DataW Unit→Array Value
 | .iface _ (.ptr (.agg [.lit (.string l)]))=>#[.string ⟨l.toArray⟩]
 | _=>#[]
noncomputable def low:Nat:=(World.holding Tryd.prog default ⟨#[],#[],[]⟩).heap.size
def esB (d:DataW Unit):Obj:=.cells (textC d) 178
noncomputable def esP (i:Nat):Obj→Obj:=putC #[.iface 163 (.pointer (some ⟨low+i,0,none⟩))]
noncomputable def laidWorldD (os:Os):World :=
 let w0:=World.holding Tryd.prog os ⟨#[esB Rows.laid_augur_api_ErrLarge,esB Rows.laid_augur_api_ErrData],#[],[]⟩
 { w0 with heap:=(w0.heap.modify 0 (esP 0)).modify 11 (esP 1) }
end Lx
end Go.Proofs.YtnpacamcgifabaaDoor
