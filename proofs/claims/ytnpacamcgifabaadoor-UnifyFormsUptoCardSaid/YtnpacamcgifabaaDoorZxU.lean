/- Types and declared types that come in, opened to their trees, with what they weigh, and how long the texts of types are. Conditions: each list of the datum is one that memory holds. -/
/- From what the row of UnifyForms lists of the package variables to what its walk asks of them; and a world in which they hold what their initialisers lay. No conditions. -/
import Derived.Test.YtnpacamcgifabaaDoorUv
import Derived.Test.YtnpacamcgifabaaDoorZxO
import Derived.Lib.ItoaLen
import Derived.Lib.AppendIntMem
namespace Go.Proofs.YtnpacamcgifabaaDoor
set_option linter.unusedSimpArgs false
set_option linter.unusedVariables false
namespace Lx
open Go Go.ChangeShapes Go.WideShapes Go.ChangeAt Go.Deep Go.RowKit
mutual
/-- What a type weighs: its parts and the letters of its names. -/
def wtT:TyT→Nat
 | .mk _ s _ l=>s.size+3+wtTs l
def wtTs:List TyT→Nat
 | []=>0
 | x :: l=>wtT x+wtTs l
end
mutual
theorem size_wt:∀ x:TyT,sizeT x≤wtT x
 | .mk k s n l=>by
  rw [sizeT,wtT]
  have:=sizes_wt l
  omega
theorem sizes_wt:∀ l:List TyT,sizeTs l≤wtTs l
 | []=>by rw [sizeTs];exact Nat.zero_le _
 | x :: l=>by
  rw [sizeTs,wtTs]
  have h1:=size_wt x
  have h2:=sizes_wt l
  omega
end
theorem itoa_wf {n:Int} (h:wfI n):(Lib.itoa n).length≤21:=by
 unfold wfI at h
 simp [Lit.wf] at h
 have h1:IntKind.i64.min=-9223372036854775808:=by decide
 have h2:IntKind.i64.max=9223372036854775807:=by decide
 exact Lib.itoa_length_le n (by omega) (by omega)
mutual
theorem text_wt:∀ x:TyT,wfT x→(txT x).length+2≤30 * wtT x
 | .mk k s n l,h=>by
  have h1:=texts_wt l true h.2
  have h2:=itoa_wf h.1
  have h3:s.data.toList.length=s.size:=by simp
  rw [txT,wtT]
  by_cases k1:k=1
  ·rw [if_pos k1]
   simp only [List.length_cons,List.length_nil]
   omega
  ·rw [if_neg k1]
   by_cases k3:k=3
   ·rw [if_pos k3]
    omega
   ·rw [if_neg k3]
    by_cases k4:k=4
    ·rw [if_pos k4,List.length_cons]
     omega
    ·rw [if_neg k4]
     by_cases k2:k=2
     ·rw [if_pos k2,List.length_append,List.length_append]
      have h4:(if l.length=0 then ([]:List UInt8) else [41]).length≤1:=by
       by_cases h0:l.length=0
       ·rw [if_pos h0];exact Nat.zero_le _
       ·rw [if_neg h0];exact Nat.le_refl _
      omega
     ·rw [if_neg k2,List.length_nil]
      omega
theorem texts_wt:∀ (l:List TyT) (b:Bool),wfTs l→(txs b l).length≤30 * wtTs l
 | [],_,_=>by rw [txs];exact Nat.zero_le _
 | x :: l,b,h=>by
  have h1:=text_wt x h.1
  have h2:=texts_wt l false h.2
  rw [txs,wtTs,List.length_append,List.length_append]
  have h4:(if b=true then ([40]:List UInt8) else [44,32]).length≤2:=by
   cases b
   ·exact Nat.le_refl _
   ·exact Nat.le_succ _
  omega
end
theorem wtTs_mem:∀ {l:List TyT} {x:TyT},x ∈ l→wtT x≤wtTs l
 | y :: l,x,h=>by
  rw [wtTs]
  rcases List.mem_cons.1 h with rfl | h
  ·omega
  ·have:=wtTs_mem h
   omega
mutual
def wtE:ExT→Nat
 | .mk _ s l=>s.size+2+wtEs l
def wtEs:List ExT→Nat
 | []=>0
 | x :: l=>wtE x+wtEs l
end
mutual
theorem sizeE_wt:∀ x:ExT,sizeE x≤wtE x
 | .mk b s l=>by
  rw [sizeE,wtE]
  have:=sizesE_wt l
  omega
theorem sizesE_wt:∀ l:List ExT,sizeEs l≤wtEs l
 | []=>by rw [sizeEs];exact Nat.zero_le _
 | x :: l=>by
  rw [sizeEs,wtEs]
  have h1:=sizeE_wt x
  have h2:=sizesE_wt l
  omega
end
mutual
theorem name_wt:∀ (x:ExT) (n:ByteArray),n ∈ nmE x→n.size≤wtE x
 | .mk b s l,n,h=>by
  rw [nmE] at h
  rw [wtE]
  cases b
  ·rw [if_neg (by decide)] at h
   have:=names_wt l n h
   omega
  ·rw [if_pos rfl] at h
   obtain rfl:=List.mem_singleton.1 h
   omega
theorem names_wt:∀ (l:List ExT) (n:ByteArray),n ∈ nmEs l→n.size≤wtEs l
 | [],n,h=>by
  rw [nmEs] at h
  exact absurd h (List.not_mem_nil)
 | x :: l,n,h=>by
  rw [nmEs] at h
  rw [wtEs]
  rcases List.mem_append.1 h with h | h
  ·have:=name_wt x n h
   omega
  ·have:=names_wt l n h
   omega
end
theorem wts_bulk {H:Type}:∀ (l:List TyT) (ds:List (DataW H)),l.length=ds.length→(∀ (i:Nat) (h:i < l.length) (h':i < ds.length),wtT l[i]≤Rows.uptoBulk ds[i])→wtTs l≤Rows.uptoBulkAll ds
 | [],[],_,_=>by rw [wtTs];exact Nat.zero_le _
 | [],_ :: _,h,_=>by simp at h
 | _ :: _,[],h,_=>by simp at h
 | x :: l,d :: ds,h,hh=>by
  have h1:=hh 0 (by simp) (by simp)
  have h2:=wts_bulk l ds (by simpa using h) (fun i h h'=>hh (i+1) (by simpa using h) (by simpa using h'))
  simp only [List.getElem_cons_zero] at h1
  rw [wtTs,Rows.uptoBulkAll]
  omega
theorem wtsE_bulk {H:Type}:∀ (l:List ExT) (ds:List (DataW H)),l.length=ds.length→(∀ (i:Nat) (h:i < l.length) (h':i < ds.length),wtE l[i]≤Rows.uptoBulk ds[i])→wtEs l≤Rows.uptoBulkAll ds
 | [],[],_,_=>by rw [wtEs];exact Nat.zero_le _
 | [],_ :: _,h,_=>by simp at h
 | _ :: _,[],h,_=>by simp at h
 | x :: l,d :: ds,h,hh=>by
  have h1:=hh 0 (by simp) (by simp)
  have h2:=wtsE_bulk l ds (by simpa using h) (fun i h h'=>hh (i+1) (by simpa using h) (by simpa using h'))
  simp only [List.getElem_cons_zero] at h1
  rw [wtEs,Rows.uptoBulkAll]
  omega
theorem wfTs_of:∀ l:List TyT,(∀ (i:Nat) (h:i < l.length),wfT l[i])→wfTs l
 | [],_=>trivial
 | x :: l,h=>⟨h 0 (by simp),wfTs_of l (fun i hi=>h (i+1) (by simpa using hi))⟩
theorem ExW.up:∀ (d:Nat) (Vol:Nat→Prop) (x:ExT) (v:Value) (w:World),ExW d Vol x v w→ExW (d+1) Vol x v w
 | 0,_,_,_,_,h=>h.elim
 | d+1,Vol,.mk b s l,v,w,⟨va,hv,h⟩=>⟨va,hv,RowW.imp (fun x v h=>ExW.up d Vol x v w h) h⟩
theorem tyCellsF (n:Nat) (Vol:Nat→Prop) (x:TyT) (v:Value) (w:World) (h:TyW n Vol x v w):(cellsL v).length=4:=by
 obtain ⟨A,l,c,rfl⟩:=h.this
 rfl
theorem exCells (n:Nat) (Vol:Nat→Prop) (x:ExT) (v:Value) (w:World) (h:ExW n Vol x v w):(cellsL v).length=3:=by
 obtain ⟨A,l,c,rfl⟩:=h.this
 rfl
theorem cellsEx3:Tryd.prog.cellsOf 53=3:=by kernel_rfl
theorem bulk_twoF {H:Type} {a b:DataW H} (hk:Rows.uptoSmall H ([a,b]++[])=true):Rows.uptoBulk a≤1048576∧Rows.uptoBulk b≤1048576:=by
 have h:=of_decide_eq_true hk
 simp only [List.append_nil,Rows.uptoBulkAll] at h
 omega
section
variable {H:Type} {enc:TypeId × Value→H} {P:Program} {w:World} {base:Nat} {spare:Nat→Bool} {held:Bool}
theorem trod_struct3 {t:TypeId} {f0 f1 f2:Field} {fuel:Nat} {cs:List Value} {x:DataW H × List MemPlace} (ht:P.underlying t=some (.struct #[f0,f1,f2])) (h:DataW.trod enc P w base spare held fuel t cs=some x) :
  ∃ y0 y1 y2 n,fuel=n+1∧x=(.agg [y0.1,y1.1,y2.1],y0.2++(y1.2++y2.2))∧cs.length=P.cellsOf t∧DataW.trod enc P w base spare held n f0.type ((cs.drop f0.offset).take (P.cellsOf f0.type))=some y0 ∧
   DataW.trod enc P w base spare held n f1.type ((cs.drop f1.offset).take (P.cellsOf f1.type))=some y1∧DataW.trod enc P w base spare held n f2.type ((cs.drop f2.offset).take (P.cellsOf f2.type))=some y2:=by
 obtain ⟨xs,n,hf,rfl,hl,hlen,hx⟩:=DataW.trod_struct ht h
 match xs,hlen with
 | [y0,y1,y2],_=>exact ⟨y0,y1,y2,n,hf,by simp,hl,by simpa using hx 0 f0 rfl,by simpa using hx 1 f1 rfl,by simpa using hx 2 f2 rfl⟩
/-- A row that comes in, opened by how its parts are opened. -/
theorem open_row {α:Type} (dflt:α) {sz:Nat} {t e:TypeId} (V:Nat→HoldW α) (G:α→DataW H→Prop) (hsz:0 < sz) (hut:P.underlying t=some (.slice e)) (hc:P.cellsOf e=sz)
  (hup:∀ n Vol x v w,V n Vol x v w→V (n+1) Vol x v w) (hcells:∀ n Vol x v w,V n Vol x v w→(cellsL v).length=sz)
  (fuel:Nat) (v:Value) (x:DataW H × List MemPlace) (h:DataW.trod enc P w base spare held fuel t [v]=some x) (hz:∀ z ∈ x.1.weights P t,z≤reachBytes)
  (hopen:∀ n,n < fuel→∀ cs y,DataW.trod enc P w base spare held n e cs=some y→(∀ z ∈ y.1.weights P e,z≤reachBytes)→∃ (X:α) (u:Value),cs=cellsL u∧V n (fun _=>False) X u w∧G X y.1) :
  ∃ (l:List α) (ds:List (DataW H)),RowW sz (V fuel) (fun _=>False) l v w∧l.length=ds.length∧(∀ (i:Nat) (h:i < l.length) (h':i < ds.length),G l[i] ds[i])∧l.length * P.bytesOf e≤140737488355328∧Rows.uptoBulkAll ds≤Rows.uptoBulk x.1:=by
 rcases DataW.trod_slice hut h with ⟨e3,_⟩ | ⟨a,len,cap,elems,rest,n',rfl,e3,rfl,hb,hlc,hcm,hlen,hel,_,_⟩
 ·obtain rfl:=(List.cons.inj e3).1
  exact ⟨[],[],RowW.nil _ _,rfl,fun i h=>by simp at h,by simp,by simp [Rows.uptoBulkAll]⟩
 ·obtain rfl:=(List.cons.inj e3).1
  dsimp only at hz ⊢
  have hwt:∀ z,(z=(elems.length+rest.length) * P.bytesOf e ∨ ∃ d ∈ elems.map (·.1),z ∈ d.weights P e)→z≤reachBytes:=by
   intro z hz'
   refine hz z ?_
   simp only [DataW.weights,hut,List.mem_cons,List.mem_append,List.length_map]
   rcases hz' with rfl | ⟨d,hd,hz'⟩
   ·exact .inl rfl
   ·exact .inr (.inl (weights_all_mem hd hz'))
  have hone:∀ i,i < len→∃ (u:α × Value),V n' (fun _=>False) u.1 u.2 w∧(∀ (h:i < elems.length),G u.1 elems[i].1)∧∀ j,j < sz→w.cell? ((a.add (i * sz)).add j)=(cellsL u.2)[j]?:=by
   intro i hi
   have hk:=hel i hi
   rw [hc] at hk
   rw [List.getElem?_eq_getElem (by omega),Option.bind_eq_some_iff] at hk
   obtain ⟨cs',hc',ht⟩:=hk
   obtain ⟨T,v,e,hT,hG⟩:=hopen n' (by omega) cs' _ ht (fun z hz'=>hwt z (.inr ⟨_,List.mem_map.2 ⟨elems[i],List.getElem_mem _,rfl⟩,hz'⟩))
   obtain ⟨_,_,hcell⟩:=World.cells?_some hc'
   exact ⟨(T,v),hT,fun _=>hG,fun j hj=>by rw [hcell j hj,e]⟩
  haveI:Inhabited (α × Value):=⟨(dflt,undef)⟩
  obtain ⟨q,hq⟩:=choose_lt (n:=len) (p:=fun i (u:α × Value)=>V n' (fun _=>False) u.1 u.2 w∧(∀ (h:i < elems.length),G u.1 elems[i].1)∧∀ j,j < sz→w.cell? ((a.add (i * sz)).add j)=(cellsL u.2)[j]?) hone
  have hle:len * P.bytesOf e≤140737488355328:=by
   have h1:=hwt _ (.inl rfl)
   have h2:len * P.bytesOf e≤(elems.length+rest.length) * P.bytesOf e:=Nat.mul_le_mul_right _ (by omega)
   simp only [reachBytes] at h1
   omega
  refine ⟨(List.range len).map fun i=>(q i).1,elems.map (·.1),⟨some a,cap,by simp,by simpa using hlc,hcm,fun i hi=>?_⟩,by simp;omega,fun i hi hi'=>?_,by simpa using hle,?_⟩
  ·have hi':i < len:=by simpa using hi
   obtain ⟨g1,_,g3⟩:=hq i hi'
   obtain ⟨g10,_,g0⟩:=hq 0 (by omega)
   have hl0:=hcells _ _ _ _ _ g10
   have hc0:=g0 0 hsz
   rw [List.getElem?_eq_getElem (by omega)] at hc0
   have hc1:w.cell? ((a.add (0 * sz)).add 0)=some ((cellsL (q 0).2)[0]'(by omega)):=hc0
   rw [Nat.zero_mul] at hc1
   have hsp:a.spot=none:=World.cell?_spot (a:=a) (by simpa [Addr.add] using hc1)
   obtain ⟨b,o,sp⟩:=a
   have hsp:sp=none:=hsp
   subst hsp
   rw [add_none,add_none] at hc1
   refine ⟨b,o,(q i).2,rfl,World.block_lt_of_cell? _ _ hc1,fun e=>e,?_,fun j hj=>?_⟩
   ·have e2:((List.range len).map fun i=>(q i).1)[i]=(q i).1:=by simp
    rw [e2]
    exact hup _ _ _ _ _ g1
   ·rw [← g3 j hj,add_none,add_none]
  ·have h3:i < len:=by simpa using hi
   simp only [List.getElem_map,List.getElem_range]
   exact (hq i h3).2.1 (by omega)
  ·simp only [Rows.uptoBulk]
   omega
end
section
variable {H:Type} {enc:TypeId × Value→H} {w:World} {base:Nat} {spare:Nat→Bool} {held:Bool}
def FullT (T:TyT) (d:DataW H):Prop:=fewT T∧wfT T∧wtT T≤Rows.uptoBulk d
set_option maxRecDepth 100000 in
theorem open_tyF:∀ (fuel:Nat) (cs:List Value) (x:DataW H × List MemPlace),DataW.trod enc Tryd.prog w base spare held fuel 32 cs=some x→(∀ z ∈ x.1.weights Tryd.prog 32,z≤reachBytes) →
  ∃ (T:TyT) (v:Value),cs=cellsL v∧TyW fuel (fun _=>False) T v w∧FullT T x.1:=by
 intro fuel
 induction fuel using Nat.strongRecOn with
 | _ fuel ih =>
 intro cs x h hz
 obtain ⟨y0,y1,y2,y3,n,rfl,rfl,hl,h0,h1,h2,h3⟩:=trod_struct4 Tryd.underlying32 h
 rw [cellsTy4] at hl
 match cs,hl with
 | [c0,c1,c2,c3],_ =>
 have h0:DataW.trod enc Tryd.prog w base spare held n 3 [c0]=some y0:=h0
 have h1:DataW.trod enc Tryd.prog w base spare held n 9 [c1]=some y1:=h1
 have h2:DataW.trod enc Tryd.prog w base spare held n 3 [c2]=some y2:=h2
 have h3:DataW.trod enc Tryd.prog w base spare held n 27 [c3]=some y3:=h3
 obtain ⟨k,e0,x0,wk⟩:=DataW.trod_int Tryd.underlying3 h0
 obtain ⟨s,e1,x1,_⟩:=DataW.trod_string Tryd.underlying9 h1
 obtain ⟨m,e2,x2,wm⟩:=DataW.trod_int Tryd.underlying3 h2
 obtain rfl:=(List.cons.inj e0).1
 obtain rfl:=(List.cons.inj e1).1
 obtain rfl:=(List.cons.inj e2).1
 subst x0
 subst x1
 subst x2
 have hz3:∀ z ∈ y3.1.weights Tryd.prog 27,z≤reachBytes:=fun z hz'=>by
  refine hz z ?_
  simp only [DataW.weights,Tryd.underlying32]
  exact DataW.weights_mem_each (j:=3) rfl rfl z hz'
 obtain ⟨l,ds,hrow,hlen,hG,hb,hbulk⟩:=open_row (.mk 0 ⟨#[]⟩ 0 []) TyW FullT (by decide) Tryd.underlying27 cellsTy4 TyW.up tyCellsF n c3 y3 h3 hz3 (fun n' hn'=>ih n' (by omega))
 rw [bytesTy] at hb
 refine ⟨.mk k s m l,_,rfl,⟨_,rfl,hrow⟩,⟨hb,fewTs_of _ (fun i hi=>(hG i hi (by omega)).1)⟩,⟨wm,wfTs_of _ (fun i hi=>(hG i hi (by omega)).2.1)⟩,?_⟩
 have h4:=wts_bulk l ds hlen (fun i hi hi'=>(hG i hi hi').2.2)
 have h5:s.data.toList.length=s.size:=by simp
 rw [wtT]
 simp only [Rows.uptoBulk,Rows.uptoBulkAll]
 omega
def FullE (X:ExT) (d:DataW H):Prop:=wtE X≤Rows.uptoBulk d
set_option maxRecDepth 100000 in
theorem open_exF:∀ (fuel:Nat) (cs:List Value) (x:DataW H × List MemPlace),DataW.trod enc Tryd.prog w base spare held fuel 53 cs=some x→(∀ z ∈ x.1.weights Tryd.prog 53,z≤reachBytes) →
  ∃ (T:ExT) (v:Value),cs=cellsL v∧ExW fuel (fun _=>False) T v w∧FullE T x.1:=by
 intro fuel
 induction fuel using Nat.strongRecOn with
 | _ fuel ih =>
 intro cs x h hz
 obtain ⟨y0,y1,y2,n,rfl,rfl,hl,h0,h1,h2⟩:=trod_struct3 Tryd.underlying53 h
 rw [cellsEx3] at hl
 match cs,hl with
 | [c0,c1,c2],_ =>
 have h0:DataW.trod enc Tryd.prog w base spare held n 4 [c0]=some y0:=h0
 have h1:DataW.trod enc Tryd.prog w base spare held n 9 [c1]=some y1:=h1
 have h2:DataW.trod enc Tryd.prog w base spare held n 48 [c2]=some y2:=h2
 obtain ⟨k,e0,x0⟩:=DataW.trod_bool Tryd.underlying4 h0
 obtain ⟨s,e1,x1,_⟩:=DataW.trod_string Tryd.underlying9 h1
 obtain rfl:=(List.cons.inj e0).1
 obtain rfl:=(List.cons.inj e1).1
 subst x0
 subst x1
 have hz3:∀ z ∈ y2.1.weights Tryd.prog 48,z≤reachBytes:=fun z hz'=>by
  refine hz z ?_
  simp only [DataW.weights,Tryd.underlying53]
  exact DataW.weights_mem_each (j:=2) rfl rfl z hz'
 obtain ⟨l,ds,hrow,hlen,hG,hb,hbulk⟩:=open_row (.mk false ⟨#[]⟩ []) ExW FullE (by decide) Tryd.underlying48 cellsEx3 ExW.up exCells n c2 y2 h2 hz3 (fun n' hn'=>ih n' (by omega))
 refine ⟨.mk k s l,_,rfl,⟨_,rfl,hrow⟩,?_⟩
 have h4:=wtsE_bulk l ds hlen hG
 have h5:s.data.toList.length=s.size:=by simp
 unfold FullE
 rw [wtE]
 simp only [Rows.uptoBulk,Rows.uptoBulkAll]
 omega
end
end Lx
end Go.Proofs.YtnpacamcgifabaaDoor
namespace Go.Proofs.YtnpacamcgifabaaDoor
set_option linter.unusedSimpArgs false
set_option linter.unusedVariables false
namespace Lx
open Go Go.ChangeShapes Go.WideShapes Go.ChangeAt Go.RowKit
theorem gPow : Tryd.prog.globalNamed "internal/strconv.uint64pow10" = some 16 := by kernel_rfl
theorem gPowT:(Tryd.prog.globals[16]?).map (·.type)=some 155:=by kernel_rfl
theorem cellsPow:Tryd.prog.cellsOf 155=20:=by kernel_rfl
theorem cellsU64:Tryd.prog.cellsOf 133=1:=by kernel_rfl
def laidF : Laid := [("math/bits.deBruijn32tab", Rows.laid_math_bits_deBruijn32tab), ("math/bits.deBruijn64tab", Rows.laid_math_bits_deBruijn64tab), ("internal/strconv.uint64pow10", Rows.laid_internal_strconv_uint64pow10), ("augur/api.ErrLarge", Rows.laid_augur_api_ErrLarge), ("augur/api.ErrTypes", Rows.laid_augur_api_ErrTypes), ("augur/api.ErrState", Rows.laid_augur_api_ErrState)]
theorem met_of_HF {W:World} (h:laidMetH Tryd.prog laidF W):laidMet Tryd.prog laidF W:=by
 unfold laidMetH at h
 rw [show (laidF.filter fun x=>x.2.handleName?.isSome)=[] from by kernel_rfl] at h
 exact h
theorem pow_data {H:Type}:(Rows.laid_internal_strconv_uint64pow10:DataW H)=Lib.tabData .u64 Lib.pow10Tab:=by
 simp [Rows.laid_internal_strconv_uint64pow10,Lib.tabData,Lib.pow10Tab,List.range_succ]
theorem env_ofF {W : World} (hH : laidMetH Tryd.prog laidF W) : (∃ f, ErrU f W) ∧ Lib.TabBelow Tryd.prog W.heap.size W "internal/strconv.uint64pow10" .u64 Lib.pow10Tab := by
 have h:=met_of_HF hH
 unfold laidF at h
 have h1:=tl h
 have h2:=tl h1
 have h3:=tl h2
 have h4:=tl h3
 have h5:=tl h4
 rw [pow_data] at h2
 obtain ⟨al,hl⟩:=sent_of h3 gLarge gLargeT
 obtain ⟨at_,ht⟩:=sent_of h4 gTypes gTypesT
 obtain ⟨as_,hs⟩:=sent_of h5 gState gStateT
 have hp:=Lib.tabIs_of_head gPow gPowT Tryd.underlying155 Tryd.underlying133 cellsU64 cellsPow h2
 exact ⟨⟨fun i=>if i=0 then al else if i=1 then as_ else at_,⟨hl,hs,ht⟩⟩,Lib.tabBelow_of_tabIs hp⟩
def dataCF:DataW Unit→Array Value
 | .agg l=>(l.map fun
  | .lit (.int k z)=>.int k z
  | _=>undef).toArray
 | _=>#[]
noncomputable def laidWorldF (os:Os):World :=
 let w0:=World.holding Tryd.prog os ⟨#[esB Rows.laid_augur_api_ErrLarge,esB Rows.laid_augur_api_ErrTypes,esB Rows.laid_augur_api_ErrState],#[],[]⟩
 { w0 with heap:=(((((w0.heap.modify 17 (putC (dataCF Rows.laid_math_bits_deBruijn32tab))).modify 18 (putC (dataCF Rows.laid_math_bits_deBruijn64tab))).modify 16 (putC (dataCF Rows.laid_internal_strconv_uint64pow10))).modify 0 (esP 0)).modify 3 (esP 1)).modify 1 (esP 2) }
end Lx
end Go.Proofs.YtnpacamcgifabaaDoor
