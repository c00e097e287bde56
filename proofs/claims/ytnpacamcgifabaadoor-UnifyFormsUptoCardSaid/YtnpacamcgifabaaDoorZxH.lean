/- Declared types as trees; the names of their variables, each once; the reference's Names. Conditions: as each states. -/
/- The reference: Names of declared types. Conditions: the types have at most two million nodes in all. -/
/- The program: variables and Names of declared types. Conditions: the types have at most two million nodes in all, their names fit the memory. -/
import Derived.Test.YtnpacamcgifabaaDoorZxD
import Derived.Laws.AppendOwnNone
import Derived.BigFrame
namespace Go.Proofs.YtnpacamcgifabaaDoor
set_option linter.unusedSimpArgs false
set_option linter.unusedVariables false
namespace Lx
open Go Go.RowKit
inductive ExT where
 | mk (b:Bool) (s:ByteArray) (l:List ExT)
def ExT.isVar:ExT→Bool | .mk b _ _=>b
def ExT.name:ExT→ByteArray | .mk _ s _=>s
def ExT.args:ExT→List ExT | .mk _ _ l=>l
def ExW:Nat→HoldW ExT
 | 0=>fun _ _ _ _=>False
 | d+1=>fun Vol x v w=>match x with
  | .mk b s l=>∃ va,v=.agg #[.bool b,.string s,va]∧RowW 3 (ExW d) Vol l va w
theorem ExW.step:∀ d,StepW (ExW d)
 | 0=>fun _ _ _ _ _ _ h _ _=>h.elim
 | d+1=>by
  rintro Vol Vol' ⟨b,s,l⟩ v w w' ⟨va,rfl,h⟩ hk hv
  exact ⟨va,rfl,RowW.step (ExW.step d) _ _ _ _ _ _ h hk hv⟩
theorem ExW.this {d:Nat} {Vol:Nat→Prop} {x:ExT} {v:Value} {w:World} (h:ExW d Vol x v w):∃ A n c,v=.agg #[.bool x.isVar,.string x.name,.slice A n c]:=by
 cases d with
 | zero=>exact h.elim
 | succ d =>
  obtain ⟨b,s,l⟩:=x
  obtain ⟨va,rfl,h1⟩:=h
  obtain ⟨A,c,rfl⟩:=h1.slice
  exact ⟨A,_,c,rfl⟩
theorem ExW.rowB {d:Nat} {Vol:Nat→Prop} {x:ExT} {b s va:Value} {w:World} (h:ExW d Vol x (.agg #[b,s,va]) w):∃ d',d' < d∧RowW 3 (ExW d') Vol x.args va w:=by
 cases d with
 | zero=>exact h.elim
 | succ d =>
  obtain ⟨b',s',l⟩:=x
  obtain ⟨va',e,h1⟩:=h
  injection e with e
  have e2:=congrArg (fun a:Array Value=>a[2]?) e
  have e3:va=va':=by simpa using e2
  exact ⟨d,Nat.lt_succ_self d,e3 ▸ h1⟩
mutual
def sizeE:ExT→Nat
 | .mk _ _ l=>1+sizeEs l
def sizeEs:List ExT→Nat
 | []=>0
 | x :: l=>sizeE x+sizeEs l
end
mutual
/-- The variables of declared types, as often as they stand. -/
def nmE:ExT→List ByteArray
 | .mk b s l=>if b=true then [s] else nmEs l
def nmEs:List ExT→List ByteArray
 | []=>[]
 | x :: l=>nmE x++nmEs l
end
/-- A further name, if it is new. -/
noncomputable def mets (out:List ByteArray) (n:ByteArray):List ByteArray:=@ite _ (n ∈ out) (Classical.propDecidable _) out (out++[n])
/-- Further numbers, each if it is new. -/
noncomputable def ds (out xs:List ByteArray):List ByteArray:=xs.foldl mets out
theorem ds_nil (out:List ByteArray):ds out []=out:=rfl
theorem ds_cons (out:List ByteArray) (x:ByteArray) (xs:List ByteArray):ds out (x :: xs)=ds (mets out x) xs:=rfl
theorem ds_app (out xs ys:List ByteArray):ds out (xs++ys)=ds (ds out xs) ys:=by simp [ds,List.foldl_append]
theorem ds_snoc (out xs:List ByteArray) (x:ByteArray):ds out (xs++[x])=mets (ds out xs) x:=by rw [ds_app];rfl
theorem mets_more (out:List ByteArray) (x:ByteArray):∃ zs,mets out x=out++zs:=by
 unfold mets
 split
 ·exact ⟨[],by simp⟩
 ·exact ⟨[x],rfl⟩
theorem mets_in (out:List ByteArray) (x:ByteArray):x ∈ mets out x:=by
 unfold mets
 split
 ·assumption
 ·simp
theorem ds_more:∀ (xs out:List ByteArray),∃ zs,ds out xs=out++zs
 | [],out=>⟨[],by simp [ds]⟩
 | x :: xs,out=>by
  obtain ⟨z1,h1⟩:=mets_more out x
  obtain ⟨z2,h2⟩:=ds_more xs (mets out x)
  exact ⟨z1++z2,by rw [ds_cons,h2,h1,List.append_assoc]⟩
theorem ds_in {xs out:List ByteArray} {x:ByteArray} (h:x ∈ out):x ∈ ds out xs:=by
 obtain ⟨zs,e⟩:=ds_more xs out
 rw [e];exact List.mem_append_left _ h
theorem mets_old {out:List ByteArray} {x:ByteArray} (h:x ∈ out):mets out x=out:=if_pos h
theorem ds_old:∀ (xs out:List ByteArray),(∀ x ∈ xs,x ∈ out)→ds out xs=out
 | [],_,_=>rfl
 | x :: xs,out,h=>by
  rw [ds_cons,mets_old (h x (List.mem_cons_self ..))]
  exact ds_old xs out (fun y hy=>h y (List.mem_cons_of_mem _ hy))
theorem ds_all:∀ (xs out:List ByteArray) (x:ByteArray),x ∈ xs→x ∈ ds out xs
 | y :: xs,out,x,h=>by
  rw [ds_cons]
  rcases List.mem_cons.1 h with rfl | h
  ·exact ds_in (mets_in out x)
  ·exact ds_all xs _ x h
theorem ds_from:∀ (xs out:List ByteArray) (x:ByteArray),x ∈ ds out xs→x ∈ out ∨ x ∈ xs
 | [],_,_,h=>.inl h
 | y :: xs,out,x,h=>by
  rw [ds_cons] at h
  rcases ds_from xs _ x h with h | h
  ·unfold mets at h
   split at h
   ·exact .inl h
   ·rcases List.mem_append.1 h with h | h
    ·exact .inl h
    ·exact .inr (List.mem_cons.2 (.inl (List.mem_singleton.1 h)))
  ·exact .inr (List.mem_cons_of_mem _ h)
/-- Numbers met elsewhere first, each once: the same. -/
theorem ds_ds:∀ (xs out acc:List ByteArray),ds out (ds acc xs)=ds (ds out acc) xs
 | [],_,_=>rfl
 | x :: xs,out,acc=>by
  rw [ds_cons,ds_ds xs out (mets acc x),ds_cons]
  congr 1
  by_cases h:x ∈ acc
  ·rw [mets_old h,mets_old (ds_all acc out x h)]
  ·rw [show mets acc x=acc++[x] from if_neg h,ds_snoc]
theorem ds_once (out xs:List ByteArray):ds out (ds [] xs)=ds out xs:=by rw [ds_ds,ds_nil]
theorem ds_few:∀ (xs out:List ByteArray),(ds out xs).length≤out.length+xs.length
 | [],out=>by simp [ds]
 | x :: xs,out=>by
  have h1:=ds_few xs (mets out x)
  have h2:(mets out x).length≤out.length+1:=by unfold mets;split <;> simp
  rw [ds_cons,List.length_cons]
  omega
mutual
theorem nmE_few:∀ t:ExT,(nmE t).length≤sizeE t
 | .mk b s l=>by
  have:=nmEs_few l
  rw [nmE,sizeE]
  split <;> simp <;> omega
theorem nmEs_few:∀ l:List ExT,(nmEs l).length≤sizeEs l
 | []=>by simp [nmEs]
 | x :: l=>by
  have h1:=nmE_few x
  have h2:=nmEs_few l
  rw [nmEs,sizeEs,List.length_append]
  omega
end
theorem nmEs_snoc:∀ (a:List ExT) (x:ExT),nmEs (a++[x])=nmEs a++nmE x
 | [],x=>by simp [nmEs]
 | y :: a,x=>by simp [nmEs,nmEs_snoc a x]
theorem sizeEs_mem:∀ {l:List ExT} {i:Nat} (h:i < l.length),sizeE l[i]≤sizeEs l
 | [],_,h=>by simp at h
 | x :: l,0,_=>by rw [sizeEs];exact Nat.le_add_right _ _
 | x :: l,i+1,h=>by
  have:=sizeEs_mem (l:=l) (i:=i) (by simpa using h)
  rw [sizeEs]
  simp only [List.getElem_cons_succ]
  omega
theorem sizeEs_snoc:∀ (a:List ExT) (x:ExT),sizeEs (a++[x])=sizeEs a+sizeE x
 | [],x=>by simp [sizeEs]
 | y :: a,x=>by simp [sizeEs,sizeEs_snoc a x,Nat.add_assoc]
theorem sizeEs_take (l:List ExT) (k:Nat):sizeEs (l.take k)≤sizeEs l:=by
 have h:sizeEs l=sizeEs (l.take k)+sizeEs (l.drop k):=by
  conv=>lhs;rw [← List.take_append_drop k l]
  generalize l.take k=a
  induction a with
  | nil=>simp [sizeEs]
  | cons x a ih=>simp only [List.cons_append,sizeEs];omega
 omega
/-- A text in a row of texts. -/
def StrH:HoldW ByteArray:=fun _ s v _=>v=.string s
theorem StrH.step:StepW StrH:=fun _ _ _ _ _ _ h _ _=>h
theorem strCells:∀ Vol x v w,StrH Vol x v w→(cellsL v).length=1:=by
 rintro Vol x v w rfl
 rfl
end Lx
end Go.Proofs.YtnpacamcgifabaaDoor
namespace Go.Proofs.YtnpacamcgifabaaDoor
set_option linter.unusedSimpArgs false
set_option linter.unusedVariables false
namespace Lx
open Go Go.RowKit
theorem infoStr:(Tryd.prog.info? 9).map (fun i=>(i.zero,i.size,i.bytes))=some (some (.string ⟨#[]⟩),1,16):=by kernel_rfl
/-- A row of texts of one's own. -/
def OwnS (B:Nat) (l:List ByteArray) (v:Value) (w:World):Prop:=w.ownsRow B 9 1 v l.length (l.map Value.string)
section
variable {B:Nat} {l:List ByteArray} {v:Value} {w w':World}
theorem OwnS.shape (h:OwnS B l v w):∃ A c,v=.slice A l.length c:=by
 rcases h.2 with ⟨rfl,h0⟩ | ⟨g,cap,cur,rfl,_⟩
 ·exact ⟨none,0,by rw [h0]⟩
 ·exact ⟨_,cap,rfl⟩
theorem OwnS.below (h:OwnS B l v w) (hb:Below w.heap.size w w'):OwnS B l v w':=own_belowN h hb
theorem OwnS.start (w:World):OwnS w.heap.size [] (.slice (some ⟨w.heap.size,0,none⟩) 0 0) (w.alloc (.cells #[] 9)) :=
 ⟨rfl,.inr ⟨w.heap.size,0,#[],rfl,Nat.le_refl _,heap_alloc_new _ _,Nat.le_refl _,Nat.zero_le _,rfl,rfl⟩⟩
theorem OwnS.row {Vol:Nat→Prop} (h:OwnS B l v w) (hv:∀ k,Vol k→k < B):RowW 1 StrH Vol l v w:=by
 have hcc:∃ A c,v=.slice A l.length c∧l.length≤c∧c≤maxLen:=by
  rcases h.2 with ⟨rfl,h0⟩ | ⟨g,cap,cur,rfl,_,_,h1,h2,_⟩
  ·exact ⟨none,0,by rw [h0],by omega,Nat.zero_le _⟩
  ·exact ⟨_,cap,rfl,h1,h2⟩
 obtain ⟨A,c,rfl,h1,h2⟩:=hcc
 refine ⟨A,c,rfl,h1,h2,fun i hi=>?_⟩
 rcases h.2 with ⟨_,e⟩ | ⟨g,cap',cur,e,hg,hb,_⟩
 ·omega
 ·injection e with e _ _
  subst e
  refine ⟨g,0,.string l[i],rfl,(Array.getElem?_eq_some_iff.1 hb).1,fun e=>by have:=hv g e;omega,rfl,fun j hj=>?_⟩
  obtain rfl:j=0:=by omega
  have h3:w.cell? ⟨g,i,none⟩=(l.map Value.string)[i]?:=h.cellAt i (by omega)
  rw [Nat.zero_add,Nat.mul_one,Nat.add_zero,h3,List.getElem?_map,List.getElem?_eq_getElem hi]
  rfl
theorem own_low {B2:Nat} (h:OwnS B l v w) (hb:B2≤B):OwnS B2 l v w:=by
 refine ⟨h.1,?_⟩
 rcases h.2 with h1 | ⟨g,cap,cur,e,h2,h3⟩
 ·exact .inl h1
 ·exact .inr ⟨g,cap,cur,e,Nat.le_trans hb h2,h3⟩
theorem below_grown {b:Nat} {a c d:World} {row:Option Nat} (h:Below b a c) (hg:c.grownBy d row) (hr:∀ k,row=some k→b≤k) (hb:b≤c.heap.size):Below b a d :=
 ⟨hg.os.trans h.os,hg.tape.trans h.tape,hg.output.trans h.output,Nat.le_trans h.size hg.size,fun j hj=>(hg.block j (by omega) (fun e=>by have:=hr j e.symm;omega)).trans (h.block j hj)⟩
end
/-- 'append(own, s)'. -/
theorem append_str {w:World} {ops:Array Oper} {rest:List Oper} {o:Oper} {a:Act} {Q:Exit→Act→World→Prop} (hgd:o.guard=none) (s x:Operand)
  (ho:o.op=.call { callee:=.builtin .append,args:=#[s,x],argTypes:=#[49,49] })
  (B:Nat) (l:List ByteArray) (v:Value) (hs:a.eval s=v) (hown:OwnS B l v w) (N:Nat) (n:ByteArray) (hx:a.eval x=.slice (some ⟨N,0,none⟩) 1 1) (hN:w.heap[N]?=some (.cells #[.string n] 9 (0,0))) (hl:l.length≤5000000) (hbase:B≤w.heap.size)
  (h:∀ A c w',OwnS B (l++[n]) (.slice A (l.length+1) c) w'→w.grownBy w' v.ownBlock→wpList Tryd.prog ops Q rest (a.put o.dst (.slice A (l.length+1) c)) w'):wpList Tryd.prog ops Q (o :: rest) a w:=by
 obtain ⟨i0,hi,hz0,hz1,hz2⟩:=info_parts infoStr
 refine wpList_append_lies w hgd s x 49 ho B 9 i0 _ 1 16 Tryd.underlying49 hi hz0 hz1 hz2 rfl (by decide) v l.length (l.map Value.string) hs hown ⟨N,0,none⟩ 1 1 [.string n] hx rfl (World.news_of_block (cs:=#[.string n]) hN) (by simp [Value.oneCell']) (by decide) (by unfold maxLen;omega) (by omega) hbase _ rfl ?_
 intro g cap w' h2 h3 _ _
 exact h _ cap w' (by unfold OwnS;simpa using h2) h3
/-- 'append(own, row...)'. -/
theorem append_strs {w:World} {ops:Array Oper} {rest:List Oper} {o:Oper} {a:Act} {Q:Exit→Act→World→Prop} (hw:Region.wanted o (yielded ops a.tmps)=true) (s x:Operand)
  (ho:o.op=.call { callee:=.builtin .append,args:=#[s,x],argTypes:=#[49,49] })
  (B:Nat) (l:List ByteArray) (v:Value) (hs:a.eval s=v) (hown:OwnS B l v w) (B2:Nat) (m:List ByteArray) (y:Value) (hx:a.eval x=y) (hy:OwnS B2 m y w) (hl:l.length+m.length≤5000000) (hbase:B≤w.heap.size)
  (h:∀ v' w',OwnS B (l++m) v' w'→w.grownBy w' v.ownBlock→wpList Tryd.prog ops Q rest (a.put o.dst v') w'):wpList Tryd.prog ops Q (o :: rest) a w:=by
 obtain ⟨i0,hi,hz0,hz1,hz2⟩:=info_parts infoStr
 refine BigFrame.wpList_want hw fun K hK=>?_
 have hend:∀ v' w',w'.ownsRow B 9 1 v' (l.length+m.length) (l.map Value.string++m.map Value.string)→OwnS B (l++m) v' w':=fun v' w' h2=>by unfold OwnS;simpa using h2
 rcases hy.2 with ⟨rfl,h0⟩ | ⟨g,cap,cur,rfl,hg,hb,hr⟩
 ·have hm:m=[]:=List.eq_nil_of_length_eq_zero h0
  subst hm
  have hrun:=run_append_owned_none (P:=Tryd.prog) (w:=w) B 49 o.type 9 i0 1 Tryd.underlying49 hi v l.length _ hown
  have h2:=hK _ _ (h v w (by simpa using hown) (World.grownBy.refl w _))
  unfold Oper.wp
  simp [execOp,ho,resolve,invoke,builtin,hs,hx,hrun,Result.andThen]
  exact h2
 ·refine wp_append_own w s x 49 ho B 9 i0 _ 1 16 Tryd.underlying49 hi hz0 hz1 hz2 rfl (by decide) v l.length (l.map Value.string) hs hown ⟨g,0,none⟩ m.length cap (m.map Value.string) hx (by simp) ?_ (fun u hu=>?_)
   (by unfold maxLen;omega) (by omega) hbase (fun v' w' h1 h2 _=>hK _ _ (h v' w' (hend v' w' h1) h2))
  ·intro j u hu
   have hj:j < m.length * 1:=by
    rcases Nat.lt_or_ge j m.length with h | h
    ·omega
    ·rw [List.getElem?_eq_none (by simpa using h)] at hu;cases hu
   have e:((⟨g,0,none⟩:Addr).add j)=⟨g,j,none⟩:=by
    by_cases h0:j=0
    ·subst h0;rfl
    ·simp [Addr.add,h0]
   have hc:w.cell? ⟨g,j,none⟩=(m.map Value.string)[j]?:=hy.cellAt j hj
   rw [e,hc,hu]
  ·obtain ⟨n,_,rfl⟩:=List.mem_map.1 hu
   rfl
theorem bneself {a:ByteArray}:(!(a.toList == a.toList))=false:=by rw [Bool.not_eq_false'];exact beq_self_eq_true _
theorem bneother {a b:ByteArray} (h:¬ a.toList=b.toList):(!(a.toList == b.toList))=true:=by rw [beq_eq_false_iff_ne.2 h];rfl
theorem ds_snoc_mem {l:List ByteArray} {i:Nat} (h:i < l.length):ds [] (l.take (i+1))=mets (ds [] (l.take i)) l[i]:=by rw [List.take_succ_eq_append_getElem h,ds_snoc]
theorem ds_mem_iff (l:List ByteArray) (n:ByteArray):n ∈ ds [] l ↔ n ∈ l:=⟨fun h=>(ds_from l [] n h).elim (fun h=>by simp at h) id,fun h=>ds_all l [] n h⟩
/-- What the first loop has: the names of each type, each type's own once. -/
noncomputable def part:ExT→List ByteArray
 | .mk b s l=>if b=true then [s] else ds [] (nmEs l)
theorem ds_parts (out:List ByteArray):∀ l:List ExT,ds out (l.flatMap part)=ds out (nmEs l)
 | []=>by simp [nmEs]
 | x :: l=>by
  rw [List.flatMap_cons,nmEs,ds_app,ds_app]
  obtain ⟨b,s,l'⟩:=x
  rw [part,nmE]
  by_cases hb:b=true
  ·rw [if_pos hb,if_pos hb,ds_parts _ l]
  ·rw [if_neg hb,if_neg hb,ds_once,ds_parts _ l]
theorem part_few (x:ExT):(part x).length≤sizeE x:=by
 obtain ⟨b,s,l⟩:=x
 rw [part,sizeE]
 have h1:=ds_few (nmEs l) []
 have h2:=nmEs_few l
 simp only [List.length_nil] at h1
 split
 ·simp
 ·omega
theorem parts_few:∀ l:List ExT,(l.flatMap part).length≤sizeEs l
 | []=>by simp
 | x :: l=>by
  have h1:=part_few x
  have h2:=parts_few l
  rw [List.flatMap_cons,List.length_append,sizeEs]
  omega
theorem parts_take {l:List ExT} {k:Nat} (h:k < l.length):(l.take (k+1)).flatMap part=(l.take k).flatMap part++part l[k]:=by
 rw [List.take_succ_eq_append_getElem h,List.flatMap_append]
 simp
theorem len_sizeE:∀ l:List ExT,l.length≤sizeEs l
 | []=>by simp
 | ⟨b,s,l'⟩ :: l=>by
  have:=len_sizeE l
  rw [sizeEs,sizeE,List.length_cons]
  omega
def RNamesC (d:Nat):Prop:=∀ (Vol:Nat→Prop) (l:List ExT) (v:Value) (w:World),RowW 3 (ExW d) Vol l v w→sizeEs l≤2000000 →
 Calls Tryd.prog 25 #[v] w fun e w'=>∃ v',e=.returned v'∧OwnS w.heap.size (ds [] (nmEs l)) v' w'∧Below w.heap.size w w'
set_option maxRecDepth 100000 in
set_option maxHeartbeats 4000000 in
theorem rnames_step (d:Nat) (HC:Hid (∀ d',d' < d→RNamesC d')):RNamesC d:=by
 intro Vol l v w hv hsz
 obtain ⟨A,c,rfl⟩:=hv.slice
 have hfew:=hv.few
 unfold maxLen at hfew
 have HV:=Lib.hid hv
 have HSZ:=Lib.hid hsz
 clear hv hsz
 go_enter Tryd.func25,Tryd.ntmps25
 go_wp2_with fail
 go_loopw [3,15] (fun u t wr=>∃ k:Nat,k≤l.length∧t=.int .i64 k∧Hid (OwnS w.heap.size ((l.take k).flatMap part) u wr)∧Hid (Below w.heap.size w wr)) (fun _ t _=>l.length - (intOf t).toNat)
 case atStart=>exact ⟨0,Nat.zero_le _,rfl,Lib.hid (OwnS.start w),Lib.hid (below_alloc _ _)⟩
 case round =>
  obtain ⟨k,hk,rfl,HO,HB⟩:=hrel
  obtain ⟨s1,c1,hsh⟩:=HO.out.shape
  subst hsh
  by_cases hlt:k < l.length
  ·obtain ⟨gg,o,vi,rfl,hg,_,hvi,hc⟩:=RowW.at ((RowW.step (ExW.step d)).below HV.out HB.out) k hlt
   obtain ⟨B1,n1,c2,rfl⟩:=hvi.this
   obtain ⟨d',hd',hrow⟩:=hvi.rowB
   have a0:=(hc 0 (by decide)).trans rfl
   have a1:=(hc 1 (by decide)).trans rfl
   have a2:=(hc 2 (by decide)).trans rfl
   simp only [cellsL,Value.cells,List.getElem?_cons_zero,List.getElem?_cons_succ,Nat.add_zero] at a0 a1 a2
   have hk0:(0:Int)≤(k:Int):=by omega
   have hk1:(k:Int) < (l.length:Int):=by omega
   have hdc:decide (k < l.length)=true:=by simpa using hlt
   have hfa:((l.take k).flatMap part).length≤2000000:=by
    have h1:=parts_few (l.take k)
    have h2:=sizeEs_take l k
    have h3:=HSZ.out
    omega
   have hsx:sizeE l[k]≤2000000:=by have h1:=sizeEs_mem hlt;have:=HSZ.out;omega
   have hnx:=parts_take hlt
   have HLT:=Lib.hid hlt
   generalize hacc:(l.take k).flatMap part=acc at HO hnx hfa ⊢
   generalize hxx:l[k]=x at hvi hrow a0 a1 a2 hnx hsx ⊢
   cases hb:x.isVar <;> rw [hb] at a0
   ·have hbz:=below_alloc wr (.cells #[.bool false,.string x.name,.slice B1 n1 c2] 53)
    have HROW:=Lib.hid ((RowW.step (ExW.step d')).below hrow hbz)
    have HXB:=Lib.hid (heap_alloc_new wr (.cells #[.bool false,.string x.name,.slice B1 n1 c2] 53))
    have HOB:=Lib.hid (HO.out.below hbz)
    have HBB:=Lib.hid (HB.out.trans (hbz.mono HB.out.size))
    have HDD:=Lib.hid hd'
    have HSX:=Lib.hid hsx
    have HNX:=Lib.hid hnx
    have hws:=HB.out.size
    clear hc hvi hrow hbz hd' hnx hsx hacc hxx hlt
    have HP:Hid (part x=ds [] (nmEs x.args)):=Lib.hid (by obtain ⟨b,s,l'⟩:=x;have hb:b=false:=hb;subst hb;rfl)
    have HPF:=Lib.hid (part_few x)
    have HFA:=Lib.hid hfa
    go_upto_region 7 with fail
    clear a0 a1 a2
    generalize (wr.alloc (.cells #[.bool false,.string x.name,.slice B1 n1 c2] 53))=W at HROW HXB HOB HBB ⊢
    generalize wr.heap.size=X at HXB ⊢
    have x2:=(cellH HXB.out 2).trans rfl
    have hbs:=HBB.out.size
    have HX:=Lib.hid (HC.out d' HDD.out Vol x.args _ W HROW.out (by have:=HSX.out;obtain ⟨b,s,l'⟩:=x;rw [sizeE] at this;show sizeEs l'≤_;omega))
    rw [← HP.out] at HX
    generalize hpx:part x=px at HX HNX HPF
    clear hpx
    go_wp2_with (first
     | (go_at_call 25;have hxq:=HX.out;with_reducible refine hxq.mono ?_;clear hxq;rintro e w5 ⟨v5,rfl,hv5,hb5⟩;obtain ⟨A5,c5,hs5⟩:=hv5.shape;subst hs5;have HV5:=Lib.hid hv5;have HO5:=Lib.hid (HOB.out.below hb5);have HB5:=Lib.hid (HBB.out.trans (hb5.mono HBB.out.size));have hs5:=HB5.out.size;clear hv5 hb5)
     | (at_builtin;refine append_strs rfl _ _ rfl w.heap.size acc _ rfl HO5.out W.heap.size px _ rfl HV5.out (by have:=HPF.out;have:=HSX.out;omega) (by omega) ?_;intro v6 w6 hown6 hg6;have HO6:=Lib.hid hown6;have HG6:=Lib.hid hg6;clear hown6 hg6))
    have HB6:=Lib.hid (below_grown HB5.out HG6.out (fun k e=>(HO5.out.lt k e).1) (by omega))
    go_roundw
    case rel=>exact ⟨k+1,by have:=HLT.out;omega,by go_num,by rw [HNX.out];exact HO6,HB6⟩
    case measure=>have:=HLT.out;simp [intOf];omega
   ·have hbz:=below_alloc wr (.cells #[.bool true,.string x.name,.slice B1 n1 c2] 53)
    have HROW:=Lib.hid ((RowW.step (ExW.step d')).below hrow hbz)
    have HXB:=Lib.hid (heap_alloc_new wr (.cells #[.bool true,.string x.name,.slice B1 n1 c2] 53))
    have HOB:=Lib.hid (HO.out.below hbz)
    have HBB:=Lib.hid (HB.out.trans (hbz.mono HB.out.size))
    have HDD:=Lib.hid hd'
    have HSX:=Lib.hid hsx
    have HNX:=Lib.hid hnx
    have hws:=HB.out.size
    clear hc hvi hrow hbz hd' hnx hsx hacc hxx hlt
    have HP:Hid (part x=[x.name]):=Lib.hid (by obtain ⟨b,s,l'⟩:=x;exact if_pos hb)
    have HFA:=Lib.hid hfa
    go_upto_region 6 with fail
    clear a0 a1 a2
    generalize (wr.alloc (.cells #[.bool true,.string x.name,.slice B1 n1 c2] 53))=W at HROW HXB HOB HBB ⊢
    generalize wr.heap.size=X at HXB ⊢
    have x1:=(cellH HXB.out 1).trans rfl
    have hbs:=HBB.out.size
    go_wp2_with (at_builtin;refine append_str rfl _ _ rfl w.heap.size acc _ rfl (OwnS.below HOB.out (below_alloc W _)) W.heap.size x.name rfl (heap_alloc_new W _) (by omega) (by simp;omega) ?_;intro A3 c3 w6 hown6 hg6;have HO6:=Lib.hid hown6;have HG6:=Lib.hid hg6;clear hown6 hg6)
    have HB6:=Lib.hid (below_grown (HBB.out.trans ((below_alloc W (.cells #[.string x.name] 9)).mono HBB.out.size)) HG6.out (fun k e=>(HOB.out.lt k e).1) (by simp;omega))
    go_roundw
    case rel=>exact ⟨k+1,by have:=HLT.out;omega,by go_num,by rw [HNX.out,HP.out];exact HO6,HB6⟩
    case measure=>have:=HLT.out;simp [intOf];omega
  ·obtain rfl:k=l.length:=by omega
   have hdc:decide (l.length < l.length)=false:=by simp
   rw [List.take_length] at HO
   have hfa:(l.flatMap part).length≤2000000:=by
    have h1:=parts_few l
    have h3:=HSZ.out
    omega
   have hend:ds [] (l.flatMap part)=ds [] (nmEs l):=ds_parts [] l
   rw [List.take_length]
   have HEND:=Lib.hid hend
   clear hend
   obtain ⟨hlc,hcm⟩:l.length=l.length∧(l.flatMap part).length≤c1:=⟨rfl,by
    rcases HO.out.2 with ⟨e,_⟩ | ⟨g,cap,cur,e,_,_,h1,_⟩
    ·injection e with _ e2 e3;omega
    ·injection e with _ _ e3;omega⟩
   generalize l.flatMap part=al at HO hfa HEND hcm ⊢
   generalize hw1:wr=w1 at HO HB ⊢
   clear hlc hw1
   have HFA:=Lib.hid hfa
   have HCM:=Lib.hid hcm
   go_wp2_with fail
   go_loopw [6,35] (fun u t w2=>∃ i:Nat,i≤al.length∧t=.int .i64 i∧Hid (OwnS w1.heap.size (ds [] (al.take i)) u w2)∧Hid (Below w1.heap.size w1 w2)) (fun _ t _=>al.length - (intOf t).toNat)
   case atStart=>exact ⟨0,Nat.zero_le _,rfl,Lib.hid (OwnS.start w1),Lib.hid (below_alloc _ _)⟩
   case round =>
    obtain ⟨i,hi,rfl,HU,HB2⟩:=hrel
    obtain ⟨s2,c2,hsh⟩:=HU.out.shape
    subst hsh
    by_cases hlti:i < al.length
    ·have HAL:=Lib.hid ((HO.out.below HB2.out).row (Vol:=fun _=>False) (fun _ e=>e.elim))
     obtain ⟨g7,o7,u7,rfl,hg7,_,hu7,hc7⟩:=RowW.at HAL.out i hlti
     obtain rfl:u7=.string al[i]:=hu7
     have a0:=(hc7 0 (by decide)).trans rfl
     simp only [cellsL,Value.cells,List.getElem?_cons_zero,Nat.add_zero,Nat.mul_one] at a0
     have hi0:(0:Int)≤(i:Int):=by omega
     have hi1:(i:Int) < (al.length:Int):=by omega
     have hi2:(i:Int)≤(c1:Int):=by have:=HCM.out;omega
     have hi3:i≤c1:=by have:=HCM.out;omega
     have hdi:decide (i < al.length)=true:=by simpa using hlti
     have hsn:=ds_snoc_mem hlti
     have hfd:(ds [] (al.take i)).length≤2000000:=by
      have h1:=ds_few (al.take i) []
      have h2:=HFA.out
      simp only [List.length_nil,List.length_take] at h1
      omega
     have HLI:=Lib.hid hlti
     have HSN:=Lib.hid hsn
     have HFD:=Lib.hid hfd
     clear hc7 hsn hfd
     go_wp2_with fail
     go_loopw [9,44] (fun b t w3=>∃ (j:Nat) (bb:Bool),j≤i∧t=.int .i64 j∧b=.bool bb∧w3=wr∧Hid (bb=true ↔ ∀ (m:Nat) (h:m < al.length),m < j→¬ al[m]=al[i]'HLI.out)) (fun _ t _=>i - (intOf t).toNat)
     case atStart=>exact ⟨0,true,Nat.zero_le _,rfl,rfl,rfl,Lib.hid ⟨fun _ m _ h=>by omega,fun _=>rfl⟩⟩
     case round =>
      obtain ⟨j,bb,hj,rfl,rfl,rfl,HBB⟩:=hrel
      by_cases hltj:j < i
      ·obtain ⟨g8,o8,u8,e8,hg8,_,hu8,hc8⟩:=RowW.at HAL.out j (by omega)
       injection e8 with e8
       injection e8 with e8 e9
       subst e8
       subst e9
       obtain rfl:u8=.string al[j]:=hu8
       have b0:=(hc8 0 (by decide)).trans rfl
       simp only [cellsL,Value.cells,List.getElem?_cons_zero,Nat.add_zero,Nat.mul_one] at b0
       have hj0:(0:Int)≤(j:Int):=by omega
       have hj1:(j:Int) < (i:Int):=by omega
       have hdj:decide (j < i)=true:=by simpa using hltj
       have HLJ:=Lib.hid hltj
       clear hc8
       by_cases he:al[j]=al[i]
       ·rw [he] at b0
        have HE:=Lib.hid he
        clear he
        cases bb
        all_goals
         go_wp2_with fail
         go_roundw
         case rel=>exact ⟨j+1,false,by have:=HLJ.out;omega,by go_num,by first | rfl | exact congrArg Value.bool bneself,by first | trivial | rfl,Lib.hid ⟨fun h=>(by cases h),fun h=>absurd HE.out (h j (by have:=HLJ.out;have:=HLI.out;omega) (by omega))⟩⟩
         case measure=>have:=HLJ.out;simp [intOf];omega
       ·have hne:¬ (al[j]).toList=(al[i]).toList:=fun e=>he (bytes_eq e)
        have HE:=Lib.hid he
        clear he
        cases bb
        ·go_wp2_with fail
         go_roundw
         case rel=>exact ⟨j+1,false,by have:=HLJ.out;omega,by go_num,rfl,by first | trivial | rfl,Lib.hid ⟨fun h=>(by cases h),fun h=>HBB.out.2 (fun m hm hmj=>h m hm (by omega))⟩⟩
         case measure=>have:=HLJ.out;simp [intOf];omega
        ·go_wp2_with fail
         go_roundw
         case rel=>exact ⟨j+1,true,by have:=HLJ.out;omega,by go_num,congrArg Value.bool (bneother hne),by first | trivial | rfl,Lib.hid ⟨fun _ m hm hmj=>by
          by_cases e:m=j
          ·subst e;exact HE.out
          ·exact HBB.out.1 rfl m hm (by omega),fun _=>rfl⟩⟩
         case measure=>have:=HLJ.out;simp [intOf];omega
      ·obtain rfl:j=i:=by omega
       have hdj:decide (j < j)=false:=by simp
       cases bb
       ·have HIN:Hid (al[j]'HLI.out ∈ ds [] (al.take j)):=Lib.hid ((ds_mem_iff _ _).2 (Classical.byContradiction fun hn=>by
         have:=HBB.out.2 (fun m hm hmj e=>hn (by
          rw [← e]
          exact List.mem_take_iff_getElem.2 ⟨m,by omega,rfl⟩))
         cases this))
        have HSE:=Lib.hid (show ds [] (al.take (j+1))=ds [] (al.take j) by rw [HSN.out];exact mets_old HIN.out)
        go_wp2_with fail
        go_roundw
        case rel=>exact ⟨j+1,by have:=HLI.out;omega,by go_num,by rw [HSE.out];exact HU,HB2⟩
        case measure=>have:=HLI.out;simp [intOf];omega
       ·have HIN:Hid (¬ al[j]'HLI.out ∈ ds [] (al.take j)):=Lib.hid (fun hm=>by
         obtain ⟨m,hm2,e⟩:=List.mem_take_iff_getElem.1 ((ds_mem_iff _ _).1 hm)
         exact HBB.out.1 rfl m (by omega) (by omega) e)
        have HSE:=Lib.hid (show ds [] (al.take (j+1))=ds [] (al.take j)++[al[j]'HLI.out] by rw [HSN.out];exact if_neg HIN.out)
        have hbs:=HB2.out.size
        have H25:(ds [] (al.take j)).length≤2000000:=HFD.out
        go_wp2_with (at_builtin;refine append_str rfl _ _ rfl w1.heap.size (ds [] (al.take j)) _ rfl (OwnS.below HU.out (below_alloc _ _)) _ _ rfl (heap_alloc_new _ _) (by omega) (by simp;omega) ?_;intro A3 c3 w6 hown6 hg6;have HO6:=Lib.hid hown6;have HG6:=Lib.hid hg6;clear hown6 hg6)
        have HB6:=Lib.hid (below_grown (HB2.out.trans ((below_alloc _ (.cells #[.string (al[j]'HLI.out)] 9)).mono HB2.out.size)) HG6.out (fun k e=>(HU.out.lt k e).1) (by simp;omega))
        go_roundw
        case rel=>exact ⟨j+1,by have:=HLI.out;omega,by go_num,by rw [HSE.out];exact HO6,HB6⟩
        case measure=>have:=HLI.out;simp [intOf];omega
    ·obtain rfl:i=al.length:=by omega
     have hdi:decide (al.length < al.length)=false:=by simp
     rw [List.take_length] at HU ⊢
     go_wp2_with fail
     go_ret
     exact ⟨_,rfl,by rw [← HEND.out];exact own_low HU.out HB.out.size,HB.out.trans (HB2.out.mono HB.out.size)⟩
theorem rnames_any (d:Nat):RNamesC d:=by
 induction d using Nat.strongRecOn with
 | _ d ih=>exact rnames_step d (Lib.hid ih)
end Lx
end Go.Proofs.YtnpacamcgifabaaDoor
namespace Go.Proofs.YtnpacamcgifabaaDoor
set_option linter.unusedSimpArgs false
set_option linter.unusedVariables false
namespace Lx
open Go Go.RowKit
theorem keyStr:Go.Maps.Keyed Tryd.prog 9:=Maps.string_keyed Tryd.underlying9
theorem keyS {s:ByteArray} (hs:s.size≤maxLen):∃ kl,keyOf Tryd.prog 9 (.string s)=some kl:=⟨_,Go.WideMaps.keyOf_string_mk Tryd.underlying9 hs⟩
theorem zeroU (w:World):(zeroValue 99).run Tryd.prog w=.ok (.agg #[]) w:=by kernel_rfl
def entS (l:List ByteArray):List (Value × Value):=l.map fun n=>(.string n,.agg #[])
theorem runLookS (mp:Nat) (l:List ByteArray) (n:ByteArray) (W:World) (h:MapB Tryd.prog 9 mp (entS l) W) (hn:n.size≤maxLen) :
  (n ∉ l∧(Instr.lookup 97 (.map (some mp)) (.string n) true).run Tryd.prog W=.ok (.tuple #[.agg #[],.bool false]) W) ∨ (n ∈ l∧(Instr.lookup 97 (.map (some mp)) (.string n) true).run Tryd.prog W=.ok (.tuple #[.agg #[],.bool true]) W):=by
 obtain ⟨kl,hkl⟩:=keyS hn
 rcases h.look keyStr Tryd.underlying97 (zeroU _) hkl with ⟨h1,h2⟩ | ⟨v,h1,h2⟩
 ·exact .inl ⟨fun hin=>h1 _ (List.mem_map.2 ⟨n,hin,rfl⟩) rfl,h2⟩
 ·obtain ⟨x,hx,e⟩:=List.mem_map.1 h1
  injection e with e1 e2
  injection e1 with e1
  subst e1
  subst e2
  exact .inr ⟨hx,h2⟩
theorem runPutS (mp:Nat) (l:List ByteArray) (n:ByteArray) (W:World) (h:MapB Tryd.prog 9 mp (entS l) W) (hn:n.size≤maxLen) (hin:n ∉ l) :
  ∃ W1,(Instr.mapUpdate 97 (.map (some mp)) (.string n) (.agg #[])).run Tryd.prog W=.ok () W1∧MapB Tryd.prog 9 mp (entS (l++[n])) W1∧Kb (fun k=>k=mp) W W1:=by
 obtain ⟨kl,hkl⟩:=keyS hn
 obtain ⟨W1,h1,h2,h3⟩:=h.put keyStr Tryd.underlying97 hkl (val:=.agg #[]) (fun p hp e=>by
  obtain ⟨x,hx,rfl⟩:=List.mem_map.1 hp
  injection e with e
  exact hin (e ▸ hx))
 exact ⟨W1,h1,by rw [show entS (l++[n])=entS l++[(.string n,.agg #[])] from List.map_append];exact h2,h3⟩
/-- What the closure has: the names seen, and found in their order. -/
structure SeenS (N:Nat) (l:List ByteArray) (w:World):Prop where
 size:N+3≤w.heap.size
 box:w.heap[N+2]?=some (.cells #[.map (some (N+1))] 97 (0,0))
 seen:MapB Tryd.prog 9 (N+1) (entS l) w
 found:∃ v,w.heap[N]?=some (.cells #[v] 49 (0,0))∧OwnS (N+3) l v w
theorem SeenS.below {N:Nat} {l:List ByteArray} {w w':World} (h:SeenS N l w) (hb:Below w.heap.size w w'):SeenS N l w':=by
 have:=h.size
 obtain ⟨v,h1,h2⟩:=h.found
 exact ⟨Nat.le_trans h.size hb.size,(hb.block _ (by omega)).trans h.box,h.seen.below hb,v,(hb.block _ (by omega)).trans h1,h2.below hb⟩
theorem kbN {N:Nat} {w w':World} (h:Below N w w'):Kb (fun k=>N≤k) w w':=⟨h.os,h.tape,h.output,h.size,fun k _ hn=>h.block k (by omega)⟩
def VisitC:Prop:=∀ (N:Nat) (l:List ByteArray) (n:ByteArray) (w:World),SeenS N l w→n.size≤maxLen→l.length≤4000000 →
 Calls Tryd.prog 60 #[.string n,.pointer (some ⟨N+2,0,none⟩),.pointer (some ⟨N,0,none⟩)] w fun e w'=>e=.returned (.tuple #[])∧SeenS N (mets l n) w'∧Below N w w'
theorem SeenS.seenPut {N:Nat} {l:List ByteArray} {v:Value} {w w':World} (h:SeenS N l w) (hv:w.heap[N]?=some (.cells #[v] 49 (0,0))) (ho:OwnS (N+3) l v w) (hk:Kb (fun k=>k=N+1) w w'):w'.heap[N]?=some (.cells #[v] 49 (0,0))∧OwnS (N+3) l v w'∧w'.heap[N+2]?=some (.cells #[.map (some (N+1))] 97 (0,0)):=by
 have:=h.size
 exact ⟨(hk.block _ (by omega) (by omega)).trans hv,own_kb ho hk (fun k e e2=>by have:=(ho.lt k e).1;omega),(hk.block _ (by omega) (by omega)).trans h.box⟩
theorem grown_at {N:Nat} {l m:List ByteArray} {v:Value} {W1 w6:World} {o:Obj} (ho:OwnS (N+3) l v W1) (hw:N+3≤W1.heap.size) (hb:Below W1.heap.size W1 (W1.alloc o)) (hf:W1.heap[N]?=some (.cells #[v] 49 (0,0))) (hx:W1.heap[N+2]?=some (.cells #[.map (some (N+1))] 97 (0,0)))
  (hm:MapB Tryd.prog 9 (N+1) (entS m) W1) (hg:(W1.alloc o).grownBy w6 v.ownBlock) :
  w6.heap[N]?=some (.cells #[v] 49 (0,0))∧w6.heap[N+2]?=some (.cells #[.map (some (N+1))] 97 (0,0))∧MapB Tryd.prog 9 (N+1) (entS m) w6∧N+3≤w6.heap.size∧Below N W1 w6:=by
 have h2:Below (N+3) W1 w6:=below_grown (hb.mono hw) hg (fun k e=>(ho.lt k e).1) (by have:=hb.size;omega)
 exact ⟨(h2.block _ (by omega)).trans hf,(h2.block _ (by omega)).trans hx,hm.kb (kbN h2) (by omega),Nat.le_trans hw h2.size,h2.mono (by omega)⟩
set_option maxRecDepth 100000 in
set_option maxHeartbeats 4000000 in
theorem visit_any:VisitC:=by
 intro N l n w hS hn hl
 obtain ⟨v,hfb,hfo⟩:=hS.found
 have hw:=hS.size
 have hlk:=runLookS (N+1) l n w hS.seen hn
 have x0:=(cellH hS.box 0).trans rfl
 have HB0:=Lib.hid (below_alloc w (.cells #[] 99))
 have HS:=Lib.hid (hS.below HB0.out)
 have HF:=Lib.hid ((HB0.out.block N (by omega)).trans hfb)
 have HO:=Lib.hid (hfo.below HB0.out)
 rcases hlk with ⟨hin,hlk⟩ | ⟨hin,hlk⟩
 ·have HIN:=Lib.hid (show mets l n=l++[n] from if_neg hin)
  obtain ⟨W1,hup,hm1,hk1⟩:=runPutS (N+1) l n _ HS.out.seen hn hin
  obtain ⟨hf1,ho1,hx1⟩:=HS.out.seenPut HF.out HO.out hk1
  have HK1:=Lib.hid hk1
  have HM1:=Lib.hid hm1
  have HX1:=Lib.hid hx1
  have HO1:=Lib.hid ho1
  have HF1:=Lib.hid hf1
  have hw1:N+3≤W1.heap.size:=Nat.le_trans HS.out.size hk1.size
  have x1:=(cellH HS.out.box 0).trans rfl
  obtain ⟨A,c,rfl⟩:=hfo.shape
  clear hin hS hfb hfo hk1 hm1 ho1 hf1 hx1
  go_enter Tryd.func60,Tryd.ntmps60
  go_upto_region 2 with fail
  generalize (w.alloc (.cells #[] 99))=W at HB0 HS HF HO HK1 hup x1 ⊢
  go_upto_region 3 with fail
  have y0:=(cellH HF1.out 0).trans rfl
  have HB2:=Lib.hid (below_alloc W1 (.cells #[.string n] 9))
  go_wp2_with (at_builtin;refine append_str rfl _ _ rfl (N+3) l _ rfl (HO1.out.below HB2.out) W1.heap.size n rfl (heap_alloc_new _ _) (by omega) (by have:=HB2.out.size;omega) ?_;intro A6 c6 w6 hown6 hg6;have HO6:=Lib.hid hown6;have HG6:=Lib.hid (grown_at HO1.out hw1 HB2.out HF1.out HX1.out HM1.out hg6);clear hown6 hg6;have z0:=(cellH HG6.out.1 0).trans rfl;have zf:=frozenH HG6.out.1 0)
  have hq:=blk_put w6 N 0 (.slice A6 (l.length+1) c6) HG6.out.1 (by show 0 < 1;decide)
  have hk:=(Kb.refl (fun k=>k=N) w6).put (p:=⟨N,0,none⟩) rfl (.slice A6 (l.length+1) c6)
  clear z0 zf y0
  generalize (w6.setCell ⟨N,0,none⟩ (.slice A6 (l.length+1) c6))=Z at hq hk ⊢
  have HK:=Lib.hid hk
  have HQ:=Lib.hid hq
  clear hk hq
  go_end0
  obtain ⟨_,g2,g3,g4,g5⟩:=HG6.out
  have g6:=HK.out.size
  refine ⟨rfl,?_,?_⟩
  ·rw [HIN.out]
   exact ⟨by omega,(HK.out.block _ (by omega) (by omega)).trans g2,g3.kb HK.out (by omega),_,HQ.out,own_kb HO6.out HK.out (fun k e e2=>by have:=(HO6.out.lt k e).1;omega)⟩
  ·have h1:=HB0.out.mono (B':=N) (by omega)
   have h2:=HK1.out.below (B:=N) (by have:=HB0.out.size;omega) (fun k e=>by omega)
   exact ((h1.trans h2).trans g5).trans (HK.out.below (by omega) (fun k e=>by omega))
 ·have HIN:=Lib.hid (show mets l n=l from if_pos hin)
  obtain ⟨A,c,rfl⟩:=hfo.shape
  clear hin hS
  go_enter Tryd.func60,Tryd.ntmps60
  go_wp2_with fail
  go_end0
  exact ⟨rfl,by rw [HIN.out];exact HS.out,HB0.out.mono (by omega)⟩
def VarsC (d:Nat):Prop:=∀ (N:Nat) (done:List ByteArray) (l:List ExT) (v:Value) (w:World),RowW 3 (ExW d) (fun k=>N≤k) l v w→SeenS N done w→(∀ n ∈ nmEs l,n.size≤maxLen)→done.length+sizeEs l≤4000000 →
 Calls Tryd.prog 59 #[v,.func (.func 60) #[] #[.pointer (some ⟨N+2,0,none⟩),.pointer (some ⟨N,0,none⟩)]] w fun e w'=>e=.returned (.tuple #[])∧SeenS N (ds done (nmEs l)) w'∧Below N w w'
theorem nmEs_take {l:List ExT} {k:Nat} (h:k < l.length):nmEs (l.take (k+1))=nmEs (l.take k)++nmE l[k]:=by rw [List.take_succ_eq_append_getElem h,nmEs_snoc]
theorem nmEs_mem:∀ {l:List ExT} {i:Nat} (h:i < l.length) {n:ByteArray},n ∈ nmE l[i]→n ∈ nmEs l
 | [],_,h,_,_=>by simp at h
 | x :: l,0,_,n,hn=>by rw [nmEs];exact List.mem_append_left _ hn
 | x :: l,i+1,h,n,hn=>by rw [nmEs];exact List.mem_append_right _ (nmEs_mem (l:=l) (i:=i) (by simpa using h) hn)
set_option maxRecDepth 100000 in
set_option maxHeartbeats 4000000 in
theorem vars_step (d:Nat) (HC:Hid (∀ d',d' < d→VarsC d')):VarsC d:=by
 intro N done l v w hv hS hnm hsz
 obtain ⟨A,c,rfl⟩:=hv.slice
 have hfew:=hv.few
 unfold maxLen at hfew
 have HV:=Lib.hid hv
 have HSZ:=Lib.hid hsz
 have HNM:=Lib.hid hnm
 have HS:=Lib.hid hS
 clear hv hsz hnm hS
 go_enter Tryd.func59,Tryd.ntmps59
 go_wp2_with fail
 go_loopw [8] (fun t wr=>∃ k:Nat,k≤l.length∧t=.int .i64 k∧Hid (SeenS N (ds done (nmEs (l.take k))) wr)∧Hid (Below N w wr)) (fun t _=>l.length - (intOf t).toNat)
 case atStart=>exact ⟨0,Nat.zero_le _,rfl,Lib.hid (by rw [List.take_zero,nmEs];exact HS.out),Lib.hid (Below.refl _ _)⟩
 case round =>
  obtain ⟨k,hk,rfl,HT,HB⟩:=hrel
  by_cases hlt:k < l.length
  ·obtain ⟨gg,o,vi,rfl,hg,_,hvi,hc⟩:=RowW.at (RowW.step (ExW.step d) _ (fun k=>N≤k) _ _ _ _ HV.out (kbN HB.out) (fun _ _ e=>e)) k hlt
   obtain ⟨B1,n1,c2,rfl⟩:=hvi.this
   obtain ⟨d',hd',hrow⟩:=hvi.rowB
   have a0:=(hc 0 (by decide)).trans rfl
   have a1:=(hc 1 (by decide)).trans rfl
   have a2:=(hc 2 (by decide)).trans rfl
   simp only [cellsL,Value.cells,List.getElem?_cons_zero,List.getElem?_cons_succ,Nat.add_zero] at a0 a1 a2
   have hk0:(0:Int)≤(k:Int):=by omega
   have hk1:(k:Int) < (l.length:Int):=by omega
   have hdc:decide (k < l.length)=true:=by simpa using hlt
   have hfa:(ds done (nmEs (l.take k))).length+sizeE l[k]≤4000000:=by
    have h1:=ds_few (nmEs (l.take k)) done
    have h4:=nmEs_few (l.take k)
    have h2:=sizeEs_take l (k+1)
    rw [List.take_succ_eq_append_getElem hlt,sizeEs_snoc] at h2
    have h3:=HSZ.out
    omega
   have hnx:ds done (nmEs (l.take (k+1)))=ds (ds done (nmEs (l.take k))) (nmE l[k]):=by rw [nmEs_take hlt,ds_app]
   have hnn:∀ n ∈ nmE l[k],n.size≤maxLen:=fun n h=>HNM.out n (nmEs_mem hlt h)
   have HLT:=Lib.hid hlt
   generalize hacc:ds done (nmEs (l.take k))=acc at HT hnx hfa
   generalize hxx:l[k]=x at hvi hrow a0 a1 a2 hnx hfa hnn
   have hbz:=below_alloc wr (.cells #[.bool x.isVar,.string x.name,.slice B1 n1 c2] 53)
   have HXB:=Lib.hid (heap_alloc_new wr (.cells #[.bool x.isVar,.string x.name,.slice B1 n1 c2] 53))
   have hw:=HT.out.size
   have HTB:=Lib.hid (HT.out.below hbz)
   have HBB:=Lib.hid (HB.out.trans (hbz.mono (by omega)))
   have HROW:=Lib.hid ((RowW.step (ExW.step d')).below hrow hbz)
   have HDD:=Lib.hid hd'
   have HNX:=Lib.hid hnx
   have HNN:=Lib.hid hnn
   have HFA:=Lib.hid hfa
   clear hc hvi hrow hbz hd' hnx hnn hfa hacc hxx hlt
   cases hb:x.isVar <;> rw [hb] at a0 HXB HTB HBB HROW
   ·have HP:Hid (nmE x=nmEs x.args):=Lib.hid (by obtain ⟨b,s,l'⟩:=x;have hb:b=false:=hb;subst hb;rfl)
    clear hb
    have HX:=Lib.hid (HC.out d' HDD.out N acc x.args _ _ HROW.out HTB.out (by rw [← HP.out];exact HNN.out) (by have:=HFA.out;obtain ⟨b,s,l'⟩:=x;rw [sizeE] at this;show _+sizeEs l'≤_;omega))
    go_upto_region 5 with fail
    clear a0 a1 a2
    generalize (wr.alloc (.cells #[.bool false,.string x.name,.slice B1 n1 c2] 53))=W at HROW HXB HTB HBB HX ⊢
    have x2:=(cellH HXB.out 2).trans rfl
    go_wp2_with (go_at_call 59;have hxq:=HX.out;with_reducible refine hxq.mono ?_;clear hxq;rintro e w5 ⟨rfl,ht5,hb5⟩;have HT5:=Lib.hid ht5;have HB5:=Lib.hid (HBB.out.trans hb5);clear ht5 hb5)
    go_roundw
    case rel=>exact ⟨k+1,by have:=HLT.out;omega,by go_num,by rw [HNX.out,HP.out];exact HT5,HB5⟩
    case measure=>have:=HLT.out;simp [intOf];omega
   ·have HP:Hid (nmE x=[x.name]):=Lib.hid (by obtain ⟨b,s,l'⟩:=x;have hb:b=true:=hb;subst hb;rfl)
    clear hb
    have HX:=Lib.hid (visit_any N acc x.name _ HTB.out (HNN.out x.name (by rw [HP.out];simp)) (by have:=HFA.out;omega))
    go_upto_region 4 with fail
    clear a0 a1 a2
    generalize (wr.alloc (.cells #[.bool true,.string x.name,.slice B1 n1 c2] 53))=W at HROW HXB HTB HBB HX ⊢
    have x1:=(cellH HXB.out 1).trans rfl
    go_wp2_with (go_at_call 60;have hxq:=HX.out;with_reducible refine hxq.mono ?_;clear hxq;rintro e w5 ⟨rfl,ht5,hb5⟩;have HT5:=Lib.hid ht5;have HB5:=Lib.hid (HBB.out.trans hb5);clear ht5 hb5)
    go_roundw
    case rel=>exact ⟨k+1,by have:=HLT.out;omega,by go_num,by rw [HNX.out,HP.out];exact HT5,HB5⟩
    case measure=>have:=HLT.out;simp [intOf];omega
  ·obtain rfl:k=l.length:=by omega
   have hdc:decide (l.length < l.length)=false:=by simp
   have HE:=Lib.hid HT.out
   rw [List.take_length] at HE
   go_wp2_with fail
   go_end0
   exact ⟨rfl,HE.out,HB.out⟩
theorem vars_any (d:Nat):VarsC d:=by
 induction d using Nat.strongRecOn with
 | _ d ih=>exact vars_step d (Lib.hid ih)
set_option maxRecDepth 100000 in
set_option maxHeartbeats 4000000 in
/-- The program's Names. -/
theorem names_any (d:Nat) (Vol:Nat→Prop) (l:List ExT) (v:Value) (w:World) (hv:RowW 3 (ExW d) Vol l v w) (hnm:∀ n ∈ nmEs l,n.size≤maxLen) (hsz:sizeEs l≤2000000) :
  Calls Tryd.prog 24 #[v] w fun e w'=>∃ v',e=.returned v'∧OwnS w.heap.size (ds [] (nmEs l)) v' w'∧Below w.heap.size w w':=by
 have hb1:=below_alloc w (.cells #[.slice none 0 0] 49)
 have hb2:=below_alloc (w.alloc (.cells #[.slice none 0 0] 49)) (.map #[] 0)
 have hb3:=below_alloc ((w.alloc (.cells #[.slice none 0 0] 49)).alloc (.map #[] 0)) (.cells #[.map (some (w.heap.size+1))] 97)
 have h0:=heap_alloc_new w (.cells #[.slice none 0 0] 49)
 have h1:=MapB.made (P:=Tryd.prog) (k:=9) (w.alloc (.cells #[.slice none 0 0] 49))
 have h2:=heap_alloc_new ((w.alloc (.cells #[.slice none 0 0] 49)).alloc (.map #[] 0)) (.cells #[.map (some (w.heap.size+1))] 97)
 have z1:(w.alloc (.cells #[.slice none 0 0] 49)).heap.size=w.heap.size+1:=by simp
 have z2:((w.alloc (.cells #[.slice none 0 0] 49)).alloc (.map #[] 0)).heap.size=w.heap.size+2:=by simp
 have z3:(((w.alloc (.cells #[.slice none 0 0] 49)).alloc (.map #[] 0)).alloc (.cells #[.map (some (w.heap.size+1))] 97)).heap.size=w.heap.size+3:=by simp
 rw [z1] at h1
 rw [z2] at h2
 have hb:Below w.heap.size w (((w.alloc (.cells #[.slice none 0 0] 49)).alloc (.map #[] 0)).alloc (.cells #[.map (some (w.heap.size+1))] 97)):=hb1.trans ((hb2.mono (by omega)).trans (hb3.mono (by omega)))
 have HS:Hid (SeenS w.heap.size [] (((w.alloc (.cells #[.slice none 0 0] 49)).alloc (.map #[] 0)).alloc (.cells #[.map (some (w.heap.size+1))] 97))):=Lib.hid ⟨Nat.le_of_eq z3.symm,h2,h1.below hb3,_,(hb3.block _ (by omega)).trans ((hb2.block _ (by omega)).trans h0),World.ownsRow_nil _ _ _ _⟩
 have HX:=Lib.hid (vars_any d w.heap.size [] l v _ (RowW.step (ExW.step d) Vol (fun k=>w.heap.size≤k) _ _ _ _ hv (Kb.of_below hb) (fun k hk e=>by omega)) HS.out hnm (by simp;omega))
 have HB:=Lib.hid hb
 have hmm:=@run_makeMap Tryd.prog
 clear hv hnm hsz hb1 hb2 hb3 h0 h1 h2 z1 z2 z3 hb
 go_enter Tryd.func24,Tryd.ntmps24
 go_wp2_with fail
 generalize (((w.alloc (.cells #[.slice none 0 0] 49)).alloc (.map #[] 0)).alloc (.cells #[.map (some (w.heap.size+1))] 97))=W at HS HX HB ⊢
 refine HX.out.mono ?_
 rintro e w5 ⟨rfl,ht5,hb5⟩
 obtain ⟨v5,hf5,ho5⟩:=ht5.found
 have HO:=Lib.hid ho5
 have HB5:=Lib.hid (HB.out.trans hb5)
 have y0:=(cellH hf5 0).trans rfl
 clear ht5 hb5 hf5 ho5
 obtain ⟨A5,c5,hs5⟩:=HO.out.shape
 subst hs5
 go_wp2_with fail
 go_ret
 exact ⟨_,rfl,own_low HO.out (by omega),HB5.out⟩
end Lx
end Go.Proofs.YtnpacamcgifabaaDoor
