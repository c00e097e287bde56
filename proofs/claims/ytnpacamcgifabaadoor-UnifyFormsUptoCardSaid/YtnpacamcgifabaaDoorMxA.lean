/- Package unify: Plain: types with their unknowns numbered anew. Conditions: as each states. -/
/- Package unify: renumbered and Plain. Conditions: as each states. -/
import Derived.Test.YtnpacamcgifabaaDoorXa
import Derived.Test.YtnpacamcgifabaaDoorVh
namespace Go.Proofs.YtnpacamcgifabaaDoor
set_option linter.unusedSimpArgs false
set_option linter.unusedVariables false
namespace Lx
open Go Go.RowKit
mutual
theorem pl_few (met:List Nat):∀ t,(pl met t).1.length≤met.length+sizeT t
 | .mk k s n l=>by
  by_cases k4:k=4
  ·subst k4
   rw [pl]
   simp only [if_true]
   have:=size_pos (.mk 4 s n l)
   split
   ·show met.length≤_
    omega
   ·simp;omega
  ·rw [pl_ne met s n l k4,sizeT]
   have:=pls_few met l
   show (pls met l).1.length≤_
   omega
theorem pls_few (met:List Nat):∀ l,(pls met l).1.length≤met.length+sizeTs l
 | []=>by simp [pls,sizeTs]
 | x :: l=>by
  rw [pls,sizeTs]
  have h1:=pl_few met x
  have h2:=pls_few (pl met x).1 l
  show (pls (pl met x).1 l).1.length≤_
  omega
end
theorem pls_snoc:∀ (met:List Nat) (a:List TyT) (x:TyT),pls met (a++[x])=((pl (pls met a).1 x).1,(pls met a).2++[(pl (pls met a).1 x).2])
 | met,[],x=>by simp [pls]
 | met,y :: a,x=>by
  rw [List.cons_append,pls,pls,pls_snoc (pl met y).1 a x]
  rfl
theorem pls_length:∀ (met:List Nat) (l:List TyT),(pls met l).2.length=l.length
 | _,[]=>by simp [pls]
 | met,x :: l=>by rw [pls];simp [pls_length (pl met x).1 l]
theorem pls_take (met:List Nat) {l:List TyT} {k:Nat} (h:k < l.length):pls met (l.take (k+1))=((pl (pls met (l.take k)).1 l[k]).1,(pls met (l.take k)).2++[(pl (pls met (l.take k)).1 l[k]).2]):=by
 rw [List.take_succ_eq_append_getElem h,pls_snoc]
/-- A row that is being made while numbers are given. -/
structure RowQ (Vol:Nat→Prop) (g:Nat) (w wr:World) (s:Option Addr) (cap:Nat) (acc:List TyT) (vs:List Value):Prop where
 val:(acc=[]∧vs=[]∧s=none∧cap=0) ∨ ∃ k,s=some ⟨k,0,none⟩
 own:wr.ownsRow w.heap.size 32 4 (.slice s acc.length cap) acc.length (vs.flatMap cellsL)
 len:vs.length=acc.length
 els:∀ (i:Nat) (h:i < acc.length) (h':i < vs.length),TyE (fun k=>Vol k ∨ s=some ⟨k,0,none⟩) acc[i] vs[i] wr
 keep:Kb (fun k=>k=g) w wr
section
variable {Vol:Nat→Prop} {g:Nat} {w wr w4 w6:World} {s:Option Addr} {cap:Nat} {acc:List TyT} {vs:List Value}
theorem RowQ.start (Vol:Nat→Prop) (g:Nat) (w:World):RowQ Vol g w w none 0 [] []:=⟨.inl ⟨rfl,rfl,rfl,rfl⟩,World.ownsRow_nil _ _ _ _,rfl,fun i h=>by simp at h,Kb.refl _ _⟩
theorem RowQ.mine (h:RowQ Vol g w wr s cap acc vs) (hv:∀ k,Vol k→k < w.heap.size):∀ k,(Vol k ∨ s=some ⟨k,0,none⟩)→k < wr.heap.size:=by
 rintro k (e | e)
 ·exact Nat.lt_of_lt_of_le (hv k e) h.keep.size
 ·exact (h.own.lt k (by rw [e];rfl)).2
theorem RowQ.held (h:RowQ Vol g w wr s cap acc vs) (hv:∀ k,Vol k→k < w.heap.size):RowW 4 TyE Vol acc (.slice s acc.length cap) wr:=by
 have hcc:acc.length≤cap∧cap≤maxLen:=by
  rcases h.own.2 with ⟨e,_⟩ | ⟨g',cap',cur,e,_,_,h1,h2,_⟩
  ·injection e with _ e2 e3
   omega
  ·injection e with _ _ e3
   omega
 refine ⟨s,cap,rfl,hcc.1,hcc.2,fun i hi=>?_⟩
 have hi2:i < vs.length:=by rw [h.len];exact hi
 have hel:=h.els i hi hi2
 rcases h.own.2 with ⟨_,e⟩ | ⟨k,cap',cur,e,hg,hb,h1,h2,h5,h6⟩
 ·omega
 ·injection e with e _ _
  subst e
  have hlt:k < wr.heap.size:=(Array.getElem?_eq_some_iff.1 hb).1
  refine ⟨k,0,vs[i],rfl,hlt,fun e=>by have:=hv k e;omega,TyE.step _ _ _ _ _ _ hel (Kb.refl _ _) (fun k _ e=>.inl e),fun j hj=>?_⟩
  have hbd:i * 4+j < acc.length * 4:=by omega
  rw [Nat.zero_add,h.own.cellAt _ hbd]
  refine flat_at 4 vs (fun v hvm=>?_) i j hi2 hj
  obtain ⟨n,hn,rfl⟩:=List.getElem_of_mem hvm
  exact tyECells _ _ _ _ (h.els n (by rw [← h.len];exact hn) hn)
theorem RowQ.snoc (h:RowQ Vol g w wr s cap acc vs) (hvg:Vol g) {x2:TyT} {v2:Value} {o:Obj} {g2 cap2:Nat} (hf4:Kb (fun k=>k=g) wr w4) (hv4:TyE (fun k=>Vol k ∨ s=some ⟨k,0,none⟩) x2 v2 w4)
  (hown:w6.ownsRow w.heap.size 32 4 (.slice (some ⟨g2,0,none⟩) (acc.length+1) cap2) (acc.length+1) (vs.flatMap cellsL++cellsL v2)) (hg:(w4.alloc o).grownBy w6 (Value.slice s acc.length cap).ownBlock) (hat:(Value.slice s acc.length cap).ownBlock=some g2 ∨ g2=(w4.alloc o).heap.size) :
  RowQ Vol g w w6 (some ⟨g2,0,none⟩) cap2 (acc++[x2]) (vs++[v2]):=by
 have hs4:=hf4.size
 have hB:=h.keep.size
 have hs6:w4.heap.size≤w6.heap.size:=by have:=hg.size;simp at this;omega
 have hblk:∀ j,j < w4.heap.size→some j ≠ (Value.slice s acc.length cap).ownBlock→w6.heap[j]?=w4.heap[j]?:=fun j hj hn=>(hg.block j (by simp;omega) hn).trans (Below.heap_alloc w4 o j hj)
 have hlen:(acc++[x2]).length=acc.length+1:=by simp
 have hnown:∀ j,j < w.heap.size→some j ≠ (Value.slice s acc.length cap).ownBlock:=fun j hj e=>by have:=(h.own.lt _ e.symm).1;omega
 have k5:=h.keep.trans hf4
 have hkeep:Kb (fun k=>k=g) w w6:=⟨hg.os.trans k5.os,hg.tape.trans k5.tape,hg.output.trans k5.output,by omega,fun j hj hn=>(hblk j (by omega) (hnown j hj)).trans (k5.block j hj hn)⟩
 have hkb:Kb (fun k=>Vol k ∨ s=some ⟨k,0,none⟩) w4 w6:=⟨hg.os,hg.tape,hg.output,hs6,fun k hk hn=>hblk k hk (fun e=>hn (.inr (by
  rcases h.val with ⟨_,_,rfl,_⟩ | ⟨k',rfl⟩
  ·cases e
  ·have e2:some k=some k':=e
   rw [Option.some.inj e2])))⟩
 have hnew:∀ k,k < w4.heap.size→(Vol k ∨ (some ⟨g2,0,none⟩:Option Addr)=some ⟨k,0,none⟩)→(Vol k ∨ s=some ⟨k,0,none⟩):=by
  rintro k hk (e | e)
  ·exact .inl e
  ·have e2:g2=k:=by injection e with e;injection e
   subst e2
   rcases hat with e3 | e3
   ·right
    rcases h.val with ⟨_,_,rfl,_⟩ | ⟨k',rfl⟩
    ·cases e3
    ·have e4:some k'=some g2:=e3
     rw [Option.some.inj e4]
   ·simp at e3
    omega
 have hk4:Kb (fun k=>Vol k ∨ s=some ⟨k,0,none⟩) wr w4:=hf4.wider (fun k _ (e:k=g)=>by subst e;exact .inl hvg)
 refine ⟨.inr ⟨g2,rfl⟩,by rw [hlen,flat_snoc];exact hown,by simp [h.len],fun i h1 h2=>?_,hkeep⟩
 by_cases hi:i < acc.length
 ·rw [List.getElem_append_left hi,List.getElem_append_left (by rw [h.len];exact hi)]
  exact TyE.step _ _ _ _ _ _ (TyE.step _ _ _ _ _ _ (h.els i hi (by rw [h.len];exact hi)) hk4 (fun _ _ e=>e)) hkb hnew
 ·have e:i=acc.length:=by rw [hlen] at h1;omega
  subst e
  have e1:(acc++[x2])[acc.length]'h1=x2:=by simp
  have e2:(vs++[v2])[acc.length]'h2=v2:=by
   rw [List.getElem_append_right (by rw [h.len];exact Nat.le_refl _)]
   simp [h.len]
  rw [e1,e2]
  exact TyE.step _ _ _ _ _ _ hv4 hkb hnew
end
def RenC (m d:Nat):Prop:=∀ (Vol:Nat→Prop) (mp:Nat) (met:List Nat) (t:TyT) (v:Value) (w:World),TyW d Vol t v w→goodT m t→MetB mp met w→Vol mp→(∀ k,Vol k→k < w.heap.size)→met.length+sizeT t≤1000000 →
 Calls Tryd.prog 69 #[v,.map (some mp)] w fun e w'=>∃ v',e=.returned v'∧TyE Vol (pl met t).2 v' w'∧MetB mp (pl met t).1 w'∧Kb (fun k=>k=mp) w w'
def CloC (m d:Nat) (F:FuncId):Prop:=∀ (Vol:Nat→Prop) (mp:Nat) (met:List Nat) (t:TyT) (v:Value) (X:Nat) (w:World),TyW d Vol t v w→goodT m t→MetB mp met w→Vol mp→(∀ k,Vol k→k < w.heap.size)→met.length+sizeT t≤1000000→w.heap[X]?=some (.cells #[.map (some mp)] 108 (0,0)) →
 Calls Tryd.prog F #[v,.pointer (some ⟨X,0,none⟩)] w fun e w'=>∃ v',e=.returned v'∧TyE Vol (pl met t).2 v' w'∧MetB mp (pl met t).1 w'∧Kb (fun k=>k=mp) w w'
section
variable {m:Nat}
set_option maxRecDepth 100000 in
set_option maxHeartbeats 4000000 in
theorem clo_ren (d:Nat) (HC:Hid (RenC m d)):CloC m d 91:=by
 intro Vol mp met t v X w hv gt hM hmp hvl hlen hX
 obtain ⟨A,l,c,rfl⟩:=hv.this
 have hB:Below w.heap.size w ((w.alloc (.cells #[.int .i64 t.kind,.string t.name,.int .i64 t.var,.slice A l c] 32)).alloc (.cells #[.int .i64 0,.string ⟨#[]⟩,.int .i64 0,.slice none 0 0] 32)):=(below_alloc _ _).alloc (by simp) _
 have hback:∀ k,k < w.heap.size→(Vol k ∨ k=w.heap.size+1)→Vol k:=fun k hk e=>by
  rcases e with e | e
  ·exact e
  ·omega
 have h1:((w.alloc (.cells #[.int .i64 t.kind,.string t.name,.int .i64 t.var,.slice A l c] 32)).alloc (.cells #[.int .i64 0,.string ⟨#[]⟩,.int .i64 0,.slice none 0 0] 32)).heap[w.heap.size+1]?=some (.cells #[.int .i64 0,.string ⟨#[]⟩,.int .i64 0,.slice none 0 0] 32):=by
  have:=heap_alloc_new (w.alloc (.cells #[.int .i64 t.kind,.string t.name,.int .i64 t.var,.slice A l c] 32)) (.cells #[.int .i64 0,.string ⟨#[]⟩,.int .i64 0,.slice none 0 0] 32)
  simpa using this
 have hsz:((w.alloc (.cells #[.int .i64 t.kind,.string t.name,.int .i64 t.var,.slice A l c] 32)).alloc (.cells #[.int .i64 0,.string ⟨#[]⟩,.int .i64 0,.slice none 0 0] 32)).heap.size=w.heap.size+2:=by simp
 have HX:=Lib.hid (HC.out (fun k=>Vol k ∨ k=w.heap.size+1) mp met t _ _ (TyW.step d _ _ _ _ _ _ hv (Kb.of_below hB) hback) gt (hM.below hB) (.inl hmp) (fun k e=>by
  rw [hsz]
  rcases e with e | e
  ·have:=hvl k e;omega
  ·omega) hlen)
 have x0:=(cellH ((hB.block X (Array.getElem?_eq_some_iff.1 hX).1).trans hX) 0).trans rfl
 have H1:=Lib.hid h1
 have HB:=Lib.hid hB
 have HSZ:=Lib.hid hsz
 have hml:mp < w.heap.size:=hvl mp hmp
 clear hv gt hM hmp hlen hX hB hback h1 hsz
 go_enter Tryd.func91,Tryd.ntmps91
 go_wp2_with fail
 refine HX.out.mono ?_
 rintro e w4 ⟨v4,rfl,hv4,hm4,hk4⟩
 obtain ⟨y5,y6,y7,rfl⟩:=hv4.this
 have HV4:=Lib.hid hv4
 have HM4:=Lib.hid hm4
 have H4:=Lib.hid ((hk4.block (w.heap.size+1) (by have:=HSZ.out;omega) (by omega)).trans H1.out)
 have HK4:=Lib.hid ((Kb.of_below (S:=fun k=>k=mp) HB.out).trans hk4)
 clear hv4 hm4 hk4 x0 HX H1
 generalize hz:pl met t=z at HV4 HM4
 have HZ:=Lib.hid hz
 clear hz
 have r0:=(cellH H4.out 0).trans rfl
 have r1:=(cellH H4.out 1).trans rfl
 have r2:=(cellH H4.out 2).trans rfl
 have r3:=(cellH H4.out 3).trans rfl
 have fr0:=frozenH H4.out 0
 have fr1:=frozenH H4.out 1
 have fr2:=frozenH H4.out 2
 have fr3:=frozenH H4.out 3
 go_wp2_with fail
 clear r0 r1 r2 r3 fr0 fr1 fr2 fr3
 have hk:=kput4 w4 (w.heap.size+1) (.int .i64 z.2.kind) (.string z.2.name) (.int .i64 z.2.var) (.slice y5 y6 y7)
 have hq:=put4 (.int .i64 z.2.kind) (.string z.2.name) (.int .i64 z.2.var) (.slice y5 y6 y7) H4.out
 generalize ((((w4.setCell ⟨w.heap.size+1,0,none⟩ (.int .i64 z.2.kind)).setCell ⟨w.heap.size+1,1,none⟩ (.string z.2.name)).setCell ⟨w.heap.size+1,2,none⟩ (.int .i64 z.2.var)).setCell ⟨w.heap.size+1,3,none⟩ (.slice y5 y6 y7))=W at hk hq ⊢
 have c0:=(cellH hq 0).trans rfl
 have c1:=(cellH hq 1).trans rfl
 have c2:=(cellH hq 2).trans rfl
 have c3:=(cellH hq 3).trans rfl
 exact bodyPost_ret (v:=.agg #[.int .i64 z.2.kind,.string z.2.name,.int .i64 z.2.var,.slice y5 y6 y7]) (by simp [results,Tryd.results91,go_sem,c0,c1,c2,c3]) rfl ⟨_,rfl,by rw [HZ.out];exact TyE.step _ _ _ _ _ _ HV4.out (hk.wider (fun k _ e=>.inr e)) (fun k _ e=>.inl e),by rw [HZ.out];exact HM4.out.kb hk (by omega),HK4.out.join hk (fun j hj e=>by omega)⟩
set_option maxRecDepth 100000 in
set_option maxHeartbeats 4000000 in
theorem clo_plain (d:Nat) (HC:Hid (RenC m d)):CloC m d 68:=by
 intro Vol mp met t v X w hv gt hM hmp hvl hlen hX
 obtain ⟨A,l,c,rfl⟩:=hv.this
 have hB:Below w.heap.size w ((w.alloc (.cells #[.int .i64 t.kind,.string t.name,.int .i64 t.var,.slice A l c] 32)).alloc (.cells #[.int .i64 0,.string ⟨#[]⟩,.int .i64 0,.slice none 0 0] 32)):=(below_alloc _ _).alloc (by simp) _
 have hback:∀ k,k < w.heap.size→(Vol k ∨ k=w.heap.size+1)→Vol k:=fun k hk e=>by
  rcases e with e | e
  ·exact e
  ·omega
 have h1:((w.alloc (.cells #[.int .i64 t.kind,.string t.name,.int .i64 t.var,.slice A l c] 32)).alloc (.cells #[.int .i64 0,.string ⟨#[]⟩,.int .i64 0,.slice none 0 0] 32)).heap[w.heap.size+1]?=some (.cells #[.int .i64 0,.string ⟨#[]⟩,.int .i64 0,.slice none 0 0] 32):=by
  have:=heap_alloc_new (w.alloc (.cells #[.int .i64 t.kind,.string t.name,.int .i64 t.var,.slice A l c] 32)) (.cells #[.int .i64 0,.string ⟨#[]⟩,.int .i64 0,.slice none 0 0] 32)
  simpa using this
 have hsz:((w.alloc (.cells #[.int .i64 t.kind,.string t.name,.int .i64 t.var,.slice A l c] 32)).alloc (.cells #[.int .i64 0,.string ⟨#[]⟩,.int .i64 0,.slice none 0 0] 32)).heap.size=w.heap.size+2:=by simp
 have HX:=Lib.hid (HC.out (fun k=>Vol k ∨ k=w.heap.size+1) mp met t _ _ (TyW.step d _ _ _ _ _ _ hv (Kb.of_below hB) hback) gt (hM.below hB) (.inl hmp) (fun k e=>by
  rw [hsz]
  rcases e with e | e
  ·have:=hvl k e;omega
  ·omega) hlen)
 have x0:=(cellH ((hB.block X (Array.getElem?_eq_some_iff.1 hX).1).trans hX) 0).trans rfl
 have H1:=Lib.hid h1
 have HB:=Lib.hid hB
 have HSZ:=Lib.hid hsz
 have hml:mp < w.heap.size:=hvl mp hmp
 clear hv gt hM hmp hlen hX hB hback h1 hsz
 go_enter Tryd.func68,Tryd.ntmps68
 go_wp2_with fail
 refine HX.out.mono ?_
 rintro e w4 ⟨v4,rfl,hv4,hm4,hk4⟩
 obtain ⟨y5,y6,y7,rfl⟩:=hv4.this
 have HV4:=Lib.hid hv4
 have HM4:=Lib.hid hm4
 have H4:=Lib.hid ((hk4.block (w.heap.size+1) (by have:=HSZ.out;omega) (by omega)).trans H1.out)
 have HK4:=Lib.hid ((Kb.of_below (S:=fun k=>k=mp) HB.out).trans hk4)
 clear hv4 hm4 hk4 x0 HX H1
 generalize hz:pl met t=z at HV4 HM4
 have HZ:=Lib.hid hz
 clear hz
 have r0:=(cellH H4.out 0).trans rfl
 have r1:=(cellH H4.out 1).trans rfl
 have r2:=(cellH H4.out 2).trans rfl
 have r3:=(cellH H4.out 3).trans rfl
 have fr0:=frozenH H4.out 0
 have fr1:=frozenH H4.out 1
 have fr2:=frozenH H4.out 2
 have fr3:=frozenH H4.out 3
 go_wp2_with fail
 clear r0 r1 r2 r3 fr0 fr1 fr2 fr3
 have hk:=kput4 w4 (w.heap.size+1) (.int .i64 z.2.kind) (.string z.2.name) (.int .i64 z.2.var) (.slice y5 y6 y7)
 have hq:=put4 (.int .i64 z.2.kind) (.string z.2.name) (.int .i64 z.2.var) (.slice y5 y6 y7) H4.out
 generalize ((((w4.setCell ⟨w.heap.size+1,0,none⟩ (.int .i64 z.2.kind)).setCell ⟨w.heap.size+1,1,none⟩ (.string z.2.name)).setCell ⟨w.heap.size+1,2,none⟩ (.int .i64 z.2.var)).setCell ⟨w.heap.size+1,3,none⟩ (.slice y5 y6 y7))=W at hk hq ⊢
 have c0:=(cellH hq 0).trans rfl
 have c1:=(cellH hq 1).trans rfl
 have c2:=(cellH hq 2).trans rfl
 have c3:=(cellH hq 3).trans rfl
 exact bodyPost_ret (v:=.agg #[.int .i64 z.2.kind,.string z.2.name,.int .i64 z.2.var,.slice y5 y6 y7]) (by simp [results,Tryd.results68,go_sem,c0,c1,c2,c3]) rfl ⟨_,rfl,by rw [HZ.out];exact TyE.step _ _ _ _ _ _ HV4.out (hk.wider (fun k _ e=>.inr e)) (fun k _ e=>.inl e),by rw [HZ.out];exact HM4.out.kb hk (by omega),HK4.out.join hk (fun j hj e=>by omega)⟩
set_option maxRecDepth 100000 in
set_option maxHeartbeats 4000000 in
theorem eachRen (d X:Nat) (HC:Hid (CloC m d 91)) (Vol:Nat→Prop) (mp:Nat) (met:List Nat) (l:List TyT) (v:Value) (w:World) (hv:RowW 4 (TyW d) Vol l v w) (gt:goodTs m l) (hM:MetB mp met w) (hmp:Vol mp) (hvl:∀ k,Vol k→k < w.heap.size) (hlen:met.length+sizeTs l≤1000000) (hX:w.heap[X]?=some (.cells #[.map (some mp)] 108 (0,0))) (hXV:¬ Vol X) :
  Calls Tryd.prog 67 #[v,.func (.func 91) #[] #[.pointer (some ⟨X,0,none⟩)]] w fun e w'=>∃ v',e=.returned v'∧RowW 4 TyE Vol (pls met l).2 v' w'∧MetB mp (pls met l).1 w'∧Kb (fun k=>k=mp) w w':=by
 obtain ⟨A,c,rfl⟩:=hv.slice
 have HV:=Lib.hid hv
 have HVL:=Lib.hid hvl
 have HGT:=Lib.hid gt
 have HM:=Lib.hid hM
 have HMP:=Lib.hid hmp
 have HLEN:=Lib.hid hlen
 have HX0:=Lib.hid hX
 have HXV:=Lib.hid hXV
 have hl:l.length≤1000000:=by have:=len_size l;omega
 obtain ⟨i0,hi0,hz0,hz1,hz2⟩:=info_parts infoTy
 have HI0:=Lib.hid hi0
 have HI1:=Lib.hid hz0
 have HI2:=Lib.hid hz1
 have HI3:=Lib.hid hz2
 clear hi0 hz0 hz1 hz2 hv hvl gt hM hmp hlen hX hXV
 go_enter Tryd.func67,Tryd.ntmps67
 go_wp2_with fail
 go_loopw [5,10] (fun v t wr=>∃ (k:Nat) (s':Option Addr) (cap':Nat) (vs:List Value),k≤l.length∧t=.int .i64 k∧v=.slice s' k cap'∧Hid (RowQ Vol mp w wr s' cap' (pls met (l.take k)).2 vs)∧Hid (MetB mp (pls met (l.take k)).1 wr)) (fun _ t _=>l.length - (intOf t).toNat)
 case atStart=>exact ⟨0,none,0,[],Nat.zero_le _,rfl,rfl,Lib.hid (by rw [List.take_zero,pls];exact RowQ.start Vol mp w),Lib.hid (by rw [List.take_zero,pls];exact HM.out)⟩
 case round =>
  obtain ⟨k,s',cap',vs,hk,rfl,rfl,HR,HTK⟩:=hrel
  have hlk:(pls met (l.take k)).2.length=k:=by rw [pls_length,List.length_take];omega
  have HLK:=Lib.hid hlk
  by_cases hlt:k < l.length
  ·have hsl:∀ j,j < w.heap.size→s' ≠ some ⟨j,0,none⟩:=fun j hj e=>by have:=(HR.out.own.lt j (by rw [e];rfl)).1;omega
   obtain ⟨gg,o,vi,rfl,hg,_,hvi,hc⟩:=RowW.at (RowW.step (TyW.step d) Vol (fun k=>Vol k ∨ s'=some ⟨k,0,none⟩) _ _ _ _ HV.out (HR.out.keep.wider (fun k _ (e:k=mp)=>by subst e;exact HMP.out)) (fun j hj e=>e.elim id (fun e=>absurd e (hsl j hj)))) k hlt
   obtain ⟨B1,n1,c1,rfl⟩:=hvi.this
   have a0:=(hc 0 (by decide)).trans rfl
   have a1:=(hc 1 (by decide)).trans rfl
   have a2:=(hc 2 (by decide)).trans rfl
   have a3:=(hc 3 (by decide)).trans rfl
   simp only [cellsL,Value.cells,List.getElem?_cons_zero,List.getElem?_cons_succ,Nat.add_zero] at a0 a1 a2 a3
   have hk0:(0:Int)≤(k:Int):=by omega
   have hk1:(k:Int) < (l.length:Int):=by omega
   have hdc:decide (k < l.length)=true:=by simpa using hlt
   have htk:=pls_take met hlt
   have HBZ:=Lib.hid (below_alloc wr (.cells #[.int .i64 l[k].kind,.string l[k].name,.int .i64 l[k].var,.slice B1 n1 c1] 32))
   have HMN:=Lib.hid (HR.out.mine HVL.out)
   have hXr:=(HBZ.out.block X (Nat.lt_of_lt_of_le (Array.getElem?_eq_some_iff.1 HX0.out).1 HR.out.keep.size)).trans ((HR.out.keep.block X (Array.getElem?_eq_some_iff.1 HX0.out).1 (fun e=>HXV.out (e ▸ HMP.out))).trans HX0.out)
   have HX:=Lib.hid (HC.out _ mp (pls met (l.take k)).1 l[k] _ X _ ((TyW.step d).below hvi HBZ.out) (goodTs_mem HGT.out hlt) (HTK.out.below HBZ.out) (.inl HMP.out) (fun k e=>Nat.lt_of_lt_of_le (HMN.out k e) HBZ.out.size) (by
    have h1:=pls_few met (l.take k)
    have h2:=sizes_take l (k+1)
    rw [List.take_succ_eq_append_getElem hlt,sizes_snoc] at h2
    have:=HLEN.out
    omega) hXr)
   have HXZ:=Lib.hid (Kb.of_below (S:=fun k=>k=mp) HBZ.out)
   have HTKK:=Lib.hid htk
   clear hc hvi hlk hsl hXr htk
   generalize hxx:l[k]=x at HX HTKK HBZ HXZ a0 a1 a2 ⊢
   go_wp2_with (first
    | (go_at_call 91;refine HX.out.mono ?_;rintro e w4 ⟨v4,rfl,hv4,ht4,hk4⟩;obtain ⟨y5,y6,y7,hv4e⟩:=hv4.this;generalize hpl:(pl (pls met (l.take k)).1 x)=z at hv4e hv4 ht4;subst hv4e;have HPL:=Lib.hid hpl;clear hpl;have HV4:=Lib.hid hv4;have HT4:=Lib.hid ht4;have HK4:=Lib.hid (HXZ.out.trans hk4);have HO4:=Lib.hid (own_kb HR.out.own HK4.out (fun k e (e2:k=mp)=>by have:=(HR.out.own.lt k e).1;have:=HVL.out mp HMP.out;omega));have hs4:=HR.out.keep.size;have hs5:=HK4.out.size;rw [HLK.out] at HO4;clear hv4 ht4 hk4)
    | (at_builtin;refine wpList_append_lies _ rfl _ _ 27 rfl w.heap.size 32 i0 (.agg #[.int .i64 0,.string ⟨#[]⟩,.int .i64 0,.slice none 0 0]) 4 56 Tryd.underlying27 HI0.out HI1.out HI2.out HI3.out rfl (by decide) _ _ _ rfl (HO4.out.alloc _) ⟨w4.heap.size,0,none⟩ 1 1 [.int .i64 z.2.kind,.string z.2.name,.int .i64 z.2.var,.slice y5 y6 y7] rfl rfl (cells_new _ #[.int .i64 z.2.kind,.string z.2.name,.int .i64 z.2.var,.slice y5 y6 y7] _ _ rfl) (by simp [Value.oneCell']) (by decide) (by unfold maxLen;omega) (by omega) (by simp;omega) _ rfl ?_;intro g2 cap2 w6 hown6 hg6 hat6 _;have HO6:=Lib.hid hown6;have HG6:=Lib.hid hg6;have HA6:=Lib.hid hat6;clear hown6 hg6 hat6))
   have HNX:Hid (RowQ Vol mp w w6 (some ⟨g2,0,none⟩) cap2 (pls met (l.take (k+1))).2 (vs++[Value.agg #[.int .i64 z.2.kind,.string z.2.name,.int .i64 z.2.var,.slice y5 y6 y7]])):=Lib.hid (by
    rw [HTKK.out,HPL.out]
    exact HR.out.snoc HMP.out HK4.out HV4.out (by rw [HLK.out];exact HO6.out) (by rw [HLK.out];exact HG6.out) (by rw [HLK.out];exact HA6.out))
   have HT6:Hid (MetB mp (pls met (l.take (k+1))).1 w6):=Lib.hid (by
    rw [HTKK.out,HPL.out]
    have h1:=HT4.out.below (below_alloc w4 (.cells #[.int .i64 z.2.kind,.string z.2.name,.int .i64 z.2.var,.slice y5 y6 y7] 32))
    have hg:=HG6.out
    refine h1.kb (S:=fun j=>(Value.slice s' k cap').ownBlock=some j) ⟨hg.os,hg.tape,hg.output,hg.size,fun j hj hn=>hg.block j hj (fun e=>hn e.symm)⟩ (fun e=>?_)
    have h2:=(HO4.out.lt mp e).1
    have:=HVL.out mp HMP.out
    omega)
   go_roundw
   case rel=>exact ⟨k+1,some ⟨g2,0,none⟩,cap2,_,by omega,by go_num,rfl,HNX,HT6⟩
   case measure=>simp [intOf];omega
  ·obtain rfl:k=l.length:=by omega
   have hdc:decide (l.length < l.length)=false:=by simp
   rw [List.take_length] at HR HTK
   go_wp2_with fail
   go_ret
   refine ⟨_,rfl,?_,HTK.out,HR.out.keep⟩
   have h1:=HR.out.held HVL.out
   rw [pls_length] at h1
   exact h1
set_option maxRecDepth 100000 in
set_option maxHeartbeats 4000000 in
theorem eachPlain (d X:Nat) (HC:Hid (CloC m d 68)) (Vol:Nat→Prop) (mp:Nat) (met:List Nat) (l:List TyT) (v:Value) (w:World) (hv:RowW 4 (TyW d) Vol l v w) (gt:goodTs m l) (hM:MetB mp met w) (hmp:Vol mp) (hvl:∀ k,Vol k→k < w.heap.size) (hlen:met.length+sizeTs l≤1000000) (hX:w.heap[X]?=some (.cells #[.map (some mp)] 108 (0,0))) (hXV:¬ Vol X) :
  Calls Tryd.prog 67 #[v,.func (.func 68) #[] #[.pointer (some ⟨X,0,none⟩)]] w fun e w'=>∃ v',e=.returned v'∧RowW 4 TyE Vol (pls met l).2 v' w'∧MetB mp (pls met l).1 w'∧Kb (fun k=>k=mp) w w':=by
 obtain ⟨A,c,rfl⟩:=hv.slice
 have HV:=Lib.hid hv
 have HVL:=Lib.hid hvl
 have HGT:=Lib.hid gt
 have HM:=Lib.hid hM
 have HMP:=Lib.hid hmp
 have HLEN:=Lib.hid hlen
 have HX0:=Lib.hid hX
 have HXV:=Lib.hid hXV
 have hl:l.length≤1000000:=by have:=len_size l;omega
 obtain ⟨i0,hi0,hz0,hz1,hz2⟩:=info_parts infoTy
 have HI0:=Lib.hid hi0
 have HI1:=Lib.hid hz0
 have HI2:=Lib.hid hz1
 have HI3:=Lib.hid hz2
 clear hi0 hz0 hz1 hz2 hv hvl gt hM hmp hlen hX hXV
 go_enter Tryd.func67,Tryd.ntmps67
 go_wp2_with fail
 go_loopw [5,10] (fun v t wr=>∃ (k:Nat) (s':Option Addr) (cap':Nat) (vs:List Value),k≤l.length∧t=.int .i64 k∧v=.slice s' k cap'∧Hid (RowQ Vol mp w wr s' cap' (pls met (l.take k)).2 vs)∧Hid (MetB mp (pls met (l.take k)).1 wr)) (fun _ t _=>l.length - (intOf t).toNat)
 case atStart=>exact ⟨0,none,0,[],Nat.zero_le _,rfl,rfl,Lib.hid (by rw [List.take_zero,pls];exact RowQ.start Vol mp w),Lib.hid (by rw [List.take_zero,pls];exact HM.out)⟩
 case round =>
  obtain ⟨k,s',cap',vs,hk,rfl,rfl,HR,HTK⟩:=hrel
  have hlk:(pls met (l.take k)).2.length=k:=by rw [pls_length,List.length_take];omega
  have HLK:=Lib.hid hlk
  by_cases hlt:k < l.length
  ·have hsl:∀ j,j < w.heap.size→s' ≠ some ⟨j,0,none⟩:=fun j hj e=>by have:=(HR.out.own.lt j (by rw [e];rfl)).1;omega
   obtain ⟨gg,o,vi,rfl,hg,_,hvi,hc⟩:=RowW.at (RowW.step (TyW.step d) Vol (fun k=>Vol k ∨ s'=some ⟨k,0,none⟩) _ _ _ _ HV.out (HR.out.keep.wider (fun k _ (e:k=mp)=>by subst e;exact HMP.out)) (fun j hj e=>e.elim id (fun e=>absurd e (hsl j hj)))) k hlt
   obtain ⟨B1,n1,c1,rfl⟩:=hvi.this
   have a0:=(hc 0 (by decide)).trans rfl
   have a1:=(hc 1 (by decide)).trans rfl
   have a2:=(hc 2 (by decide)).trans rfl
   have a3:=(hc 3 (by decide)).trans rfl
   simp only [cellsL,Value.cells,List.getElem?_cons_zero,List.getElem?_cons_succ,Nat.add_zero] at a0 a1 a2 a3
   have hk0:(0:Int)≤(k:Int):=by omega
   have hk1:(k:Int) < (l.length:Int):=by omega
   have hdc:decide (k < l.length)=true:=by simpa using hlt
   have htk:=pls_take met hlt
   have HBZ:=Lib.hid (below_alloc wr (.cells #[.int .i64 l[k].kind,.string l[k].name,.int .i64 l[k].var,.slice B1 n1 c1] 32))
   have HMN:=Lib.hid (HR.out.mine HVL.out)
   have hXr:=(HBZ.out.block X (Nat.lt_of_lt_of_le (Array.getElem?_eq_some_iff.1 HX0.out).1 HR.out.keep.size)).trans ((HR.out.keep.block X (Array.getElem?_eq_some_iff.1 HX0.out).1 (fun e=>HXV.out (e ▸ HMP.out))).trans HX0.out)
   have HX:=Lib.hid (HC.out _ mp (pls met (l.take k)).1 l[k] _ X _ ((TyW.step d).below hvi HBZ.out) (goodTs_mem HGT.out hlt) (HTK.out.below HBZ.out) (.inl HMP.out) (fun k e=>Nat.lt_of_lt_of_le (HMN.out k e) HBZ.out.size) (by
    have h1:=pls_few met (l.take k)
    have h2:=sizes_take l (k+1)
    rw [List.take_succ_eq_append_getElem hlt,sizes_snoc] at h2
    have:=HLEN.out
    omega) hXr)
   have HXZ:=Lib.hid (Kb.of_below (S:=fun k=>k=mp) HBZ.out)
   have HTKK:=Lib.hid htk
   clear hc hvi hlk hsl hXr htk
   generalize hxx:l[k]=x at HX HTKK HBZ HXZ a0 a1 a2 ⊢
   go_wp2_with (first
    | (go_at_call 68;refine HX.out.mono ?_;rintro e w4 ⟨v4,rfl,hv4,ht4,hk4⟩;obtain ⟨y5,y6,y7,hv4e⟩:=hv4.this;generalize hpl:(pl (pls met (l.take k)).1 x)=z at hv4e hv4 ht4;subst hv4e;have HPL:=Lib.hid hpl;clear hpl;have HV4:=Lib.hid hv4;have HT4:=Lib.hid ht4;have HK4:=Lib.hid (HXZ.out.trans hk4);have HO4:=Lib.hid (own_kb HR.out.own HK4.out (fun k e (e2:k=mp)=>by have:=(HR.out.own.lt k e).1;have:=HVL.out mp HMP.out;omega));have hs4:=HR.out.keep.size;have hs5:=HK4.out.size;rw [HLK.out] at HO4;clear hv4 ht4 hk4)
    | (at_builtin;refine wpList_append_lies _ rfl _ _ 27 rfl w.heap.size 32 i0 (.agg #[.int .i64 0,.string ⟨#[]⟩,.int .i64 0,.slice none 0 0]) 4 56 Tryd.underlying27 HI0.out HI1.out HI2.out HI3.out rfl (by decide) _ _ _ rfl (HO4.out.alloc _) ⟨w4.heap.size,0,none⟩ 1 1 [.int .i64 z.2.kind,.string z.2.name,.int .i64 z.2.var,.slice y5 y6 y7] rfl rfl (cells_new _ #[.int .i64 z.2.kind,.string z.2.name,.int .i64 z.2.var,.slice y5 y6 y7] _ _ rfl) (by simp [Value.oneCell']) (by decide) (by unfold maxLen;omega) (by omega) (by simp;omega) _ rfl ?_;intro g2 cap2 w6 hown6 hg6 hat6 _;have HO6:=Lib.hid hown6;have HG6:=Lib.hid hg6;have HA6:=Lib.hid hat6;clear hown6 hg6 hat6))
   have HNX:Hid (RowQ Vol mp w w6 (some ⟨g2,0,none⟩) cap2 (pls met (l.take (k+1))).2 (vs++[Value.agg #[.int .i64 z.2.kind,.string z.2.name,.int .i64 z.2.var,.slice y5 y6 y7]])):=Lib.hid (by
    rw [HTKK.out,HPL.out]
    exact HR.out.snoc HMP.out HK4.out HV4.out (by rw [HLK.out];exact HO6.out) (by rw [HLK.out];exact HG6.out) (by rw [HLK.out];exact HA6.out))
   have HT6:Hid (MetB mp (pls met (l.take (k+1))).1 w6):=Lib.hid (by
    rw [HTKK.out,HPL.out]
    have h1:=HT4.out.below (below_alloc w4 (.cells #[.int .i64 z.2.kind,.string z.2.name,.int .i64 z.2.var,.slice y5 y6 y7] 32))
    have hg:=HG6.out
    refine h1.kb (S:=fun j=>(Value.slice s' k cap').ownBlock=some j) ⟨hg.os,hg.tape,hg.output,hg.size,fun j hj hn=>hg.block j hj (fun e=>hn e.symm)⟩ (fun e=>?_)
    have h2:=(HO4.out.lt mp e).1
    have:=HVL.out mp HMP.out
    omega)
   go_roundw
   case rel=>exact ⟨k+1,some ⟨g2,0,none⟩,cap2,_,by omega,by go_num,rfl,HNX,HT6⟩
   case measure=>simp [intOf];omega
  ·obtain rfl:k=l.length:=by omega
   have hdc:decide (l.length < l.length)=false:=by simp
   rw [List.take_length] at HR HTK
   go_wp2_with fail
   go_ret
   refine ⟨_,rfl,?_,HTK.out,HR.out.keep⟩
   have h1:=HR.out.held HVL.out
   rw [pls_length] at h1
   exact h1
end
end Lx
end Go.Proofs.YtnpacamcgifabaaDoor
namespace Go.Proofs.YtnpacamcgifabaaDoor
set_option linter.unusedSimpArgs false
set_option linter.unusedVariables false
namespace Lx
open Go Go.RowKit
theorem wfNat {n:Int} (h:0≤n∧n≤1000000000):(Lit.int .i64 n).wf=true:=by
 have h1:IntKind.i64.min=-9223372036854775808:=by decide
 have h2:IntKind.i64.max=9223372036854775807:=by decide
 simp [Lit.wf,h1,h2]
 omega
theorem runLook (mp:Nat) (met:List Nat) (i:Nat) (W:World) (h:MetB mp met W) (hi:(i:Int)≤1000000000):(Instr.lookup 108 (.map (some mp)) (.int .i64 (i:Int)) true).run Tryd.prog W=if i ∈ met then .ok (.tuple #[.int .i64 ((posN i met:Nat):Int),.bool true]) W else .ok (.tuple #[.int .i64 0,.bool false]) W:=by
 obtain ⟨kl,hkl⟩:=keyI (n:=(i:Int)) (wfNat (by omega))
 rcases h.1.look keyInt Tryd.underlying108 (zeroInt _) hkl with ⟨h1,h2⟩ | ⟨v,h1,h2⟩
 ·rw [if_neg (fun hin=>by
   obtain ⟨v,hv⟩:=entM_in hin
   exact h1 _ hv rfl)]
  exact h2
 ·obtain ⟨h3,rfl⟩:=entM_mem h1 h.2.1
  rw [if_pos h3]
  exact h2
theorem runPut (mp:Nat) (met:List Nat) (i:Nat) (W:World) (h:MetB mp met W) (hi:(i:Int)≤1000000000) (hin:i ∉ met) (hlen:met.length < 1000000):∃ W1,(Instr.mapUpdate 108 (.map (some mp)) (.int .i64 (i:Int)) (.int .i64 (met.length:Int))).run Tryd.prog W=.ok () W1∧MetB mp (met++[i]) W1∧Kb (fun k=>k=mp) W W1:=by
 obtain ⟨kl,hkl⟩:=keyI (n:=(i:Int)) (wfNat (by omega))
 obtain ⟨W1,h1,h2,h3⟩:=h.1.put keyInt Tryd.underlying108 hkl (val:=.int .i64 (met.length:Int)) (fun p hp e=>by
  obtain ⟨k,v⟩:=p
  have e:k=.int .i64 (i:Int):=e
  subst e
  exact hin (entM_mem hp h.2.1).1)
 refine ⟨W1,h1,⟨by rw [entM_snoc];exact h2,?_,by simp;omega⟩,h3⟩
 rw [List.nodup_append]
 exact ⟨h.2.1,by simp,fun a ha b hb=>by
  rw [List.mem_singleton.1 hb]
  intro e
  exact hin (e ▸ ha)⟩
section
variable {m:Nat}
set_option maxRecDepth 100000 in
set_option maxHeartbeats 4000000 in
theorem ren_step (hms:m≤1000000) (d:Nat) (HC:Hid (∀ d',d'≤d→RenC m d')):RenC m (d+1):=by
 intro Vol mp met t v w hv gt hM hmp hvl hlen
 obtain ⟨A,l,c,rfl⟩:=hv.this
 obtain ⟨d',hrow⟩:=hv.row
 obtain rfl:=hrow.len
 have hd':RowW 4 (TyW d) Vol t.args (.slice A t.args.length c) w:=by
  obtain ⟨k,s,n,l⟩:=t
  obtain ⟨va,e,h1⟩:=hv
  injection e with e
  have e2:=congrArg (fun a:Array Value=>a[3]?) e
  have e3:(.slice A (TyT.mk k s n l).args.length c:Value)=va:=by simpa using e2
  exact e3 ▸ h1
 have hB:Below w.heap.size w (((w.alloc (.cells #[.int .i64 t.kind,.string t.name,.int .i64 t.var,.slice A t.args.length c] 32)).alloc (.cells #[.map (some mp)] 108)).alloc (.cells #[.int .i64 0,.string ⟨#[]⟩,.int .i64 0,.slice none 0 0] 32)):=((below_alloc _ _).alloc (by simp) _).alloc (by simp;omega) _
 have hsz:(((w.alloc (.cells #[.int .i64 t.kind,.string t.name,.int .i64 t.var,.slice A t.args.length c] 32)).alloc (.cells #[.map (some mp)] 108)).alloc (.cells #[.int .i64 0,.string ⟨#[]⟩,.int .i64 0,.slice none 0 0] 32)).heap.size=w.heap.size+3:=by simp
 have h0:(((w.alloc (.cells #[.int .i64 t.kind,.string t.name,.int .i64 t.var,.slice A t.args.length c] 32)).alloc (.cells #[.map (some mp)] 108)).alloc (.cells #[.int .i64 0,.string ⟨#[]⟩,.int .i64 0,.slice none 0 0] 32)).heap[w.heap.size]?=some (.cells #[.int .i64 t.kind,.string t.name,.int .i64 t.var,.slice A t.args.length c] 32 (0,0)):=(Below.heap_alloc _ _ w.heap.size (by simp;omega)).trans ((Below.heap_alloc _ _ w.heap.size (by simp)).trans (heap_alloc_new _ _))
 have h1:(((w.alloc (.cells #[.int .i64 t.kind,.string t.name,.int .i64 t.var,.slice A t.args.length c] 32)).alloc (.cells #[.map (some mp)] 108)).alloc (.cells #[.int .i64 0,.string ⟨#[]⟩,.int .i64 0,.slice none 0 0] 32)).heap[w.heap.size+1]?=some (.cells #[.map (some mp)] 108 (0,0)):=(Below.heap_alloc _ _ (w.heap.size+1) (by simp)).trans (by
  have:=heap_alloc_new (w.alloc (.cells #[.int .i64 t.kind,.string t.name,.int .i64 t.var,.slice A t.args.length c] 32)) (.cells #[.map (some mp)] 108)
  simpa using this)
 have h2:(((w.alloc (.cells #[.int .i64 t.kind,.string t.name,.int .i64 t.var,.slice A t.args.length c] 32)).alloc (.cells #[.map (some mp)] 108)).alloc (.cells #[.int .i64 0,.string ⟨#[]⟩,.int .i64 0,.slice none 0 0] 32)).heap[w.heap.size+2]?=some (.cells #[.int .i64 0,.string ⟨#[]⟩,.int .i64 0,.slice none 0 0] 32 (0,0)):=by
  have:=heap_alloc_new ((w.alloc (.cells #[.int .i64 t.kind,.string t.name,.int .i64 t.var,.slice A t.args.length c] 32)).alloc (.cells #[.map (some mp)] 108)) (.cells #[.int .i64 0,.string ⟨#[]⟩,.int .i64 0,.slice none 0 0] 32)
  simpa using this
 have hback:∀ k,k < w.heap.size→(Vol k ∨ k=w.heap.size ∨ k=w.heap.size+2)→Vol k:=fun k hk e=>by
  rcases e with e | e | e
  ·exact e
  ·omega
  ·omega
 have HVL3:Hid (∀ W:World,w.heap.size+3≤W.heap.size→∀ k,(Vol k ∨ k=w.heap.size ∨ k=w.heap.size+2)→k < W.heap.size):=Lib.hid (fun W h k e=>by
  rcases e with e | e | e
  ·have:=hvl k e;omega
  ·omega
  ·omega)
 have HML:=Lib.hid (hvl mp hmp)
 have HMP:=Lib.hid hmp
 have HNX:Hid (¬ (Vol (w.heap.size+1) ∨ w.heap.size+1=w.heap.size ∨ w.heap.size+1=w.heap.size+2)):=Lib.hid (fun e=>by
  rcases e with e | e | e
  ·have:=hvl _ e;omega
  ·omega
  ·omega)
 have HB:=Lib.hid hB
 have HY0:=Lib.hid h0
 have HY1:=Lib.hid h1
 have HY2:=Lib.hid h2
 have HVY:=Lib.hid (RowW.step (TyW.step d) _ (fun k=>Vol k ∨ k=w.heap.size ∨ k=w.heap.size+2) _ _ _ _ hd' (Kb.of_below hB) hback)
 have HMY:=Lib.hid (hM.below hB)
 have HSZY:=Lib.hid (Nat.le_of_eq hsz.symm)
 have HGT:=Lib.hid gt
 have HLN:=Lib.hid hlen
 clear hv hrow hd' hM hmp hvl hlen hB hsz h0 h1 h2 hback
 by_cases k4:t.kind=4
 ·obtain ⟨i,hi,ht⟩:=good_free gt k4
  have e4:(t.kind == 4)=true:=by simpa using k4
  have htv:t.var=(i:Int):=by rw [ht];rfl
  have HGA:Hid (goodTs m t.args):=Lib.hid (by rw [ht];trivial)
  have hlk:=runLook mp met i (((w.alloc (.cells #[.int .i64 t.kind,.string t.name,.int .i64 t.var,.slice A t.args.length c] 32)).alloc (.cells #[.map (some mp)] 108)).alloc (.cells #[.int .i64 0,.string ⟨#[]⟩,.int .i64 0,.slice none 0 0] 32)) HMY.out (by omega)
  rw [← htv] at hlk
  have HT:=Lib.hid ht
  have hvar:(fr i).var=(i:Int):=rfl
  by_cases hin:i ∈ met
  ·rw [if_pos hin] at hlk
   have hpl:pl met t=((pls met t.args).1,.mk t.kind t.name ((posN i met:Nat):Int) (pls met t.args).2):=by
    rw [ht,fr,pl]
    simp only [if_true,Int.toNat_natCast,if_pos hin,TyT.args,TyT.kind,TyT.name,pls]
    rfl
   have HLEN1:Hid (met.length+sizeTs t.args≤1000000):=Lib.hid (by
    have:=HLN.out
    rw [ht] at this ⊢
    rw [size_fr] at this
    show _+sizeTs []≤_
    rw [sizeTs]
    omega)
   have HPL:=Lib.hid hpl
   clear gt k4 hpl hi
   generalize ((posN i met:Nat):Int)=p1 at hlk HPL
   clear ht htv hin
   go_enter Tryd.func69,Tryd.ntmps69
   go_upto_region 1 with fail
   generalize (((w.alloc (.cells #[.int .i64 t.kind,.string t.name,.int .i64 t.var,.slice A t.args.length c] 32)).alloc (.cells #[.map (some mp)] 108)).alloc (.cells #[.int .i64 0,.string ⟨#[]⟩,.int .i64 0,.slice none 0 0] 32))=Y at HB HY0 HY1 HY2 HVY HMY HSZY hlk ⊢
   have a0:=(cellH HY0.out 0).trans rfl
   have a1:=(cellH HY0.out 1).trans rfl
   have a2:=(cellH HY0.out 2).trans rfl
   have a3:=(cellH HY0.out 3).trans rfl
   have f2:=frozenH HY0.out 2
   have m0:=(cellH HY1.out 0).trans rfl
   have hq:=blk_put Y w.heap.size 2 (.int .i64 p1) HY0.out (by show 2 < 4;decide)
   have hk:=(Kb.refl (fun k=>k=w.heap.size) Y).put (p:=⟨w.heap.size,2,none⟩) rfl (.int .i64 p1)
   have y3:=(cellH hq 3).trans rfl
   go_wp2_with fail
   generalize (Y.setCell ⟨w.heap.size,2,none⟩ (.int .i64 p1))=Z at hq hk y3 ⊢
   have HSZ:=Lib.hid (Nat.le_trans HSZY.out hk.size)
   have HZ0:Hid (Z.heap[w.heap.size]?=some (.cells #[.int .i64 t.kind,.string t.name,.int .i64 p1,.slice A t.args.length c] 32 (0,0))):=Lib.hid hq
   have HZ1:=Lib.hid ((hk.block (w.heap.size+1) (by have:=HSZY.out;omega) (by omega)).trans HY1.out)
   have HZ2:=Lib.hid ((hk.block (w.heap.size+2) (by have:=HSZY.out;omega) (by omega)).trans HY2.out)
   have HVZ:=Lib.hid (RowW.step (TyW.step d) _ (fun k=>Vol k ∨ k=w.heap.size ∨ k=w.heap.size+2) _ _ _ _ HVY.out (hk.wider (fun k _ e=>.inr (.inl e))) (fun _ _ e=>e))
   have HMZ:=Lib.hid (HMY.out.kb hk (fun e=>by have:=HML.out;omega))
   have HKZ:=Lib.hid ((Kb.of_below (S:=fun k=>k=mp) HB.out).join hk (fun j hj e=>by omega))
   clear hq hk
   have hpl:=HPL.out
   have HEQ:=Lib.hid hpl
   clear hpl
   refine (eachRen d (w.heap.size+1) (Lib.hid (clo_ren d (Lib.hid (HC.out d (Nat.le_refl _))))) (fun k=>Vol k ∨ k=w.heap.size ∨ k=w.heap.size+2) mp met t.args _ Z HVZ.out HGA.out HMZ.out (.inl HMP.out) (HVL3.out Z HSZ.out) HLEN1.out HZ1.out HNX.out).mono ?_
   rintro e w5 ⟨v5,rfl,hv5,hm5,hk5⟩
   obtain ⟨A5,c5,hve⟩:=hv5.slice
   generalize hl5:(pls met t.args).2.length=l5 at hve
   subst hve
   have HV5:=Lib.hid hv5
   have HM5:=Lib.hid hm5
   have HB5:=Lib.hid ((hk5.block w.heap.size (by have:=HSZ.out;omega) (by have:=HML.out;omega)).trans HZ0.out)
   have HR5:=Lib.hid ((hk5.block (w.heap.size+2) (by have:=HSZ.out;omega) (by have:=HML.out;omega)).trans HZ2.out)
   have HK5:=Lib.hid (HKZ.out.trans hk5)
   have HSZ5:=Lib.hid (show w.heap.size+3≤w5.heap.size by have:=HSZ.out;have:=hk5.size;omega)
   clear hv5 hm5 hk5 hl5 a0 a1 a2 a3 m0 f2
   have x0:=(cellH HB5.out 0).trans rfl
   have x1:=(cellH HB5.out 1).trans rfl
   have x2:=(cellH HB5.out 2).trans rfl
   have x3:=(cellH HB5.out 3).trans rfl
   have fx3:=frozenH HB5.out 3
   have r0:=(cellH HR5.out 0).trans rfl
   have r1:=(cellH HR5.out 1).trans rfl
   have r2:=(cellH HR5.out 2).trans rfl
   have r3:=(cellH HR5.out 3).trans rfl
   have fr0:=frozenH HR5.out 0
   have fr1:=frozenH HR5.out 1
   have fr2:=frozenH HR5.out 2
   have fr3:=frozenH HR5.out 3
   go_wp2_with fail
   have hr':=(Below.heap_setCell w5 ⟨w.heap.size,3,none⟩ (.slice A5 l5 c5) (w.heap.size+2) (by show w.heap.size+2 ≠ w.heap.size;omega)).trans HR5.out
   have hq2:=put4 (.int .i64 t.kind) (.string t.name) (.int .i64 p1) (.slice A5 l5 c5) hr'
   have hk2:=((Kb.refl (fun j=>j=w.heap.size ∨ j=w.heap.size+2) w5).put (p:=⟨w.heap.size,3,none⟩) (.inl rfl) (.slice A5 l5 c5)).trans ((kput4 (w5.setCell ⟨w.heap.size,3,none⟩ (.slice A5 l5 c5)) (w.heap.size+2) (.int .i64 t.kind) (.string t.name) (.int .i64 p1) (.slice A5 l5 c5)).wider (fun k _ e=>.inr e))
   clear x0 x1 x2 x3 fx3 r0 r1 r2 r3 fr0 fr1 fr2 fr3 hr'
   generalize (((((w5.setCell ⟨w.heap.size,3,none⟩ (.slice A5 l5 c5)).setCell ⟨w.heap.size+2,0,none⟩ (.int .i64 t.kind)).setCell ⟨w.heap.size+2,1,none⟩ (.string t.name)).setCell ⟨w.heap.size+2,2,none⟩ (.int .i64 p1)).setCell ⟨w.heap.size+2,3,none⟩ (.slice A5 l5 c5))=W at hq2 hk2 ⊢
   have c0:=(cellH hq2 0).trans rfl
   have c1:=(cellH hq2 1).trans rfl
   have c2':=(cellH hq2 2).trans rfl
   have c3:=(cellH hq2 3).trans rfl
   have hml:=HML.out
   refine bodyPost_ret (v:=.agg #[.int .i64 t.kind,.string t.name,.int .i64 p1,.slice A5 l5 c5]) (by simp [results,Tryd.results69,go_sem,c0,c1,c2',c3]) rfl ⟨_,rfl,?_,?_,?_⟩
   ·rw [HEQ.out]
    obtain ⟨D,hD⟩:=rowE (RowW.step TyE.step _ Vol _ _ _ _ HV5.out (hk2.wider (fun k _ e=>.inr e)) (fun k _ e=>.inl e))
    exact ⟨D+1,_,rfl,hD⟩
   ·rw [HEQ.out]
    exact HM5.out.kb hk2 (by omega)
   ·exact HK5.out.join hk2 (fun j hj e=>by omega)
  ·rw [if_neg hin] at hlk
   obtain ⟨es,clock,hobj,hes⟩:=HMY.out.obj
   obtain ⟨W1,hup,hmW,hkW⟩:=runPut mp met i (((w.alloc (.cells #[.int .i64 t.kind,.string t.name,.int .i64 t.var,.slice A t.args.length c] 32)).alloc (.cells #[.map (some mp)] 108)).alloc (.cells #[.int .i64 0,.string ⟨#[]⟩,.int .i64 0,.slice none 0 0] 32)) HMY.out (by omega) hin (by
    have h1:=HLN.out
    have h2:=size_pos t
    omega)
   rw [← htv,← hes] at hup
   have hpl:pl met t=((pls (met++[i]) t.args).1,.mk t.kind t.name (es.size:Int) (pls (met++[i]) t.args).2):=by
    rw [hes,ht,fr,pl]
    simp only [if_true,Int.toNat_natCast,if_neg hin,TyT.args,TyT.kind,TyT.name,pls]
    rfl
   have HLEN1:Hid ((met++[i]).length+sizeTs t.args≤1000000):=Lib.hid (by
    have:=HLN.out
    rw [ht] at this ⊢
    rw [size_fr] at this
    show _+sizeTs []≤_
    rw [sizeTs,List.length_append]
    show met.length+1+0≤_
    omega)
   have HPL:=Lib.hid hpl
   have HMW:=Lib.hid hmW
   have HKW:=Lib.hid hkW
   clear gt k4 hpl hi hmW hes
   clear ht htv hin hkW
   go_enter Tryd.func69,Tryd.ntmps69
   go_upto_region 1 with fail
   generalize (((w.alloc (.cells #[.int .i64 t.kind,.string t.name,.int .i64 t.var,.slice A t.args.length c] 32)).alloc (.cells #[.map (some mp)] 108)).alloc (.cells #[.int .i64 0,.string ⟨#[]⟩,.int .i64 0,.slice none 0 0] 32))=Y at HB HY0 HY1 HY2 HVY HMY HSZY HKW hlk hup hobj ⊢
   have a0:=(cellH HY0.out 0).trans rfl
   have a2:=(cellH HY0.out 2).trans rfl
   have m0:=(cellH HY1.out 0).trans rfl
   have hln:∀ ty,(Builtin.len_ #[108] ty #[.map (some mp)]).run Tryd.prog Y=.ok (goInt es.size) Y:=fun ty=>run_len_map _ _ _ _ _ clock (by kernel_rfl) hobj
   have hgi:goInt es.size=.int .i64 (es.size:Int):=rfl
   have HW0:=Lib.hid ((HKW.out.block w.heap.size (by have:=HSZY.out;omega) (by have:=HML.out;omega)).trans HY0.out)
   have HW1:=Lib.hid ((HKW.out.block (w.heap.size+1) (by have:=HSZY.out;omega) (by have:=HML.out;omega)).trans HY1.out)
   have HW2:=Lib.hid ((HKW.out.block (w.heap.size+2) (by have:=HSZY.out;omega) (by have:=HML.out;omega)).trans HY2.out)
   have HSW:=Lib.hid (Nat.le_trans HSZY.out HKW.out.size)
   have a1:=(cellH HW0.out 2).trans rfl
   have a3:=(cellH HW0.out 3).trans rfl
   have f2:=frozenH HW0.out 2
   have hq:=blk_put W1 w.heap.size 2 (.int .i64 (es.size:Int)) HW0.out (by show 2 < 4;decide)
   have hk:=(Kb.refl (fun k=>k=w.heap.size) W1).put (p:=⟨w.heap.size,2,none⟩) rfl (.int .i64 (es.size:Int))
   have y3:=(cellH hq 3).trans rfl
   go_wp2_with fail
   generalize (W1.setCell ⟨w.heap.size,2,none⟩ (.int .i64 (es.size:Int)))=Z at hq hk y3 ⊢
   have HSZ:=Lib.hid (Nat.le_trans HSW.out hk.size)
   have HZ0:Hid (Z.heap[w.heap.size]?=some (.cells #[.int .i64 t.kind,.string t.name,.int .i64 (es.size:Int),.slice A t.args.length c] 32 (0,0))):=Lib.hid hq
   have HZ1:=Lib.hid ((hk.block (w.heap.size+1) (by have:=HSW.out;omega) (by omega)).trans HW1.out)
   have HZ2:=Lib.hid ((hk.block (w.heap.size+2) (by have:=HSW.out;omega) (by omega)).trans HW2.out)
   have HVZ:=Lib.hid (RowW.step (TyW.step d) _ (fun k=>Vol k ∨ k=w.heap.size ∨ k=w.heap.size+2) _ _ _ _ (RowW.step (TyW.step d) _ (fun k=>Vol k ∨ k=w.heap.size ∨ k=w.heap.size+2) _ _ _ _ HVY.out (HKW.out.wider (fun k _ (e:k=mp)=>.inl (by subst e;exact HMP.out))) (fun _ _ e=>e)) (hk.wider (fun k _ e=>.inr (.inl e))) (fun _ _ e=>e))
   have HMZ:=Lib.hid (HMW.out.kb hk (fun e=>by have:=HML.out;omega))
   have HKZ:=Lib.hid (((Kb.of_below (S:=fun k=>k=mp) HB.out).trans HKW.out).join hk (fun j hj e=>by omega))
   clear hq hk hobj hup hlk hln hgi
   have hpl:=HPL.out
   have HEQ:=Lib.hid hpl
   clear hpl
   refine (eachRen d (w.heap.size+1) (Lib.hid (clo_ren d (Lib.hid (HC.out d (Nat.le_refl _))))) (fun k=>Vol k ∨ k=w.heap.size ∨ k=w.heap.size+2) mp (met++[i]) t.args _ Z HVZ.out HGA.out HMZ.out (.inl HMP.out) (HVL3.out Z HSZ.out) HLEN1.out HZ1.out HNX.out).mono ?_
   rintro e w5 ⟨v5,rfl,hv5,hm5,hk5⟩
   obtain ⟨A5,c5,hve⟩:=hv5.slice
   generalize hl5:(pls (met++[i]) t.args).2.length=l5 at hve
   subst hve
   have HV5:=Lib.hid hv5
   have HM5:=Lib.hid hm5
   have HB5:=Lib.hid ((hk5.block w.heap.size (by have:=HSZ.out;omega) (by have:=HML.out;omega)).trans HZ0.out)
   have HR5:=Lib.hid ((hk5.block (w.heap.size+2) (by have:=HSZ.out;omega) (by have:=HML.out;omega)).trans HZ2.out)
   have HK5:=Lib.hid (HKZ.out.trans hk5)
   have HSZ5:=Lib.hid (show w.heap.size+3≤w5.heap.size by have:=HSZ.out;have:=hk5.size;omega)
   clear hv5 hm5 hk5 hl5 a0 a1 a2 a3 m0 f2
   have x0:=(cellH HB5.out 0).trans rfl
   have x1:=(cellH HB5.out 1).trans rfl
   have x2:=(cellH HB5.out 2).trans rfl
   have x3:=(cellH HB5.out 3).trans rfl
   have fx3:=frozenH HB5.out 3
   have r0:=(cellH HR5.out 0).trans rfl
   have r1:=(cellH HR5.out 1).trans rfl
   have r2:=(cellH HR5.out 2).trans rfl
   have r3:=(cellH HR5.out 3).trans rfl
   have fr0:=frozenH HR5.out 0
   have fr1:=frozenH HR5.out 1
   have fr2:=frozenH HR5.out 2
   have fr3:=frozenH HR5.out 3
   go_wp2_with fail
   have hr':=(Below.heap_setCell w5 ⟨w.heap.size,3,none⟩ (.slice A5 l5 c5) (w.heap.size+2) (by show w.heap.size+2 ≠ w.heap.size;omega)).trans HR5.out
   have hq2:=put4 (.int .i64 t.kind) (.string t.name) (.int .i64 (es.size:Int)) (.slice A5 l5 c5) hr'
   have hk2:=((Kb.refl (fun j=>j=w.heap.size ∨ j=w.heap.size+2) w5).put (p:=⟨w.heap.size,3,none⟩) (.inl rfl) (.slice A5 l5 c5)).trans ((kput4 (w5.setCell ⟨w.heap.size,3,none⟩ (.slice A5 l5 c5)) (w.heap.size+2) (.int .i64 t.kind) (.string t.name) (.int .i64 (es.size:Int)) (.slice A5 l5 c5)).wider (fun k _ e=>.inr e))
   clear x0 x1 x2 x3 fx3 r0 r1 r2 r3 fr0 fr1 fr2 fr3 hr'
   generalize (((((w5.setCell ⟨w.heap.size,3,none⟩ (.slice A5 l5 c5)).setCell ⟨w.heap.size+2,0,none⟩ (.int .i64 t.kind)).setCell ⟨w.heap.size+2,1,none⟩ (.string t.name)).setCell ⟨w.heap.size+2,2,none⟩ (.int .i64 (es.size:Int))).setCell ⟨w.heap.size+2,3,none⟩ (.slice A5 l5 c5))=W at hq2 hk2 ⊢
   have c0:=(cellH hq2 0).trans rfl
   have c1:=(cellH hq2 1).trans rfl
   have c2':=(cellH hq2 2).trans rfl
   have c3:=(cellH hq2 3).trans rfl
   have hml:=HML.out
   refine bodyPost_ret (v:=.agg #[.int .i64 t.kind,.string t.name,.int .i64 (es.size:Int),.slice A5 l5 c5]) (by simp [results,Tryd.results69,go_sem,c0,c1,c2',c3]) rfl ⟨_,rfl,?_,?_,?_⟩
   ·rw [HEQ.out]
    obtain ⟨D,hD⟩:=rowE (RowW.step TyE.step _ Vol _ _ _ _ HV5.out (hk2.wider (fun k _ e=>.inr e)) (fun k _ e=>.inl e))
    exact ⟨D+1,_,rfl,hD⟩
   ·rw [HEQ.out]
    exact HM5.out.kb hk2 (by omega)
   ·exact HK5.out.join hk2 (fun j hj e=>by omega)
 ·have e4:(t.kind == 4)=false:=by simpa using k4
  have HGA:Hid (goodTs m t.args):=Lib.hid (good_args gt k4)
  have hpl:pl met t=((pls met t.args).1,.mk t.kind t.name t.var (pls met t.args).2):=by
   obtain ⟨k,s,n,l⟩:=t
   exact pl_ne met s n l k4
  have HLEN1:Hid (met.length+sizeTs t.args≤1000000):=Lib.hid (by
   have h1:=HLN.out
   obtain ⟨k,s,n,l⟩:=t
   rw [sizeT] at h1
   show met.length+sizeTs l≤_
   omega)
  have HPL:=Lib.hid hpl
  clear gt k4 hpl
  go_enter Tryd.func69,Tryd.ntmps69
  go_upto_region 1 with fail
  generalize (((w.alloc (.cells #[.int .i64 t.kind,.string t.name,.int .i64 t.var,.slice A t.args.length c] 32)).alloc (.cells #[.map (some mp)] 108)).alloc (.cells #[.int .i64 0,.string ⟨#[]⟩,.int .i64 0,.slice none 0 0] 32))=Y at HB HY0 HY1 HY2 HVY HMY HSZY ⊢
  have a0:=(cellH HY0.out 0).trans rfl
  have a1:=(cellH HY0.out 1).trans rfl
  have a2:=(cellH HY0.out 2).trans rfl
  have a3:=(cellH HY0.out 3).trans rfl
  have f2:=frozenH HY0.out 2
  have m0:=(cellH HY1.out 0).trans rfl
  go_wp2_with fail
  have HSZ:=HSZY
  have HZ0:=HY0
  have HZ1:=HY1
  have HZ2:=HY2
  have HVZ:=HVY
  have HMZ:=HMY
  have HKZ:=Lib.hid (Kb.of_below (S:=fun k=>k=mp) HB.out)
  have hpl:=HPL.out
  have HEQ:=Lib.hid hpl
  clear hpl
  refine (eachRen d (w.heap.size+1) (Lib.hid (clo_ren d (Lib.hid (HC.out d (Nat.le_refl _))))) (fun k=>Vol k ∨ k=w.heap.size ∨ k=w.heap.size+2) mp met t.args _ Y HVZ.out HGA.out HMZ.out (.inl HMP.out) (HVL3.out Y HSZ.out) HLEN1.out HZ1.out HNX.out).mono ?_
  rintro e w5 ⟨v5,rfl,hv5,hm5,hk5⟩
  obtain ⟨A5,c5,hve⟩:=hv5.slice
  generalize hl5:(pls met t.args).2.length=l5 at hve
  subst hve
  have HV5:=Lib.hid hv5
  have HM5:=Lib.hid hm5
  have HB5:=Lib.hid ((hk5.block w.heap.size (by have:=HSZ.out;omega) (by have:=HML.out;omega)).trans HZ0.out)
  have HR5:=Lib.hid ((hk5.block (w.heap.size+2) (by have:=HSZ.out;omega) (by have:=HML.out;omega)).trans HZ2.out)
  have HK5:=Lib.hid (HKZ.out.trans hk5)
  have HSZ5:=Lib.hid (show w.heap.size+3≤w5.heap.size by have:=HSZ.out;have:=hk5.size;omega)
  clear hv5 hm5 hk5 hl5 a0 a1 a2 a3 m0 f2
  have x0:=(cellH HB5.out 0).trans rfl
  have x1:=(cellH HB5.out 1).trans rfl
  have x2:=(cellH HB5.out 2).trans rfl
  have x3:=(cellH HB5.out 3).trans rfl
  have fx3:=frozenH HB5.out 3
  have r0:=(cellH HR5.out 0).trans rfl
  have r1:=(cellH HR5.out 1).trans rfl
  have r2:=(cellH HR5.out 2).trans rfl
  have r3:=(cellH HR5.out 3).trans rfl
  have fr0:=frozenH HR5.out 0
  have fr1:=frozenH HR5.out 1
  have fr2:=frozenH HR5.out 2
  have fr3:=frozenH HR5.out 3
  go_wp2_with fail
  have hr':=(Below.heap_setCell w5 ⟨w.heap.size,3,none⟩ (.slice A5 l5 c5) (w.heap.size+2) (by show w.heap.size+2 ≠ w.heap.size;omega)).trans HR5.out
  have hq2:=put4 (.int .i64 t.kind) (.string t.name) (.int .i64 t.var) (.slice A5 l5 c5) hr'
  have hk2:=((Kb.refl (fun j=>j=w.heap.size ∨ j=w.heap.size+2) w5).put (p:=⟨w.heap.size,3,none⟩) (.inl rfl) (.slice A5 l5 c5)).trans ((kput4 (w5.setCell ⟨w.heap.size,3,none⟩ (.slice A5 l5 c5)) (w.heap.size+2) (.int .i64 t.kind) (.string t.name) (.int .i64 t.var) (.slice A5 l5 c5)).wider (fun k _ e=>.inr e))
  clear x0 x1 x2 x3 fx3 r0 r1 r2 r3 fr0 fr1 fr2 fr3 hr'
  generalize (((((w5.setCell ⟨w.heap.size,3,none⟩ (.slice A5 l5 c5)).setCell ⟨w.heap.size+2,0,none⟩ (.int .i64 t.kind)).setCell ⟨w.heap.size+2,1,none⟩ (.string t.name)).setCell ⟨w.heap.size+2,2,none⟩ (.int .i64 t.var)).setCell ⟨w.heap.size+2,3,none⟩ (.slice A5 l5 c5))=W at hq2 hk2 ⊢
  have c0:=(cellH hq2 0).trans rfl
  have c1:=(cellH hq2 1).trans rfl
  have c2':=(cellH hq2 2).trans rfl
  have c3:=(cellH hq2 3).trans rfl
  have hml:=HML.out
  refine bodyPost_ret (v:=.agg #[.int .i64 t.kind,.string t.name,.int .i64 t.var,.slice A5 l5 c5]) (by simp [results,Tryd.results69,go_sem,c0,c1,c2',c3]) rfl ⟨_,rfl,?_,?_,?_⟩
  ·rw [HEQ.out]
   obtain ⟨D,hD⟩:=rowE (RowW.step TyE.step _ Vol _ _ _ _ HV5.out (hk2.wider (fun k _ e=>.inr e)) (fun k _ e=>.inl e))
   exact ⟨D+1,_,rfl,hD⟩
  ·rw [HEQ.out]
   exact HM5.out.kb hk2 (by omega)
  ·exact HK5.out.join hk2 (fun j hj e=>by omega)
theorem ren_any (hms:m≤1000000):∀ d,RenC m d
 | 0=>fun _ _ _ _ _ _ h _ _ _ _ _=>by exact h.elim
 | d+1=>ren_step hms d (Lib.hid (fun d' _=>ren_any hms d'))
set_option maxRecDepth 100000 in
/-- Plain of types without strange unknowns. -/
theorem plain_any (hms:m≤1000000) (d:Nat) (Vol:Nat→Prop) (l:List TyT) (v:Value) (w:World) (hv:RowW 4 (TyW d) Vol l v w) (gt:goodTs m l) (hvl:∀ k,Vol k→k < w.heap.size) (hlen:sizeTs l≤1000000) :
  Calls Tryd.prog 32 #[v] w fun e w'=>∃ v',e=.returned v'∧RowW 4 TyE Vol (pls [] l).2 v' w'∧Below w.heap.size w w':=by
 obtain ⟨A,c,rfl⟩:=hv.slice
 have hb1:Below w.heap.size w (w.alloc (.map #[] 0)):=below_alloc _ _
 have hz1:(w.alloc (.map #[] 0)).heap.size=w.heap.size+1:=by simp
 have hm1:MetB w.heap.size [] (w.alloc (.map #[] 0)):=⟨by rw [show entM []=[] from rfl];exact MapB.made w,List.nodup_nil,by simp⟩
 have hb2:=below_alloc (w.alloc (.map #[] 0)) (.cells #[.map (some w.heap.size)] 108)
 have hX:=heap_alloc_new (w.alloc (.map #[] 0)) (.cells #[.map (some w.heap.size)] 108)
 have hb:=hb1.trans (hb2.mono hb1.size)
 rw [hz1] at hX
 have HE:=Lib.hid (eachPlain d (w.heap.size+1) (Lib.hid (clo_plain d (Lib.hid (ren_any hms d)))) (fun k=>Vol k ∨ k=w.heap.size) w.heap.size [] l _ _ (RowW.step (TyW.step d) _ (fun k=>Vol k ∨ k=w.heap.size) _ _ _ _ hv (Kb.of_below hb) (fun k hk e=>e.elim id (fun e=>by omega))) gt (hm1.below hb2) (.inr rfl) (fun k e=>by
  have:=hb2.size
  rcases e with e | e
  ·have:=hvl k e;omega
  ·omega) (by simpa using hlen) hX (fun e=>by
  rcases e with e | e
  ·have:=hvl _ e;omega
  ·omega))
 have HB:=Lib.hid hb
 clear hv gt hlen hb1 hz1 hm1 hb2 hX hb
 have hmm:=@run_makeMap Tryd.prog
 go_enter Tryd.func32,Tryd.ntmps32
 go_wp2_with fail
 refine HE.out.mono ?_
 rintro e w5 ⟨v5,rfl,hv5,hm5,hk5⟩
 have HV5:=Lib.hid (RowW.step TyE.step _ Vol _ _ _ _ hv5 (Kb.refl _ _) (fun k _ e=>.inl e))
 have HB5:=Lib.hid (HB.out.trans (hk5.below (by have:=HB.out.size;omega) (fun k e=>by omega)))
 clear hv5 hm5 hk5
 go_wp2_with fail
 go_ret
 exact ⟨_,rfl,HV5.out,HB5.out⟩
end
end Lx
end Go.Proofs.YtnpacamcgifabaaDoor
