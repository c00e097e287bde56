/- Data as trees that memory holds: their nodes, their depth. Conditions: as each states. -/
/- Data: the depth, and whether data are good, of the program and of the reference. Conditions: as each states. -/
/- Data: whether data are good, by the reference. Conditions: as each states. -/
/- Data: whether all names and numbers of arguments are such that data have an encoding. Conditions: as each states. -/
import Derived.Test.YtiljemkglhloeaaGreatDoorUxA
namespace Go.Proofs.YtiljemkglhloeaaGreatDoor
set_option linter.unusedSimpArgs false
set_option linter.unusedVariables false
namespace Lx
open Go Go.RowKit
inductive DaT where
 | mk (c:Bool) (n:Int) (s:ByteArray) (l:List DaT)
def DaT.ctor:DaT→Bool | .mk c _ _ _=>c
def DaT.int:DaT→Int | .mk _ n _ _=>n
def DaT.name:DaT→ByteArray | .mk _ _ s _=>s
def DaT.args:DaT→List DaT | .mk _ _ _ l=>l
def DaW:Nat→HoldW DaT
 | 0=>fun _ _ _ _=>False
 | d+1=>fun Vol x v w=>match x with
  | .mk c n s l=>∃ va,v=.agg #[.bool c,.int .i64 n,.string s,va]∧RowW 4 (DaW d) Vol l va w
theorem DaW.step:∀ d,StepW (DaW d)
 | 0=>fun _ _ _ _ _ _ h _ _=>h.elim
 | d+1=>by
  rintro Vol Vol' ⟨c,n,s,l⟩ v w w' ⟨va,rfl,h⟩ hk hv
  exact ⟨va,rfl,RowW.step (DaW.step d) _ _ _ _ _ _ h hk hv⟩
theorem DaW.this {d:Nat} {Vol:Nat→Prop} {x:DaT} {v:Value} {w:World} (h:DaW d Vol x v w):∃ A n c,v=.agg #[.bool x.ctor,.int .i64 x.int,.string x.name,.slice A n c]:=by
 cases d with
 | zero=>exact h.elim
 | succ d =>
  obtain ⟨c,n,s,l⟩:=x
  obtain ⟨va,rfl,h1⟩:=h
  obtain ⟨A,c',rfl⟩:=h1.slice
  exact ⟨A,_,c',rfl⟩
theorem daCells (n:Nat) (Vol:Nat→Prop) (x:DaT) (v:Value) (w:World) (h:DaW n Vol x v w):(cellsL v).length=4:=by
 obtain ⟨A,l,c,rfl⟩:=h.this
 rfl
mutual
/-- How many nodes. -/
def sizeD:DaT→Nat
 | .mk c _ _ l=>1+(if c=true then sizeDs l else 0)
def sizeDs:List DaT→Nat
 | []=>0
 | x :: l=>sizeD x+sizeDs l
end
mutual
/-- How deep. -/
def depD:DaT→Nat
 | .mk c _ _ l=>1+(if c=true then depDs l else 0)
def depDs:List DaT→Nat
 | []=>0
 | x :: l=>max (depD x) (depDs l)
end
theorem sizeD_pos (x:DaT):1≤sizeD x:=by obtain ⟨c,n,s,l⟩:=x;rw [sizeD];omega
theorem depD_pos (x:DaT):1≤depD x:=by obtain ⟨c,n,s,l⟩:=x;rw [depD];omega
theorem sizeDs_snoc:∀ (a:List DaT) (x:DaT),sizeDs (a++[x])=sizeDs a+sizeD x
 | [],x=>by simp [sizeDs]
 | y :: a,x=>by rw [List.cons_append,sizeDs,sizeDs,sizeDs_snoc a x];omega
theorem depDs_snoc:∀ (a:List DaT) (x:DaT),depDs (a++[x])=max (depDs a) (depD x)
 | [],x=>by simp [depDs]
 | y :: a,x=>by rw [List.cons_append,depDs,depDs,depDs_snoc a x];omega
theorem sizeDs_take {l:List DaT} {k:Nat} (h:k < l.length):sizeDs (l.take (k+1))=sizeDs (l.take k)+sizeD l[k]:=by rw [List.take_succ_eq_append_getElem h,sizeDs_snoc]
theorem depDs_take {l:List DaT} {k:Nat} (h:k < l.length):depDs (l.take (k+1))=max (depDs (l.take k)) (depD l[k]):=by rw [List.take_succ_eq_append_getElem h,depDs_snoc]
theorem sizeDs_part:∀ (l:List DaT) (k:Nat),sizeDs (l.take k)≤sizeDs l
 | [],k=>by simp
 | x :: l,0=>by simp [sizeDs]
 | x :: l,k+1=>by rw [List.take_succ_cons,sizeDs,sizeDs];have:=sizeDs_part l k;omega
theorem sizeDs_mem {l:List DaT} {k:Nat} (h:k < l.length):sizeD l[k]≤sizeDs l:=by
 have h1:=sizeDs_part l (k+1)
 rw [sizeDs_take h] at h1
 omega
mutual
theorem dep_size:∀ x:DaT,depD x≤sizeD x
 | .mk c n s l=>by
  rw [depD,sizeD]
  have:=deps_size l
  cases c
  ·simp
  ·simp;omega
theorem deps_size:∀ l:List DaT,depDs l≤sizeDs l
 | []=>by rw [depDs];exact Nat.zero_le _
 | x :: l=>by
  rw [depDs,sizeDs]
  have h1:=dep_size x
  have h2:=deps_size l
  omega
end
/-- The arguments: an int has none. -/
def partsD:DaT→List DaT
 | .mk c _ _ l=>if c=true then l else []
theorem sizeD_parts (x:DaT):sizeD x=1+sizeDs (partsD x):=by
 obtain ⟨c,n,s,l⟩:=x
 rw [sizeD,partsD]
 cases c
 ·simp [sizeDs]
 ·simp
theorem depD_parts (x:DaT):depD x=1+depDs (partsD x):=by
 obtain ⟨c,n,s,l⟩:=x
 rw [depD,partsD]
 cases c
 ·simp [depDs]
 ·simp
def goodD (x:DaT):Bool:=decide (sizeD x≤4096) && decide (depD x≤200)
set_option maxRecDepth 100000 in
set_option maxHeartbeats 1000000 in
theorem parts_any (d:Nat) (Vol:Nat→Prop) (x:DaT) (v:Value) (w:World) (hv:DaW (d+1) Vol x v w) :
  Calls Tryz.prog 78 #[v] w fun e w'=>∃ pv,e=.returned pv∧RowW 4 (DaW d) Vol (partsD x) pv w'∧Below w.heap.size w w':=by
 obtain ⟨c,n,s,l⟩:=x
 obtain ⟨va,rfl,hr⟩:=hv
 obtain ⟨A,k,rfl⟩:=hr.slice
 have hb:=below_alloc w (.cells #[.bool c,.int .i64 n,.string s,.slice A l.length k] 46)
 have HB:=Lib.hid hb
 have HR:=Lib.hid ((RowW.step (DaW.step d)).below hr hb)
 have hx:=heap_alloc_new w (.cells #[.bool c,.int .i64 n,.string s,.slice A l.length k] 46)
 have HX:=Lib.hid hx
 clear hr hb hx
 cases c
 ·go_enter Tryz.func78,Tryz.ntmps78
  have x0:=(cellH HX.out 0).trans rfl
  go_wp2_with fail
  go_ret
  exact ⟨_,rfl,RowW.nil _ _,HB.out⟩
 ·go_enter Tryz.func78,Tryz.ntmps78
  have x0:=(cellH HX.out 0).trans rfl
  have x3:=(cellH HX.out 3).trans rfl
  go_wp2_with fail
  go_ret
  exact ⟨_,rfl,HR.out,HB.out⟩
def CountC (d:Nat):Prop:=∀ (Vol:Nat→Prop) (k:Nat) (x:DaT) (v:Value) (w:World),DaW d Vol x v w→k≤4096 →
 Calls Tryz.prog 47 #[.int .i64 k,v] w fun e w'=>e=.returned (.int .i64 ((min (k+sizeD x) 4097:Nat):Int))∧Below w.heap.size w w'
set_option maxRecDepth 100000 in
set_option maxHeartbeats 4000000 in
theorem count_step (d:Nat) (HC:Hid (CountC d)):CountC (d+1):=by
 intro Vol k x v w hv hk
 obtain ⟨A0,l0,c0,rfl⟩:=hv.this
 have hb:=below_alloc w (.cells #[.bool x.ctor,.int .i64 x.int,.string x.name,.slice A0 l0 c0] 46)
 have HB:=Lib.hid hb
 have HP:=Lib.hid (parts_any d Vol x _ _ ((DaW.step (d+1)).below hv hb))
 have HX:=Lib.hid (heap_alloc_new w (.cells #[.bool x.ctor,.int .i64 x.int,.string x.name,.slice A0 l0 c0] 46))
 have HSZ:=Lib.hid (sizeD_parts x)
 clear hv hb
 go_enter Tryz.func47,Tryz.ntmps47
 have x0:=(cellH HX.out 0).trans rfl
 have x1:=(cellH HX.out 1).trans rfl
 have x2:=(cellH HX.out 2).trans rfl
 have x3:=(cellH HX.out 3).trans rfl
 go_wp2_with fail
 clear x0 x1 x2 x3
 generalize (w.alloc (.cells #[.bool x.ctor,.int .i64 x.int,.string x.name,.slice A0 l0 c0] 46))=W at HB HP HX ⊢
 try go_at_call 78
 refine HP.out.mono ?_
 rintro e w1 ⟨pv,rfl,hr,hb1⟩
 have HB1:=Lib.hid (HB.out.trans (hb1.mono HB.out.size))
 have HR:=Lib.hid hr
 clear hb1 HP HX HB
 obtain ⟨A,c,rfl⟩:=hr.slice
 have hfew:=hr.few
 unfold maxLen at hfew
 clear hr
 generalize partsD x=l at HR HSZ hfew ⊢
 go_wp2_with fail
 go_loopw [0,12] (fun u t wr=>∃ i:Nat,i≤l.length∧t=.int .i64 i∧u=.int .i64 ((min (k+1+sizeDs (l.take i)) 4097:Nat):Int)∧Hid (Below w1.heap.size w1 wr)) (fun _ t _=>l.length - (intOf t).toNat)
 case atStart=>exact ⟨0,Nat.zero_le _,rfl,by rw [List.take_zero,sizeDs];go_num,Lib.hid (Below.refl _ _)⟩
 case round =>
  obtain ⟨i,hi,rfl,rfl,HBR⟩:=hrel
  by_cases hlt:i < l.length
  ·obtain ⟨gg,o,vi,rfl,hg,_,hvi,hc⟩:=RowW.at ((RowW.step (DaW.step d)).below HR.out HBR.out) i hlt
   obtain ⟨B1,n1,m1,rfl⟩:=hvi.this
   have a0:=(hc 0 (by decide)).trans rfl
   have a1:=(hc 1 (by decide)).trans rfl
   have a2:=(hc 2 (by decide)).trans rfl
   have a3:=(hc 3 (by decide)).trans rfl
   simp only [cellsL,Value.cells,List.getElem?_cons_zero,List.getElem?_cons_succ,Nat.add_zero] at a0 a1 a2 a3
   have hi0:(0:Int)≤(i:Int):=by omega
   have hi1:(i:Int) < (l.length:Int):=by omega
   have hdc:decide (i < l.length)=true:=by simpa using hlt
   have hst:=sizeDs_take hlt
   have hsp:=sizeDs_part l i
   have HLT:=Lib.hid hlt
   generalize hyy:l[i]=y at hvi a0 a1 a2 a3 hst
   have hbx:=below_alloc wr (.cells #[.bool y.ctor,.int .i64 y.int,.string y.name,.slice B1 n1 m1] 46)
   have HVI:=Lib.hid ((DaW.step d).below hvi hbx)
   have HXB:=Lib.hid (heap_alloc_new wr (.cells #[.bool y.ctor,.int .i64 y.int,.string y.name,.slice B1 n1 m1] 46))
   have HBX:=Lib.hid (HBR.out.trans (hbx.mono HBR.out.size))
   have HST:=Lib.hid hst
   have HSP:=Lib.hid hsp
   obtain ⟨N,hN⟩:∃ N:Nat,min (k+1+sizeDs (l.take i)) 4097=N:=⟨_,rfl⟩
   have HN:=Lib.hid hN
   rw [hN]
   clear hvi hbx hst hsp hyy hlt hc hN
   by_cases hbig:4096 < N
   ·have hd1:decide (4096 < N)=true:=by simpa using hbig
    have hd2:decide ((4096:Int) < (N:Int))=true:=by simp;omega
    go_wp2_with fail
    go_ret
    have e:min (k+sizeD x) 4097=N:=by
     have:=HN.out
     have:=HSP.out
     have:=HSZ.out
     omega
    rw [e]
    exact ⟨rfl,HB1.out.trans (HBX.out.mono HB1.out.size)⟩
   ·have hd1:decide (4096 < N)=false:=by simpa using hbig
    have hd2:decide ((4096:Int) < (N:Int))=false:=by simp;omega
    have b0:=(cellH HXB.out 0).trans rfl
    have b1:=(cellH HXB.out 1).trans rfl
    have b2:=(cellH HXB.out 2).trans rfl
    have b3:=(cellH HXB.out 3).trans rfl
    go_wp2_with fail
    clear a0 a1 a2 a3 b0 b1 b2 b3 hd1 hd2 hdc
    try go_at_call 47
    refine (HC.out Vol N y _ _ HVI.out (by omega)).mono ?_
    rintro e w3 ⟨rfl,hb3⟩
    have HB3:=Lib.hid (HBX.out.trans (hb3.mono HBX.out.size))
    clear hb3
    go_wp2_with fail
    go_roundw
    case rel=>exact ⟨i+1,by have:=HLT.out;omega,by go_num,by congr 2;rw [HST.out];have:=HN.out;omega,HB3⟩
    case measure=>have:=HLT.out;simp [intOf];omega
  ·obtain rfl:i=l.length:=by omega
   have hdc:decide (l.length < l.length)=false:=by simp
   rw [List.take_length]
   go_wp2_with fail
   go_ret
   rw [HSZ.out,← Nat.add_assoc]
   exact ⟨rfl,HB1.out.trans (HBR.out.mono HB1.out.size)⟩
theorem count_any:∀ d,CountC d
 | 0=>fun _ _ _ _ _ h _=>h.elim
 | d+1=>count_step d (Lib.hid (count_any d))
end Lx
end Go.Proofs.YtiljemkglhloeaaGreatDoor
namespace Go.Proofs.YtiljemkglhloeaaGreatDoor
set_option linter.unusedSimpArgs false
set_option linter.unusedVariables false
namespace Lx
open Go Go.RowKit
def DepC (d:Nat):Prop:=∀ (Vol:Nat→Prop) (x:DaT) (v:Value) (w:World),DaW d Vol x v w→sizeD x≤4096 →
 Calls Tryz.prog 45 #[v] w fun e w'=>e=.returned (.int .i64 (depD x:Int))∧Below w.heap.size w w'
set_option maxRecDepth 100000 in
set_option maxHeartbeats 4000000 in
theorem dep_step (d:Nat) (HC:Hid (DepC d)):DepC (d+1):=by
 intro Vol x v w hv hk
 obtain ⟨A0,l0,c0,rfl⟩:=hv.this
 have hb:=below_alloc w (.cells #[.bool x.ctor,.int .i64 x.int,.string x.name,.slice A0 l0 c0] 46)
 have HB:=Lib.hid hb
 have HP:=Lib.hid (parts_any d Vol x _ _ ((DaW.step (d+1)).below hv hb))
 have HX:=Lib.hid (heap_alloc_new w (.cells #[.bool x.ctor,.int .i64 x.int,.string x.name,.slice A0 l0 c0] 46))
 have HSZ:=Lib.hid (depD_parts x)
 have hsz:sizeDs (partsD x)≤4096:=by have:=sizeD_parts x;omega
 have hdz:=deps_size (partsD x)
 clear hv hb hk
 go_enter Tryz.func45,Tryz.ntmps45
 have x0:=(cellH HX.out 0).trans rfl
 have x1:=(cellH HX.out 1).trans rfl
 have x2:=(cellH HX.out 2).trans rfl
 have x3:=(cellH HX.out 3).trans rfl
 go_wp2_with fail
 clear x0 x1 x2 x3
 generalize (w.alloc (.cells #[.bool x.ctor,.int .i64 x.int,.string x.name,.slice A0 l0 c0] 46))=W at HB HP HX ⊢
 try go_at_call 78
 refine HP.out.mono ?_
 rintro e w1 ⟨pv,rfl,hr,hb1⟩
 have HB1:=Lib.hid (HB.out.trans (hb1.mono HB.out.size))
 have HR:=Lib.hid hr
 clear hb1 HP HX HB
 obtain ⟨A,c,rfl⟩:=hr.slice
 have hfew:=hr.few
 unfold maxLen at hfew
 clear hr
 generalize partsD x=l at HR HSZ hfew hsz hdz ⊢
 have HS4:=Lib.hid hsz
 have HDZ:=Lib.hid hdz
 clear hsz hdz
 go_wp2_with fail
 go_loopw [3,9] (fun u t wr=>∃ i:Nat,i≤l.length∧t=.int .i64 i∧u=.int .i64 (depDs (l.take i):Int)∧Hid (Below w1.heap.size w1 wr)) (fun _ t _=>l.length - (intOf t).toNat)
 case atStart=>exact ⟨0,Nat.zero_le _,rfl,by rw [List.take_zero,depDs];rfl,Lib.hid (Below.refl _ _)⟩
 case round =>
  obtain ⟨i,hi,rfl,rfl,HBR⟩:=hrel
  by_cases hlt:i < l.length
  ·obtain ⟨gg,o,vi,rfl,hg,_,hvi,hc⟩:=RowW.at ((RowW.step (DaW.step d)).below HR.out HBR.out) i hlt
   obtain ⟨B1,n1,m1,rfl⟩:=hvi.this
   have a0:=(hc 0 (by decide)).trans rfl
   have a1:=(hc 1 (by decide)).trans rfl
   have a2:=(hc 2 (by decide)).trans rfl
   have a3:=(hc 3 (by decide)).trans rfl
   simp only [cellsL,Value.cells,List.getElem?_cons_zero,List.getElem?_cons_succ,Nat.add_zero] at a0 a1 a2 a3
   have hi0:(0:Int)≤(i:Int):=by omega
   have hi1:(i:Int) < (l.length:Int):=by omega
   have hdc:decide (i < l.length)=true:=by simpa using hlt
   have hst:=depDs_take hlt
   have hsp:=deps_size (l.take i)
   have hsq:=sizeDs_part l i
   have hsm:=sizeDs_mem hlt
   have HLT:=Lib.hid hlt
   generalize hyy:l[i]=y at hvi a0 a1 a2 a3 hst hsm
   have hbx:=below_alloc wr (.cells #[.bool y.ctor,.int .i64 y.int,.string y.name,.slice B1 n1 m1] 46)
   have HVI:=Lib.hid ((DaW.step d).below hvi hbx)
   have HXB:=Lib.hid (heap_alloc_new wr (.cells #[.bool y.ctor,.int .i64 y.int,.string y.name,.slice B1 n1 m1] 46))
   have HBX:=Lib.hid (HBR.out.trans (hbx.mono HBR.out.size))
   have HST:=Lib.hid hst
   have HSP:Hid (depDs (l.take i)≤4096):=Lib.hid (by have:=HS4.out;omega)
   have HSM:Hid (sizeD y≤4096):=Lib.hid (by have:=HS4.out;omega)
   clear hsq hsm
   obtain ⟨N,hN⟩:∃ N:Nat,depDs (l.take i)=N:=⟨_,rfl⟩
   rw [hN] at hst HSP
   have HST:=Lib.hid hst
   rw [hN]
   clear hvi hbx hst hsp hyy hlt hc hN
   have b0:=(cellH HXB.out 0).trans rfl
   have b1:=(cellH HXB.out 1).trans rfl
   have b2:=(cellH HXB.out 2).trans rfl
   have b3:=(cellH HXB.out 3).trans rfl
   go_wp2_with fail
   clear a0 a1 a2 a3 b0 b1 b2 b3 hdc
   try go_at_call 45
   refine (HC.out Vol y _ _ HVI.out HSM.out).mono ?_
   rintro e w3 ⟨rfl,hb3⟩
   have HB3:=Lib.hid (HBX.out.trans (hb3.mono HBX.out.size))
   have hdy:=dep_size y
   have hsy:=HSM.out
   clear hb3
   go_wp2_with fail
   go_roundw
   case rel=>exact ⟨i+1,by have:=HLT.out;omega,by go_num,by rw [HST.out];congr 1;omega,HB3⟩
   case measure=>have:=HLT.out;simp [intOf];omega
  ·obtain rfl:i=l.length:=by omega
   have hdc:decide (l.length < l.length)=false:=by simp
   rw [List.take_length]
   have h1:=HDZ.out
   have h2:=HS4.out
   go_wp2_with fail
   go_ret
   rw [HSZ.out]
   exact ⟨by first | rfl | (congr 2;omega),HB1.out.trans (HBR.out.mono HB1.out.size)⟩
theorem dep_any:∀ d,DepC d
 | 0=>fun _ _ _ _ h _=>h.elim
 | d+1=>dep_step d (Lib.hid (dep_any d))
set_option maxRecDepth 100000 in
set_option maxHeartbeats 1000000 in
theorem nodes_any (d:Nat) (Vol:Nat→Prop) (x:DaT) (v:Value) (w:World) (hv:DaW d Vol x v w) :
  Calls Tryz.prog 20 #[v] w fun e w'=>e=.returned (.int .i64 ((min (sizeD x) 4097:Nat):Int))∧Below w.heap.size w w':=by
 obtain ⟨A0,l0,c0,rfl⟩:=hv.this
 have hb:=below_alloc w (.cells #[.bool x.ctor,.int .i64 x.int,.string x.name,.slice A0 l0 c0] 46)
 have HB:=Lib.hid hb
 have h:=count_any d Vol 0 x _ _ ((DaW.step d).below hv hb) (by omega)
 rw [Nat.zero_add] at h
 have HP:=Lib.hid h
 have HX:=Lib.hid (heap_alloc_new w (.cells #[.bool x.ctor,.int .i64 x.int,.string x.name,.slice A0 l0 c0] 46))
 clear hv hb h
 go_enter Tryz.func20,Tryz.ntmps20
 have x0:=(cellH HX.out 0).trans rfl
 have x1:=(cellH HX.out 1).trans rfl
 have x2:=(cellH HX.out 2).trans rfl
 have x3:=(cellH HX.out 3).trans rfl
 go_wp2_with fail
 clear x0 x1 x2 x3
 try go_at_call 47
 refine HP.out.mono ?_
 rintro e w1 ⟨rfl,hb1⟩
 have HB1:=Lib.hid (HB.out.trans (hb1.mono HB.out.size))
 clear hb1
 go_wp2_with fail
 go_ret
 exact ⟨rfl,HB1.out⟩
set_option maxRecDepth 100000 in
set_option maxHeartbeats 1000000 in
theorem good_any (d:Nat) (Vol:Nat→Prop) (x:DaT) (v:Value) (w:World) (hv:DaW d Vol x v w) :
  Calls Tryz.prog 18 #[v] w fun e w'=>e=.returned (.bool (goodD x))∧Below w.heap.size w w':=by
 obtain ⟨A0,l0,c0,rfl⟩:=hv.this
 have hb:=below_alloc w (.cells #[.bool x.ctor,.int .i64 x.int,.string x.name,.slice A0 l0 c0] 46)
 have HB:=Lib.hid hb
 have HV:=Lib.hid ((DaW.step d).below hv hb)
 have HX:=Lib.hid (heap_alloc_new w (.cells #[.bool x.ctor,.int .i64 x.int,.string x.name,.slice A0 l0 c0] 46))
 clear hv hb
 go_enter Tryz.func18,Tryz.ntmps18
 have x0:=(cellH HX.out 0).trans rfl
 have x1:=(cellH HX.out 1).trans rfl
 have x2:=(cellH HX.out 2).trans rfl
 have x3:=(cellH HX.out 3).trans rfl
 go_wp2_with fail
 clear x0 x1 x2 x3
 generalize (w.alloc (.cells #[.bool x.ctor,.int .i64 x.int,.string x.name,.slice A0 l0 c0] 46))=W at HB HV HX ⊢
 generalize w.heap.size=X at HX ⊢
 try go_at_call 20
 refine (nodes_any d Vol x _ W HV.out).mono ?_
 rintro e w1 ⟨rfl,hb1⟩
 have HB1:=Lib.hid hb1
 have HX1:=Lib.hid ((hb1.block X (Array.getElem?_eq_some_iff.1 HX.out).1).trans HX.out)
 have HV1:=Lib.hid ((DaW.step d).below HV.out hb1)
 clear hb1
 by_cases hs:sizeD x≤4096
 ·have e1:min (sizeD x) 4097=sizeD x:=by omega
  have HDP:=Lib.hid (dep_any d Vol x _ w1 HV1.out hs)
  have e2:goodD x=decide (depD x≤200):=by simp [goodD,hs]
  have E2:=Lib.hid e2
  rw [e1]
  clear e2 e1
  generalize sizeD x=n at hs ⊢
  have hd1:decide (n≤4096)=true:=by simpa using hs
  have hd2:decide ((n:Int)≤(4096:Int))=true:=by simp;omega
  have x0:=(cellH HX1.out 0).trans rfl
  have x1:=(cellH HX1.out 1).trans rfl
  have x2:=(cellH HX1.out 2).trans rfl
  have x3:=(cellH HX1.out 3).trans rfl
  go_wp2_with fail
  clear x0 x1 x2 x3
  try go_at_call 45
  refine HDP.out.mono ?_
  rintro e w2 ⟨rfl,hb2⟩
  have HB2:=Lib.hid (HB1.out.trans (hb2.mono HB1.out.size))
  clear hb2
  go_wp2_with fail
  go_ret
  exact ⟨by rw [E2.out];congr 2;simp;omega,HB.out.trans (HB2.out.mono HB.out.size)⟩
 ·have e1:min (sizeD x) 4097=4097:=by omega
  have e2:goodD x=false:=by simp [goodD,hs]
  have E2:=Lib.hid e2
  rw [e1]
  clear e2 e1
  go_wp2_with fail
  go_ret
  exact ⟨by rw [E2.out];rfl,HB.out.trans (HB1.out.mono HB.out.size)⟩
end Lx
end Go.Proofs.YtiljemkglhloeaaGreatDoor
namespace Go.Proofs.YtiljemkglhloeaaGreatDoor
set_option linter.unusedSimpArgs false
set_option linter.unusedVariables false
namespace Lx
open Go Go.RowKit
/-- What the reference's count gives: the nodes and the greatest depth, or one of both is too large. -/
def RCnt (dp:Nat) (x:DaT) (n m:Nat):Prop:=1≤n∧n≤4097∧m≤201∧dp≤m∧((sizeD x≤4096∧dp+depD x≤201)→n=sizeD x∧m+1=dp+depD x)∧(¬ (sizeD x≤4096∧dp+depD x≤201)→4096 < n ∨ 200 < m)
def RCs (dp:Nat) (a:List DaT) (n m:Nat):Prop:=(1≤n∧n≤4096∧dp≤m∧m≤201)∧((1+sizeDs a≤4096∧dp+depDs a≤200)→n=1+sizeDs a∧m=dp+depDs a)∧(¬ (1+sizeDs a≤4096∧dp+depDs a≤200)→200 < m)
section
variable {dp n m n' m':Nat} {a:List DaT} {x:DaT}
theorem RCs.start (h:dp≤200):RCs dp [] 1 dp:=by
 unfold RCs
 rw [sizeDs,depDs]
 omega
theorem RCs.more (h:RCs dp a n m) (k:RCnt (dp+1) x n' m') (hn:n+n'≤4096):RCs dp (a++[x]) (n+n') (max m m'):=by
 unfold RCs at h ⊢
 unfold RCnt at k
 rw [sizeDs_snoc,depDs_snoc]
 have:=sizeD_pos x
 have:=depD_pos x
 omega
theorem RCs.over (h:RCs dp (a) n m) (k:RCnt (dp+1) x n' m') (hn:4096 < n+n') {X:DaT} {l:List DaT} (hx:sizeD X=1+sizeDs l) (hd:depD X=1+depDs l) (hl:sizeDs (a++[x])≤sizeDs l) (hq:depDs (a++[x])≤depDs l):RCnt dp X 4097 (max m m'):=by
 rw [sizeDs_snoc] at hl
 rw [depDs_snoc] at hq
 unfold RCs at h
 unfold RCnt at k ⊢
 omega
theorem RCs.fin (h:RCs dp a n m) (hx:sizeD x=1+sizeDs a) (hd:depD x=1+depDs a):RCnt dp x n m:=by
 unfold RCs at h
 unfold RCnt
 omega
theorem RCnt.good (h:RCnt 1 x n m):(decide (n≤4096) && decide (m≤200))=goodD x:=by
 unfold RCnt at h
 unfold goodD
 rw [Bool.eq_iff_iff]
 simp only [Bool.and_eq_true,decide_eq_true_eq]
 omega
end
theorem depDs_part:∀ (l:List DaT) (k:Nat),depDs (l.take k)≤depDs l
 | [],k=>by simp
 | x :: l,0=>by simp [depDs]
 | x :: l,k+1=>by rw [List.take_succ_cons,depDs,depDs];have:=depDs_part l k;omega
def RCountC (d:Nat):Prop:=∀ (Vol:Nat→Prop) (dp:Nat) (x:DaT) (v:Value) (w:World),DaW d Vol x v w→dp≤201 →
 Calls Tryz.prog 46 #[v,.int .i64 dp] w fun e w'=>∃ n m:Nat,e=.returned (.tuple #[.int .i64 n,.int .i64 m])∧RCnt dp x n m∧Below w.heap.size w w'
set_option maxRecDepth 100000 in
set_option maxHeartbeats 4000000 in
theorem rcount_step (d:Nat) (HC:Hid (RCountC d)):RCountC (d+1):=by
 rintro Vol dp ⟨c,n0,s,l⟩ v w ⟨va,rfl,hr⟩ hdp
 obtain ⟨A,k,rfl⟩:=hr.slice
 have hfew:=hr.few
 unfold maxLen at hfew
 have hb:=below_alloc w (.cells #[.bool c,.int .i64 n0,.string s,.slice A l.length k] 46)
 have HB:=Lib.hid hb
 have HR:=Lib.hid ((RowW.step (DaW.step d)).below hr hb)
 have HX:=Lib.hid (heap_alloc_new w (.cells #[.bool c,.int .i64 n0,.string s,.slice A l.length k] 46))
 clear hr hb
 by_cases hbig:200 < dp
 ·have hd1:decide (200 < dp)=true:=by simpa using hbig
  have hd2:decide ((200:Int) < (dp:Int))=true:=by simp;omega
  go_enter Tryz.func46,Tryz.ntmps46
  go_wp2_with fail
  refine bodyPost_ret (v:=.tuple #[.int .i64 1,.int .i64 dp]) (by simp [results,Tryz.results46,go_sem]) rfl ⟨1,dp,rfl,?_,HB.out⟩
  have:=depD_pos (.mk c n0 s l)
  unfold RCnt
  omega
 ·have hd1:decide (200 < dp)=false:=by simpa using hbig
  have hd2:decide ((200:Int) < (dp:Int))=false:=by simp;omega
  have HDP:=Lib.hid hbig
  cases c
  ·go_enter Tryz.func46,Tryz.ntmps46
   have x0:=(cellH HX.out 0).trans rfl
   go_wp2_with fail
   exact bodyPost_ret (v:=.tuple #[.int .i64 1,.int .i64 dp]) (by simp [results,Tryz.results46,go_sem]) rfl ⟨1,dp,rfl,(RCs.start (by have:=HDP.out;omega)).fin (by rw [sizeD];simp [sizeDs]) (by rw [depD];simp [depDs]),HB.out⟩
  ·go_enter Tryz.func46,Tryz.ntmps46
   have x0:=(cellH HX.out 0).trans rfl
   have x3:=(cellH HX.out 3).trans rfl
   go_wp2_with fail
   clear x0 x3 hd1 hd2
   generalize (w.alloc (.cells #[.bool true,.int .i64 n0,.string s,.slice A l.length k] 46))=W at HB HR ⊢
   have HSX:Hid (sizeD (.mk true n0 s l)=1+sizeDs l):=Lib.hid (by rw [sizeD];simp)
   have HDX:Hid (depD (.mk true n0 s l)=1+depDs l):=Lib.hid (by rw [depD];simp)
   go_loopw [6,7,25] (fun u v t wr=>∃ i n m:Nat,i≤l.length∧t=.int .i64 i∧u=.int .i64 n∧v=.int .i64 m∧Hid (RCs dp (l.take i) n m)∧Hid (Below W.heap.size W wr)) (fun _ _ t _=>l.length - (intOf t).toNat)
   case atStart=>exact ⟨0,1,dp,Nat.zero_le _,rfl,rfl,rfl,Lib.hid (RCs.start (by omega)),Lib.hid (Below.refl _ _)⟩
   case round =>
    obtain ⟨i,n,m,hi,rfl,rfl,rfl,HRC,HBR⟩:=hrel
    by_cases hlt:i < l.length
    ·obtain ⟨gg,o,vi,rfl,hg,_,hvi,hc⟩:=RowW.at ((RowW.step (DaW.step d)).below HR.out HBR.out) i hlt
     obtain ⟨B1,n1,m1,rfl⟩:=hvi.this
     have a0:=(hc 0 (by decide)).trans rfl
     have a1:=(hc 1 (by decide)).trans rfl
     have a2:=(hc 2 (by decide)).trans rfl
     have a3:=(hc 3 (by decide)).trans rfl
     simp only [cellsL,Value.cells,List.getElem?_cons_zero,List.getElem?_cons_succ,Nat.add_zero] at a0 a1 a2 a3
     have hi0:(0:Int)≤(i:Int):=by omega
     have hi1:(i:Int) < (l.length:Int):=by omega
     have hdc:decide (i < l.length)=true:=by simpa using hlt
     have hst:=List.take_succ_eq_append_getElem hlt
     have hsp:=sizeDs_part l (i+1)
     have hdq:=depDs_part l (i+1)
     have HLT:=Lib.hid hlt
     rw [hst] at hsp hdq
     generalize hyy:l[i]=y at hvi a0 a1 a2 a3 hst hsp hdq
     have hbx:=below_alloc wr (.cells #[.bool y.ctor,.int .i64 y.int,.string y.name,.slice B1 n1 m1] 46)
     have HVI:=Lib.hid ((DaW.step d).below hvi hbx)
     have HXB:=Lib.hid (heap_alloc_new wr (.cells #[.bool y.ctor,.int .i64 y.int,.string y.name,.slice B1 n1 m1] 46))
     have HBX:=Lib.hid (HBR.out.trans (hbx.mono HBR.out.size))
     have HST:=Lib.hid hst
     have HSP:=Lib.hid hsp
     have HDQ:=Lib.hid hdq
     clear hvi hbx hst hsp hdq hyy hlt hc
     have b0:=(cellH HXB.out 0).trans rfl
     have b1:=(cellH HXB.out 1).trans rfl
     have b2:=(cellH HXB.out 2).trans rfl
     have b3:=(cellH HXB.out 3).trans rfl
     go_wp2_with fail
     clear a0 a1 a2 a3 b0 b1 b2 b3 hdc
     try go_at_call 46
     have hcall:=HC.out Vol (dp+1) y _ _ HVI.out (by omega)
     rw [show ((dp+1:Nat):Int)=(dp:Int)+1 from rfl] at hcall
     refine hcall.mono ?_
     clear hcall
     rintro e w3 ⟨n',m',rfl,hcn,hb3⟩
     have HB3:=Lib.hid (HBX.out.trans (hb3.mono HBX.out.size))
     have HCN:=Lib.hid hcn
     have hb1:1≤n∧n≤4096∧dp≤m∧m≤201:=HRC.out.1
     have hb2:1≤n'∧n'≤4097∧m'≤201:=⟨hcn.1,hcn.2.1,hcn.2.2.1⟩
     clear hb3 hcn
     obtain ⟨M,hM⟩:∃ M:Nat,M=max m m':=⟨_,rfl⟩
     have HMM:=Lib.hid hM
     by_cases hov:4096 < n+n'
     ·have HOV:=Lib.hid hov
      have hd1:decide (4096 < n+n')=true:=by simpa using hov
      have hd2:decide ((4096:Int) < (n:Int)+(n':Int))=true:=by simp;omega
      by_cases hmm:m < m'
      ·have hd3:decide (m < m')=true:=by simpa using hmm
       have hd4:decide ((m:Int) < (m':Int))=true:=by simp;omega
       go_wp2_with fail
       have hMm:M=m':=by omega
       rw [← hMm]
       exact bodyPost_ret (v:=.tuple #[.int .i64 4097,.int .i64 M]) (by simp [results,Tryz.results46,go_sem]) rfl ⟨4097,M,rfl,by rw [HMM.out];exact RCs.over HRC.out HCN.out HOV.out HSX.out HDX.out HSP.out HDQ.out,HB.out.trans (HB3.out.mono HB.out.size)⟩
      ·have hd3:decide (m < m')=false:=by simpa using hmm
       have hd4:decide ((m:Int) < (m':Int))=false:=by simp;omega
       go_wp2_with fail
       have hMm:M=m:=by omega
       rw [← hMm]
       exact bodyPost_ret (v:=.tuple #[.int .i64 4097,.int .i64 M]) (by simp [results,Tryz.results46,go_sem]) rfl ⟨4097,M,rfl,by rw [HMM.out];exact RCs.over HRC.out HCN.out HOV.out HSX.out HDX.out HSP.out HDQ.out,HB.out.trans (HB3.out.mono HB.out.size)⟩
     ·have HOV:=Lib.hid hov
      have hd1:decide (4096 < n+n')=false:=by simpa using hov
      have hd2:decide ((4096:Int) < (n:Int)+(n':Int))=false:=by simp;omega
      by_cases hmm:m < m'
      ·have hd3:decide (m < m')=true:=by simpa using hmm
       have hd4:decide ((m:Int) < (m':Int))=true:=by simp;omega
       go_wp2_with fail
       go_roundw
       case rel=>exact ⟨i+1,n+n',M,by have:=HLT.out;omega,by go_num,by go_num,by rw [show M=m' by omega],by rw [HST.out,HMM.out];exact Lib.hid (RCs.more HRC.out HCN.out (by have:=HOV.out;omega)),HB3⟩
       case measure=>have:=HLT.out;simp [intOf];omega
      ·have hd3:decide (m < m')=false:=by simpa using hmm
       have hd4:decide ((m:Int) < (m':Int))=false:=by simp;omega
       go_wp2_with fail
       go_roundw
       case rel=>exact ⟨i+1,n+n',M,by have:=HLT.out;omega,by go_num,by go_num,by rw [show M=m by omega],by rw [HST.out,HMM.out];exact Lib.hid (RCs.more HRC.out HCN.out (by have:=HOV.out;omega)),HB3⟩
       case measure=>have:=HLT.out;simp [intOf];omega
    ·obtain rfl:i=l.length:=by omega
     have hdc:decide (l.length < l.length)=false:=by simp
     rw [List.take_length] at HRC
     go_wp2_with fail
     exact bodyPost_ret (v:=.tuple #[.int .i64 n,.int .i64 m]) (by simp [results,Tryz.results46,go_sem]) rfl ⟨n,m,rfl,HRC.out.fin HSX.out HDX.out,HB.out.trans (HBR.out.mono HB.out.size)⟩
theorem rcount_any:∀ d,RCountC d
 | 0=>fun _ _ _ _ _ h _=>h.elim
 | d+1=>rcount_step d (Lib.hid (rcount_any d))
set_option maxRecDepth 100000 in
set_option maxHeartbeats 1000000 in
theorem rgood_any (d:Nat) (Vol:Nat→Prop) (x:DaT) (v:Value) (w:World) (hv:DaW d Vol x v w) :
  Calls Tryz.prog 19 #[v] w fun e w'=>e=.returned (.bool (goodD x))∧Below w.heap.size w w':=by
 obtain ⟨A0,l0,c0,rfl⟩:=hv.this
 have hb:=below_alloc w (.cells #[.bool x.ctor,.int .i64 x.int,.string x.name,.slice A0 l0 c0] 46)
 have HB:=Lib.hid hb
 have HP:=Lib.hid (rcount_any d Vol 1 x _ _ ((DaW.step d).below hv hb) (by omega))
 have HX:=Lib.hid (heap_alloc_new w (.cells #[.bool x.ctor,.int .i64 x.int,.string x.name,.slice A0 l0 c0] 46))
 clear hv hb
 go_enter Tryz.func19,Tryz.ntmps19
 have x0:=(cellH HX.out 0).trans rfl
 have x1:=(cellH HX.out 1).trans rfl
 have x2:=(cellH HX.out 2).trans rfl
 have x3:=(cellH HX.out 3).trans rfl
 go_wp2_with fail
 clear x0 x1 x2 x3
 try go_at_call 46
 refine HP.out.mono ?_
 rintro e w1 ⟨n,m,rfl,hcn,hb1⟩
 have HB1:=Lib.hid (HB.out.trans (hb1.mono HB.out.size))
 have HG:=Lib.hid hcn.good
 clear hb1 hcn
 by_cases hn:n≤4096
 ·have hd1:decide (n≤4096)=true:=by simpa using hn
  have hd2:decide ((n:Int)≤(4096:Int))=true:=by simp;omega
  by_cases hm:m≤200
  ·have hd3:decide (m≤200)=true:=by simpa using hm
   have hd4:decide ((m:Int)≤(200:Int))=true:=by simp;omega
   go_wp2_with fail
   go_ret
   exact ⟨by rw [← HG.out];simp [hn,hm],HB1.out⟩
  ·have hd3:decide (m≤200)=false:=by simpa using hm
   have hd4:decide ((m:Int)≤(200:Int))=false:=by simp;omega
   go_wp2_with fail
   go_ret
   exact ⟨by rw [← HG.out];simp [hn,hm],HB1.out⟩
 ·have hd1:decide (n≤4096)=false:=by simpa using hn
  have hd2:decide ((n:Int)≤(4096:Int))=false:=by simp;omega
  go_wp2_with fail
  go_ret
  exact ⟨by rw [← HG.out];simp [hn],HB1.out⟩
end Lx
end Go.Proofs.YtiljemkglhloeaaGreatDoor
namespace Go.Proofs.YtiljemkglhloeaaGreatDoor
set_option linter.unusedSimpArgs false
set_option linter.unusedVariables false
namespace Lx
open Go Go.RowKit
mutual
/-- Have data an encoding? -/
def fitD:DaT→Bool
 | .mk c _ s l=>if c=true then (decide (1≤s.size) && decide (s.size≤32)) && decide (l.length≤8) && fitDs l else true
def fitDs:List DaT→Bool
 | []=>true
 | x :: l=>fitD x && fitDs l
end
theorem fitDs_any:∀ l:List DaT,fitDs l=!(l.any fun x=>!fitD x)
 | []=>rfl
 | x :: l=>by rw [fitDs,fitDs_any l,List.any_cons,Bool.not_or,Bool.not_not]
theorem fitD_parts (x:DaT):fitD x=(!(x.ctor && !((decide (1≤x.name.size) && decide (x.name.size≤32)) && decide (x.args.length≤8))) && fitDs (partsD x)):=by
 obtain ⟨c,n,s,l⟩:=x
 cases c
 ·rfl
 ·rw [fitD,partsD,if_pos rfl,if_pos rfl]
  show _=(!(true && !((decide (1≤s.size) && decide (s.size≤32)) && decide (l.length≤8))) && fitDs l)
  rw [Bool.true_and,Bool.not_not]
/-- A condition on memory that new blocks don't touch. -/
def StayI (I:World→Prop):Prop:=∀ w w',I w→Below w.heap.size w w'→I w'
/-- What a test on types gives, wherever it is made. -/
def Test_fit (t:Addr) (p:DaT→Bool) (I:World→Prop) (d:Nat):Prop:=∀ (Vol:Nat→Prop) (x:DaT) (v:Value) (w:World),DaW d Vol x v w→I w→Calls Tryz.prog 105 #[v,.pointer (some t)] w fun e w'=>e=.returned (.bool (p x))∧Below w.heap.size w w'
set_option maxRecDepth 100000 in
set_option maxHeartbeats 2000000 in
theorem index_fit (t:Addr) (p:DaT→Bool) (I:World→Prop) (hI:StayI I) (d:Nat) (HC:Hid (Test_fit t p I d)) (Vol:Nat→Prop) (l:List DaT) (v:Value) (w:World) (hv:RowW 4 (DaW d) Vol l v w) (hi:I w) :
  Calls Tryz.prog 131 #[v,.func (.func 105) #[] #[.pointer (some t)]] w fun e w'=>∃ r:Int,e=.returned (.int .i64 r)∧decide (r ≥ 0)=l.any p∧Below w.heap.size w w':=by
 obtain ⟨A,c,rfl⟩:=hv.slice
 have hfew:=hv.few
 unfold maxLen at hfew
 have HV:=Lib.hid hv
 have HI:=Lib.hid hi
 have HS:=Lib.hid hI
 clear hv hi hI
 go_enter Tryz.func131,Tryz.ntmps131
 go_wp2_with fail
 go_loopw [8] (fun t wr=>∃ k:Nat,k≤l.length∧t=.int .i64 k∧Hid (Below w.heap.size w wr)∧Hid (∀ (j:Nat) (h:j < l.length),j < k→p l[j]=false)) (fun t _=>l.length - (intOf t).toNat)
 case atStart=>exact ⟨0,Nat.zero_le _,rfl,Lib.hid (Below.refl _ _),Lib.hid (fun j _ h=>by omega)⟩
 case round =>
  obtain ⟨k,hk,rfl,HB,HN⟩:=hrel
  by_cases hlt:k < l.length
  ·obtain ⟨g,o,vi,rfl,hg,_,hvi,hc⟩:=RowW.at ((RowW.step (DaW.step d)).below HV.out HB.out) k hlt
   obtain ⟨B1,n1,c1,rfl⟩:=hvi.this
   have a0:=(hc 0 (by decide)).trans rfl
   have a1:=(hc 1 (by decide)).trans rfl
   have a2:=(hc 2 (by decide)).trans rfl
   have a3:=(hc 3 (by decide)).trans rfl
   simp only [cellsL,Value.cells,List.getElem?_cons_zero,List.getElem?_cons_succ,Nat.add_zero] at a0 a1 a2 a3
   have HX:=Lib.hid (HC.out Vol l[k] _ _ hvi (HS.out _ _ HI.out HB.out))
   have hk0:(0:Int)≤(k:Int):=by omega
   have hk1:(k:Int) < (l.length:Int):=by omega
   have hdc:decide (k < l.length)=true:=by simpa using hlt
   clear hc hvi
   cases hp:p l[k]
   all_goals
    rw [hp] at HX
    go_wp2_with (go_at_call 105;refine HX.out.mono ?_;rintro e w3 ⟨rfl,hb3⟩;have HB3:=Lib.hid (HB.out.trans (hb3.mono HB.out.size));clear hb3)
   ·go_roundw
    case rel=>exact ⟨k+1,by omega,by go_num,HB3,Lib.hid (fun j h hj=>by
     by_cases e:j=k
     ·subst e;exact hp
     ·exact HN.out j h (by omega))⟩
    case measure=>simp [intOf];omega
   ·go_ret
    exact ⟨(k:Int),rfl,by
     have:l.any p=true:=List.any_eq_true.2 ⟨l[k],List.getElem_mem _,hp⟩
     rw [this];simp,HB3.out⟩
  ·obtain rfl:k=l.length:=by omega
   have hdc:decide (l.length < l.length)=false:=by simp
   go_wp2_with fail
   go_ret
   exact ⟨-1,rfl,by
    have:l.any p=false:=by
     rw [List.any_eq_false]
     intro x hx
     obtain ⟨j,hj,rfl⟩:=List.getElem_of_mem hx
     rw [HN.out j hj hj];simp
    rw [this];rfl,HB.out⟩
theorem contains_fit (t:Addr) (p:DaT→Bool) (I:World→Prop) (hI:StayI I) (d:Nat) (HC:Hid (Test_fit t p I d)) (Vol:Nat→Prop) (l:List DaT) (v:Value) (w:World) (hv:RowW 4 (DaW d) Vol l v w) (hi:I w) :
  Calls Tryz.prog 104 #[v,.func (.func 105) #[] #[.pointer (some t)]] w fun e w'=>e=.returned (.bool (l.any p))∧Below w.heap.size w w':=by
 have HX:=Lib.hid (index_fit t p I hI d HC Vol l v w hv hi)
 clear hv hi hI
 go_enter Tryz.func104,Tryz.ntmps104
 go_wp2_with (go_at_call 131;refine HX.out.mono ?_;rintro e w3 ⟨r,rfl,hr,hb⟩;have HR:=Lib.hid hr;have HB:=Lib.hid hb;clear hr hb)
 go_ret
 exact ⟨by rw [HR.out];rfl,HB.out⟩
set_option maxRecDepth 100000 in
set_option maxHeartbeats 1000000 in
theorem size_fits (n:Nat) (w:World):Calls Tryz.prog 75 #[.int .i64 n] w fun e w'=>e=.returned (.bool (decide (1≤n) && decide (n≤32)))∧w'=w:=by
 by_cases h1:1≤n
 ·have e1:decide (1≤n)=true:=by simpa using h1
  have e2:decide ((1:Int)≤(n:Int))=true:=by simp;omega
  go_enter Tryz.func75,Tryz.ntmps75
  go_wp2_with fail
  go_ret
  exact ⟨by rw [e1];simp;omega,rfl⟩
 ·have e1:decide (1≤n)=false:=by simpa using h1
  have e2:decide ((1:Int)≤(n:Int))=false:=by simp;omega
  go_enter Tryz.func75,Tryz.ntmps75
  go_wp2_with fail
  go_ret
  exact ⟨by rw [e1];rfl,rfl⟩
set_option maxRecDepth 100000 in
set_option maxHeartbeats 1000000 in
theorem arity_fits (n:Nat) (w:World):Calls Tryz.prog 76 #[.int .i64 n] w fun e w'=>e=.returned (.bool (decide (n≤8)))∧w'=w:=by
 go_enter Tryz.func76,Tryz.ntmps76
 go_wp2_with fail
 go_ret
 exact ⟨by simp;omega,rfl⟩
def FitC (d:Nat):Prop:=∀ (Vol:Nat→Prop) (x:DaT) (v:Value) (w:World),DaW d Vol x v w →
 Calls Tryz.prog 42 #[v] w fun e w'=>e=.returned (.bool (fitD x))∧Below w.heap.size w w'
def boxF:Obj:=.cells #[.func (.func 42) #[] #[]] 54 (0,0)
set_option maxRecDepth 100000 in
set_option maxHeartbeats 1000000 in
theorem clo_fit (d:Nat) (HC:Hid (FitC d)) (X:Nat):Test_fit ⟨X,0,none⟩ (fun x=>!fitD x) (fun w=>w.heap[X]?=some boxF) d:=by
 intro Vol x v w hv hX
 obtain ⟨A,l,c,rfl⟩:=hv.this
 have hb:=below_alloc w (.cells #[.bool x.ctor,.int .i64 x.int,.string x.name,.slice A l c] 46)
 have HB:=Lib.hid hb
 have HP:=Lib.hid (HC.out Vol x _ _ ((DaW.step d).below hv hb))
 have HX:=Lib.hid (heap_alloc_new w (.cells #[.bool x.ctor,.int .i64 x.int,.string x.name,.slice A l c] 46))
 have HF:Hid ((w.alloc (.cells #[.bool x.ctor,.int .i64 x.int,.string x.name,.slice A l c] 46)).heap[X]?=some boxF):=Lib.hid ((hb.block X (Array.getElem?_eq_some_iff.1 hX).1).trans hX)
 clear hv hb hX
 go_enter Tryz.func105,Tryz.ntmps105
 have x0:=(cellH HX.out 0).trans rfl
 have x1:=(cellH HX.out 1).trans rfl
 have x2:=(cellH HX.out 2).trans rfl
 have x3:=(cellH HX.out 3).trans rfl
 have f0:=(cellH HF.out 0).trans rfl
 go_wp2_with fail
 clear x0 x1 x2 x3 f0
 try go_at_call 42
 refine HP.out.mono ?_
 rintro e w1 ⟨rfl,hb1⟩
 have HB1:=Lib.hid (HB.out.trans (hb1.mono HB.out.size))
 clear hb1
 go_wp2_with fail
 go_ret
 exact ⟨rfl,HB1.out⟩
set_option maxRecDepth 100000 in
set_option maxHeartbeats 1000000 in
theorem all_fit (d:Nat) (HC:Hid (FitC d)) (Vol:Nat→Prop) (l:List DaT) (v:Value) (w:World) (hv:RowW 4 (DaW d) Vol l v w) :
  Calls Tryz.prog 77 #[v,.func (.func 42) #[] #[]] w fun e w'=>e=.returned (.bool (fitDs l))∧Below w.heap.size w w':=by
 obtain ⟨A,c,rfl⟩:=hv.slice
 have hb:=below_alloc w boxF
 have HB:=Lib.hid hb
 have HP:=Lib.hid (contains_fit ⟨w.heap.size,0,none⟩ (fun x=>!fitD x) (fun W=>W.heap[w.heap.size]?=some boxF) (fun W W' h hb=>(hb.block _ (Array.getElem?_eq_some_iff.1 h).1).trans h) d (Lib.hid (clo_fit d HC w.heap.size)) Vol l _ _ ((RowW.step (DaW.step d)).below hv hb) (heap_alloc_new w boxF))
 unfold boxF at HP HB
 clear hv hb
 go_enter Tryz.func77,Tryz.ntmps77
 go_wp2_with fail
 try go_at_call 104
 refine HP.out.mono ?_
 rintro e w1 ⟨rfl,hb1⟩
 have HB1:=Lib.hid (HB.out.trans (hb1.mono HB.out.size))
 clear hb1
 go_wp2_with fail
 go_ret
 exact ⟨by rw [fitDs_any];rfl,HB1.out⟩
set_option maxRecDepth 100000 in
set_option maxHeartbeats 1000000 in
theorem fits_step (d:Nat) (HC:Hid (FitC d)):FitC (d+1):=by
 intro Vol x v w hv
 have HFP:=Lib.hid (fitD_parts x)
 obtain ⟨c,n,s,l⟩:=x
 have hv0:=hv
 obtain ⟨va,rfl,hr⟩:=hv
 obtain ⟨A,k,rfl⟩:=hr.slice
 have hb:=below_alloc w (.cells #[.bool c,.int .i64 n,.string s,.slice A l.length k] 46)
 have HB:=Lib.hid hb
 have HP:=Lib.hid (fun W (hW:Below (w.alloc (.cells #[.bool c,.int .i64 n,.string s,.slice A l.length k] 46)).heap.size (w.alloc (.cells #[.bool c,.int .i64 n,.string s,.slice A l.length k] 46)) W)=>parts_any d Vol _ _ W ((DaW.step (d+1)).below hv0 (hb.trans (hW.mono hb.size))))
 have HX:=Lib.hid (heap_alloc_new w (.cells #[.bool c,.int .i64 n,.string s,.slice A l.length k] 46))
 have hcells:∀ W:World,Below (w.alloc (.cells #[.bool c,.int .i64 n,.string s,.slice A l.length k] 46)).heap.size (w.alloc (.cells #[.bool c,.int .i64 n,.string s,.slice A l.length k] 46)) W→W.heap[w.heap.size]?=some (.cells #[.bool c,.int .i64 n,.string s,.slice A l.length k] 46 (0,0)):=fun W hW=>(hW.block _ (by simp)).trans HX.out
 clear hr hb hv0
 go_enter Tryz.func42,Tryz.ntmps42
 have x0:=(cellH HX.out 0).trans rfl
 have x1:=(cellH HX.out 1).trans rfl
 have x2:=(cellH HX.out 2).trans rfl
 have x3:=(cellH HX.out 3).trans rfl
 clear hcells
 have HSZ:=Lib.hid (size_fits s.size)
 have HAR:=Lib.hid (arity_fits l.length)
 have hFP:fitD (.mk c n s l)=(!(c && !((decide (1≤s.size) && decide (s.size≤32)) && decide (l.length≤8))) && fitDs (partsD (.mk c n s l))):=HFP.out
 have HFQ:=Lib.hid hFP
 clear hFP HFP
 generalize (decide (1≤s.size) && decide (s.size≤32))=bs1 at HSZ HFQ
 generalize decide (l.length≤8)=bs2 at HAR HFQ
 generalize partsD (.mk c n s l)=ps at HP HFQ
 generalize fitD (.mk c n s l)=res at HFQ ⊢
 cases c
 ·go_wp2_with fail
  clear x0 x1 x2 x3
  try go_at_call 78
  refine (HP.out _ (Below.refl _ _)).mono ?_
  rintro e w1 ⟨pv,rfl,hr,hb1⟩
  have HR:=Lib.hid hr
  have HB1:=Lib.hid (HB.out.trans (hb1.mono HB.out.size))
  obtain ⟨A5,c5,rfl⟩:=hr.slice
  clear hr hb1
  go_wp2_with fail
  try go_at_call 77
  refine (all_fit d HC Vol ps _ w1 HR.out).mono ?_
  rintro e w2 ⟨rfl,hb2⟩
  have HB2:=Lib.hid (HB1.out.trans (hb2.mono HB1.out.size))
  clear hb2
  go_wp2_with fail
  go_ret
  exact ⟨by rw [HFQ.out];simp,HB2.out⟩
 ·cases bs1
  ·go_wp2_with (go_at_call 75;refine (HSZ.out _).mono ?_;rintro e wq ⟨rfl,rfl⟩)
   go_ret
   exact ⟨by rw [HFQ.out];rfl,HB.out⟩
  ·cases bs2
   ·go_wp2_with (first | (go_at_call 75;refine (HSZ.out _).mono ?_;rintro e wq ⟨rfl,rfl⟩) | (go_at_call 76;refine (HAR.out _).mono ?_;rintro e wq ⟨rfl,rfl⟩))
    go_ret
    exact ⟨by rw [HFQ.out];rfl,HB.out⟩
   ·go_wp2_with (first | (go_at_call 75;refine (HSZ.out _).mono ?_;rintro e wq ⟨rfl,rfl⟩) | (go_at_call 76;refine (HAR.out _).mono ?_;rintro e wq ⟨rfl,rfl⟩))
    try clear x0 x1 x2 x3
    try go_at_call 78
    refine (HP.out _ (Below.refl _ _)).mono ?_
    rintro e w1 ⟨pv,rfl,hr,hb1⟩
    have HR:=Lib.hid hr
    have HB1:=Lib.hid (HB.out.trans (hb1.mono HB.out.size))
    obtain ⟨A5,c5,rfl⟩:=hr.slice
    clear hr hb1
    go_wp2_with fail
    try go_at_call 77
    refine (all_fit d HC Vol ps _ w1 HR.out).mono ?_
    rintro e w2 ⟨rfl,hb2⟩
    have HB2:=Lib.hid (HB1.out.trans (hb2.mono HB1.out.size))
    clear hb2
    go_wp2_with fail
    go_ret
    exact ⟨by rw [HFQ.out];simp,HB2.out⟩
theorem fits_any:∀ d,FitC d
 | 0=>fun _ _ _ _ h=>h.elim
 | d+1=>fits_step d (Lib.hid (fits_any d))
end Lx
end Go.Proofs.YtiljemkglhloeaaGreatDoor
