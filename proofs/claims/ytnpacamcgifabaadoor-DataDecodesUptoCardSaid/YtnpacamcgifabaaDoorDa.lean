/- Data as trees that memory holds: their nodes, their depth. Conditions: as each states. -/
import Derived.Test.YtnpacamcgifabaaDoorUxA
namespace Go.Proofs.YtnpacamcgifabaaDoor
set_option linter.unusedSimpArgs false
set_option linter.unusedVariables false
namespace Lx
open Go Go.RowKit
inductive DaT where
 | mk (c:Bool) (n:Int) (s:ByteArray) (l:List DaT)
def DaT.ctor:DaT→Bool | .mk c _ _ _=>c
def DaT.int:DaT→Int | .mk _ n _ _=>n
def DaT.name:DaT→ByteArray | .mk _ _ s _=>s
def DaT.args:DaT→List DaT | .mk _ _ _ l=>l
def DaW:Nat→HoldW DaT
 | 0=>fun _ _ _ _=>False
 | d+1=>fun Vol x v w=>match x with
  | .mk c n s l=>∃ va,v=.agg #[.bool c,.int .i64 n,.string s,va]∧RowW 4 (DaW d) Vol l va w
theorem DaW.step:∀ d,StepW (DaW d)
 | 0=>fun _ _ _ _ _ _ h _ _=>h.elim
 | d+1=>by
  rintro Vol Vol' ⟨c,n,s,l⟩ v w w' ⟨va,rfl,h⟩ hk hv
  exact ⟨va,rfl,RowW.step (DaW.step d) _ _ _ _ _ _ h hk hv⟩
theorem DaW.this {d:Nat} {Vol:Nat→Prop} {x:DaT} {v:Value} {w:World} (h:DaW d Vol x v w):∃ A n c,v=.agg #[.bool x.ctor,.int .i64 x.int,.string x.name,.slice A n c]:=by
 cases d with
 | zero=>exact h.elim
 | succ d =>
  obtain ⟨c,n,s,l⟩:=x
  obtain ⟨va,rfl,h1⟩:=h
  obtain ⟨A,c',rfl⟩:=h1.slice
  exact ⟨A,_,c',rfl⟩
theorem daCells (n:Nat) (Vol:Nat→Prop) (x:DaT) (v:Value) (w:World) (h:DaW n Vol x v w):(cellsL v).length=4:=by
 obtain ⟨A,l,c,rfl⟩:=h.this
 rfl
mutual
/-- How many nodes. -/
def sizeD:DaT→Nat
 | .mk c _ _ l=>1+(if c=true then sizeDs l else 0)
def sizeDs:List DaT→Nat
 | []=>0
 | x :: l=>sizeD x+sizeDs l
end
mutual
/-- How deep. -/
def depD:DaT→Nat
 | .mk c _ _ l=>1+(if c=true then depDs l else 0)
def depDs:List DaT→Nat
 | []=>0
 | x :: l=>max (depD x) (depDs l)
end
theorem sizeD_pos (x:DaT):1≤sizeD x:=by obtain ⟨c,n,s,l⟩:=x;rw [sizeD];omega
theorem depD_pos (x:DaT):1≤depD x:=by obtain ⟨c,n,s,l⟩:=x;rw [depD];omega
theorem sizeDs_snoc:∀ (a:List DaT) (x:DaT),sizeDs (a++[x])=sizeDs a+sizeD x
 | [],x=>by simp [sizeDs]
 | y :: a,x=>by rw [List.cons_append,sizeDs,sizeDs,sizeDs_snoc a x];omega
theorem depDs_snoc:∀ (a:List DaT) (x:DaT),depDs (a++[x])=max (depDs a) (depD x)
 | [],x=>by simp [depDs]
 | y :: a,x=>by rw [List.cons_append,depDs,depDs,depDs_snoc a x];omega
theorem sizeDs_take {l:List DaT} {k:Nat} (h:k < l.length):sizeDs (l.take (k+1))=sizeDs (l.take k)+sizeD l[k]:=by rw [List.take_succ_eq_append_getElem h,sizeDs_snoc]
theorem depDs_take {l:List DaT} {k:Nat} (h:k < l.length):depDs (l.take (k+1))=max (depDs (l.take k)) (depD l[k]):=by rw [List.take_succ_eq_append_getElem h,depDs_snoc]
theorem sizeDs_part:∀ (l:List DaT) (k:Nat),sizeDs (l.take k)≤sizeDs l
 | [],k=>by simp
 | x :: l,0=>by simp [sizeDs]
 | x :: l,k+1=>by rw [List.take_succ_cons,sizeDs,sizeDs];have:=sizeDs_part l k;omega
theorem sizeDs_mem {l:List DaT} {k:Nat} (h:k < l.length):sizeD l[k]≤sizeDs l:=by
 have h1:=sizeDs_part l (k+1)
 rw [sizeDs_take h] at h1
 omega
mutual
theorem dep_size:∀ x:DaT,depD x≤sizeD x
 | .mk c n s l=>by
  rw [depD,sizeD]
  have:=deps_size l
  cases c
  ·simp
  ·simp;omega
theorem deps_size:∀ l:List DaT,depDs l≤sizeDs l
 | []=>by rw [depDs];exact Nat.zero_le _
 | x :: l=>by
  rw [depDs,sizeDs]
  have h1:=dep_size x
  have h2:=deps_size l
  omega
end
/-- The arguments: an int has none. -/
def partsD:DaT→List DaT
 | .mk c _ _ l=>if c=true then l else []
theorem sizeD_parts (x:DaT):sizeD x=1+sizeDs (partsD x):=by
 obtain ⟨c,n,s,l⟩:=x
 rw [sizeD,partsD]
 cases c
 ·simp [sizeDs]
 ·simp
theorem depD_parts (x:DaT):depD x=1+depDs (partsD x):=by
 obtain ⟨c,n,s,l⟩:=x
 rw [depD,partsD]
 cases c
 ·simp [depDs]
 ·simp
def goodD (x:DaT):Bool:=decide (sizeD x≤4096) && decide (depD x≤200)
set_option maxRecDepth 100000 in
set_option maxHeartbeats 1000000 in
theorem parts_any (d:Nat) (Vol:Nat→Prop) (x:DaT) (v:Value) (w:World) (hv:DaW (d+1) Vol x v w) :
  Calls Tryd.prog 100 #[v] w fun e w'=>∃ pv,e=.returned pv∧RowW 4 (DaW d) Vol (partsD x) pv w'∧Below w.heap.size w w':=by
 obtain ⟨c,n,s,l⟩:=x
 obtain ⟨va,rfl,hr⟩:=hv
 obtain ⟨A,k,rfl⟩:=hr.slice
 have hb:=below_alloc w (.cells #[.bool c,.int .i64 n,.string s,.slice A l.length k] 68)
 have HB:=Lib.hid hb
 have HR:=Lib.hid ((RowW.step (DaW.step d)).below hr hb)
 have hx:=heap_alloc_new w (.cells #[.bool c,.int .i64 n,.string s,.slice A l.length k] 68)
 have HX:=Lib.hid hx
 clear hr hb hx
 cases c
 ·go_enter Tryd.func100,Tryd.ntmps100
  have x0:=(cellH HX.out 0).trans rfl
  go_wp2_with fail
  go_ret
  exact ⟨_,rfl,RowW.nil _ _,HB.out⟩
 ·go_enter Tryd.func100,Tryd.ntmps100
  have x0:=(cellH HX.out 0).trans rfl
  have x3:=(cellH HX.out 3).trans rfl
  go_wp2_with fail
  go_ret
  exact ⟨_,rfl,HR.out,HB.out⟩
def CountC (d:Nat):Prop:=∀ (Vol:Nat→Prop) (k:Nat) (x:DaT) (v:Value) (w:World),DaW d Vol x v w→k≤4096 →
 Calls Tryd.prog 80 #[.int .i64 k,v] w fun e w'=>e=.returned (.int .i64 ((min (k+sizeD x) 4097:Nat):Int))∧Below w.heap.size w w'
set_option maxRecDepth 100000 in
set_option maxHeartbeats 4000000 in
theorem count_step (d:Nat) (HC:Hid (CountC d)):CountC (d+1):=by
 intro Vol k x v w hv hk
 obtain ⟨A0,l0,c0,rfl⟩:=hv.this
 have hb:=below_alloc w (.cells #[.bool x.ctor,.int .i64 x.int,.string x.name,.slice A0 l0 c0] 68)
 have HB:=Lib.hid hb
 have HP:=Lib.hid (parts_any d Vol x _ _ ((DaW.step (d+1)).below hv hb))
 have HX:=Lib.hid (heap_alloc_new w (.cells #[.bool x.ctor,.int .i64 x.int,.string x.name,.slice A0 l0 c0] 68))
 have HSZ:=Lib.hid (sizeD_parts x)
 clear hv hb
 go_enter Tryd.func80,Tryd.ntmps80
 have x0:=(cellH HX.out 0).trans rfl
 have x1:=(cellH HX.out 1).trans rfl
 have x2:=(cellH HX.out 2).trans rfl
 have x3:=(cellH HX.out 3).trans rfl
 go_wp2_with fail
 clear x0 x1 x2 x3
 generalize (w.alloc (.cells #[.bool x.ctor,.int .i64 x.int,.string x.name,.slice A0 l0 c0] 68))=W at HB HP HX ⊢
 try go_at_call 100
 refine HP.out.mono ?_
 rintro e w1 ⟨pv,rfl,hr,hb1⟩
 have HB1:=Lib.hid (HB.out.trans (hb1.mono HB.out.size))
 have HR:=Lib.hid hr
 clear hb1 HP HX HB
 obtain ⟨A,c,rfl⟩:=hr.slice
 have hfew:=hr.few
 unfold maxLen at hfew
 clear hr
 generalize partsD x=l at HR HSZ hfew ⊢
 go_wp2_with fail
 go_loopw [0,12] (fun u t wr=>∃ i:Nat,i≤l.length∧t=.int .i64 i∧u=.int .i64 ((min (k+1+sizeDs (l.take i)) 4097:Nat):Int)∧Hid (Below w1.heap.size w1 wr)) (fun _ t _=>l.length - (intOf t).toNat)
 case atStart=>exact ⟨0,Nat.zero_le _,rfl,by rw [List.take_zero,sizeDs];go_num,Lib.hid (Below.refl _ _)⟩
 case round =>
  obtain ⟨i,hi,rfl,rfl,HBR⟩:=hrel
  by_cases hlt:i < l.length
  ·obtain ⟨gg,o,vi,rfl,hg,_,hvi,hc⟩:=RowW.at ((RowW.step (DaW.step d)).below HR.out HBR.out) i hlt
   obtain ⟨B1,n1,m1,rfl⟩:=hvi.this
   have a0:=(hc 0 (by decide)).trans rfl
   have a1:=(hc 1 (by decide)).trans rfl
   have a2:=(hc 2 (by decide)).trans rfl
   have a3:=(hc 3 (by decide)).trans rfl
   simp only [cellsL,Value.cells,List.getElem?_cons_zero,List.getElem?_cons_succ,Nat.add_zero] at a0 a1 a2 a3
   have hi0:(0:Int)≤(i:Int):=by omega
   have hi1:(i:Int) < (l.length:Int):=by omega
   have hdc:decide (i < l.length)=true:=by simpa using hlt
   have hst:=sizeDs_take hlt
   have hsp:=sizeDs_part l i
   have HLT:=Lib.hid hlt
   generalize hyy:l[i]=y at hvi a0 a1 a2 a3 hst
   have hbx:=below_alloc wr (.cells #[.bool y.ctor,.int .i64 y.int,.string y.name,.slice B1 n1 m1] 68)
   have HVI:=Lib.hid ((DaW.step d).below hvi hbx)
   have HXB:=Lib.hid (heap_alloc_new wr (.cells #[.bool y.ctor,.int .i64 y.int,.string y.name,.slice B1 n1 m1] 68))
   have HBX:=Lib.hid (HBR.out.trans (hbx.mono HBR.out.size))
   have HST:=Lib.hid hst
   have HSP:=Lib.hid hsp
   obtain ⟨N,hN⟩:∃ N:Nat,min (k+1+sizeDs (l.take i)) 4097=N:=⟨_,rfl⟩
   have HN:=Lib.hid hN
   rw [hN]
   clear hvi hbx hst hsp hyy hlt hc hN
   by_cases hbig:4096 < N
   ·have hd1:decide (4096 < N)=true:=by simpa using hbig
    have hd2:decide ((4096:Int) < (N:Int))=true:=by simp;omega
    go_wp2_with fail
    go_ret
    have e:min (k+sizeD x) 4097=N:=by
     have:=HN.out
     have:=HSP.out
     have:=HSZ.out
     omega
    rw [e]
    exact ⟨rfl,HB1.out.trans (HBX.out.mono HB1.out.size)⟩
   ·have hd1:decide (4096 < N)=false:=by simpa using hbig
    have hd2:decide ((4096:Int) < (N:Int))=false:=by simp;omega
    have b0:=(cellH HXB.out 0).trans rfl
    have b1:=(cellH HXB.out 1).trans rfl
    have b2:=(cellH HXB.out 2).trans rfl
    have b3:=(cellH HXB.out 3).trans rfl
    go_wp2_with fail
    clear a0 a1 a2 a3 b0 b1 b2 b3 hd1 hd2 hdc
    try go_at_call 80
    refine (HC.out Vol N y _ _ HVI.out (by omega)).mono ?_
    rintro e w3 ⟨rfl,hb3⟩
    have HB3:=Lib.hid (HBX.out.trans (hb3.mono HBX.out.size))
    clear hb3
    go_wp2_with fail
    go_roundw
    case rel=>exact ⟨i+1,by have:=HLT.out;omega,by go_num,by congr 2;rw [HST.out];have:=HN.out;omega,HB3⟩
    case measure=>have:=HLT.out;simp [intOf];omega
  ·obtain rfl:i=l.length:=by omega
   have hdc:decide (l.length < l.length)=false:=by simp
   rw [List.take_length]
   go_wp2_with fail
   go_ret
   rw [HSZ.out,← Nat.add_assoc]
   exact ⟨rfl,HB1.out.trans (HBR.out.mono HB1.out.size)⟩
theorem count_any:∀ d,CountC d
 | 0=>fun _ _ _ _ _ h _=>h.elim
 | d+1=>count_step d (Lib.hid (count_any d))
end Lx
end Go.Proofs.YtnpacamcgifabaaDoor
