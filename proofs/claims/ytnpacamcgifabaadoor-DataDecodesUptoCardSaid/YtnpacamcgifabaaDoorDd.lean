/- Data: whether all names and numbers of arguments are such that data have an encoding. Conditions: as each states. -/
import Derived.Test.YtnpacamcgifabaaDoorDb
namespace Go.Proofs.YtnpacamcgifabaaDoor
set_option linter.unusedSimpArgs false
set_option linter.unusedVariables false
namespace Lx
open Go Go.RowKit
mutual
/-- Have data an encoding? -/
def fitD:DaT→Bool
 | .mk c _ s l=>if c=true then (decide (1≤s.size) && decide (s.size≤32)) && decide (l.length≤8) && fitDs l else true
def fitDs:List DaT→Bool
 | []=>true
 | x :: l=>fitD x && fitDs l
end
theorem fitDs_any:∀ l:List DaT,fitDs l=!(l.any fun x=>!fitD x)
 | []=>rfl
 | x :: l=>by rw [fitDs,fitDs_any l,List.any_cons,Bool.not_or,Bool.not_not]
theorem fitD_parts (x:DaT):fitD x=(!(x.ctor && !((decide (1≤x.name.size) && decide (x.name.size≤32)) && decide (x.args.length≤8))) && fitDs (partsD x)):=by
 obtain ⟨c,n,s,l⟩:=x
 cases c
 ·rfl
 ·rw [fitD,partsD,if_pos rfl,if_pos rfl]
  show _=(!(true && !((decide (1≤s.size) && decide (s.size≤32)) && decide (l.length≤8))) && fitDs l)
  rw [Bool.true_and,Bool.not_not]
/-- A condition on memory that new blocks don't touch. -/
def StayI (I:World→Prop):Prop:=∀ w w',I w→Below w.heap.size w w'→I w'
/-- What a test on types gives, wherever it is made. -/
def Test_fit (t:Addr) (p:DaT→Bool) (I:World→Prop) (d:Nat):Prop:=∀ (Vol:Nat→Prop) (x:DaT) (v:Value) (w:World),DaW d Vol x v w→I w→Calls Tryd.prog 115 #[v,.pointer (some t)] w fun e w'=>e=.returned (.bool (p x))∧Below w.heap.size w w'
set_option maxRecDepth 100000 in
set_option maxHeartbeats 2000000 in
theorem index_fit (t:Addr) (p:DaT→Bool) (I:World→Prop) (hI:StayI I) (d:Nat) (HC:Hid (Test_fit t p I d)) (Vol:Nat→Prop) (l:List DaT) (v:Value) (w:World) (hv:RowW 4 (DaW d) Vol l v w) (hi:I w) :
  Calls Tryd.prog 118 #[v,.func (.func 115) #[] #[.pointer (some t)]] w fun e w'=>∃ r:Int,e=.returned (.int .i64 r)∧decide (r ≥ 0)=l.any p∧Below w.heap.size w w':=by
 obtain ⟨A,c,rfl⟩:=hv.slice
 have hfew:=hv.few
 unfold maxLen at hfew
 have HV:=Lib.hid hv
 have HI:=Lib.hid hi
 have HS:=Lib.hid hI
 clear hv hi hI
 go_enter Tryd.func118,Tryd.ntmps118
 go_wp2_with fail
 go_loopw [8] (fun t wr=>∃ k:Nat,k≤l.length∧t=.int .i64 k∧Hid (Below w.heap.size w wr)∧Hid (∀ (j:Nat) (h:j < l.length),j < k→p l[j]=false)) (fun t _=>l.length - (intOf t).toNat)
 case atStart=>exact ⟨0,Nat.zero_le _,rfl,Lib.hid (Below.refl _ _),Lib.hid (fun j _ h=>by omega)⟩
 case round =>
  obtain ⟨k,hk,rfl,HB,HN⟩:=hrel
  by_cases hlt:k < l.length
  ·obtain ⟨g,o,vi,rfl,hg,_,hvi,hc⟩:=RowW.at ((RowW.step (DaW.step d)).below HV.out HB.out) k hlt
   obtain ⟨B1,n1,c1,rfl⟩:=hvi.this
   have a0:=(hc 0 (by decide)).trans rfl
   have a1:=(hc 1 (by decide)).trans rfl
   have a2:=(hc 2 (by decide)).trans rfl
   have a3:=(hc 3 (by decide)).trans rfl
   simp only [cellsL,Value.cells,List.getElem?_cons_zero,List.getElem?_cons_succ,Nat.add_zero] at a0 a1 a2 a3
   have HX:=Lib.hid (HC.out Vol l[k] _ _ hvi (HS.out _ _ HI.out HB.out))
   have hk0:(0:Int)≤(k:Int):=by omega
   have hk1:(k:Int) < (l.length:Int):=by omega
   have hdc:decide (k < l.length)=true:=by simpa using hlt
   clear hc hvi
   cases hp:p l[k]
   all_goals
    rw [hp] at HX
    go_wp2_with (go_at_call 115;refine HX.out.mono ?_;rintro e w3 ⟨rfl,hb3⟩;have HB3:=Lib.hid (HB.out.trans (hb3.mono HB.out.size));clear hb3)
   ·go_roundw
    case rel=>exact ⟨k+1,by omega,by go_num,HB3,Lib.hid (fun j h hj=>by
     by_cases e:j=k
     ·subst e;exact hp
     ·exact HN.out j h (by omega))⟩
    case measure=>simp [intOf];omega
   ·go_ret
    exact ⟨(k:Int),rfl,by
     have:l.any p=true:=List.any_eq_true.2 ⟨l[k],List.getElem_mem _,hp⟩
     rw [this];simp,HB3.out⟩
  ·obtain rfl:k=l.length:=by omega
   have hdc:decide (l.length < l.length)=false:=by simp
   go_wp2_with fail
   go_ret
   exact ⟨-1,rfl,by
    have:l.any p=false:=by
     rw [List.any_eq_false]
     intro x hx
     obtain ⟨j,hj,rfl⟩:=List.getElem_of_mem hx
     rw [HN.out j hj hj];simp
    rw [this];rfl,HB.out⟩
theorem contains_fit (t:Addr) (p:DaT→Bool) (I:World→Prop) (hI:StayI I) (d:Nat) (HC:Hid (Test_fit t p I d)) (Vol:Nat→Prop) (l:List DaT) (v:Value) (w:World) (hv:RowW 4 (DaW d) Vol l v w) (hi:I w) :
  Calls Tryd.prog 114 #[v,.func (.func 115) #[] #[.pointer (some t)]] w fun e w'=>e=.returned (.bool (l.any p))∧Below w.heap.size w w':=by
 have HX:=Lib.hid (index_fit t p I hI d HC Vol l v w hv hi)
 clear hv hi hI
 go_enter Tryd.func114,Tryd.ntmps114
 go_wp2_with (go_at_call 118;refine HX.out.mono ?_;rintro e w3 ⟨r,rfl,hr,hb⟩;have HR:=Lib.hid hr;have HB:=Lib.hid hb;clear hr hb)
 go_ret
 exact ⟨by rw [HR.out];rfl,HB.out⟩
set_option maxRecDepth 100000 in
set_option maxHeartbeats 1000000 in
theorem size_fits (n:Nat) (w:World):Calls Tryd.prog 97 #[.int .i64 n] w fun e w'=>e=.returned (.bool (decide (1≤n) && decide (n≤32)))∧w'=w:=by
 by_cases h1:1≤n
 ·have e1:decide (1≤n)=true:=by simpa using h1
  have e2:decide ((1:Int)≤(n:Int))=true:=by simp;omega
  go_enter Tryd.func97,Tryd.ntmps97
  go_wp2_with fail
  go_ret
  exact ⟨by rw [e1];simp;omega,rfl⟩
 ·have e1:decide (1≤n)=false:=by simpa using h1
  have e2:decide ((1:Int)≤(n:Int))=false:=by simp;omega
  go_enter Tryd.func97,Tryd.ntmps97
  go_wp2_with fail
  go_ret
  exact ⟨by rw [e1];rfl,rfl⟩
set_option maxRecDepth 100000 in
set_option maxHeartbeats 1000000 in
theorem arity_fits (n:Nat) (w:World):Calls Tryd.prog 98 #[.int .i64 n] w fun e w'=>e=.returned (.bool (decide (n≤8)))∧w'=w:=by
 go_enter Tryd.func98,Tryd.ntmps98
 go_wp2_with fail
 go_ret
 exact ⟨by simp;omega,rfl⟩
def FitC (d:Nat):Prop:=∀ (Vol:Nat→Prop) (x:DaT) (v:Value) (w:World),DaW d Vol x v w →
 Calls Tryd.prog 74 #[v] w fun e w'=>e=.returned (.bool (fitD x))∧Below w.heap.size w w'
def boxF:Obj:=.cells #[.func (.func 74) #[] #[]] 78 (0,0)
set_option maxRecDepth 100000 in
set_option maxHeartbeats 1000000 in
theorem clo_fit (d:Nat) (HC:Hid (FitC d)) (X:Nat):Test_fit ⟨X,0,none⟩ (fun x=>!fitD x) (fun w=>w.heap[X]?=some boxF) d:=by
 intro Vol x v w hv hX
 obtain ⟨A,l,c,rfl⟩:=hv.this
 have hb:=below_alloc w (.cells #[.bool x.ctor,.int .i64 x.int,.string x.name,.slice A l c] 68)
 have HB:=Lib.hid hb
 have HP:=Lib.hid (HC.out Vol x _ _ ((DaW.step d).below hv hb))
 have HX:=Lib.hid (heap_alloc_new w (.cells #[.bool x.ctor,.int .i64 x.int,.string x.name,.slice A l c] 68))
 have HF:Hid ((w.alloc (.cells #[.bool x.ctor,.int .i64 x.int,.string x.name,.slice A l c] 68)).heap[X]?=some boxF):=Lib.hid ((hb.block X (Array.getElem?_eq_some_iff.1 hX).1).trans hX)
 clear hv hb hX
 go_enter Tryd.func115,Tryd.ntmps115
 have x0:=(cellH HX.out 0).trans rfl
 have x1:=(cellH HX.out 1).trans rfl
 have x2:=(cellH HX.out 2).trans rfl
 have x3:=(cellH HX.out 3).trans rfl
 have f0:=(cellH HF.out 0).trans rfl
 go_wp2_with fail
 clear x0 x1 x2 x3 f0
 try go_at_call 74
 refine HP.out.mono ?_
 rintro e w1 ⟨rfl,hb1⟩
 have HB1:=Lib.hid (HB.out.trans (hb1.mono HB.out.size))
 clear hb1
 go_wp2_with fail
 go_ret
 exact ⟨rfl,HB1.out⟩
set_option maxRecDepth 100000 in
set_option maxHeartbeats 1000000 in
theorem all_fit (d:Nat) (HC:Hid (FitC d)) (Vol:Nat→Prop) (l:List DaT) (v:Value) (w:World) (hv:RowW 4 (DaW d) Vol l v w) :
  Calls Tryd.prog 99 #[v,.func (.func 74) #[] #[]] w fun e w'=>e=.returned (.bool (fitDs l))∧Below w.heap.size w w':=by
 obtain ⟨A,c,rfl⟩:=hv.slice
 have hb:=below_alloc w boxF
 have HB:=Lib.hid hb
 have HP:=Lib.hid (contains_fit ⟨w.heap.size,0,none⟩ (fun x=>!fitD x) (fun W=>W.heap[w.heap.size]?=some boxF) (fun W W' h hb=>(hb.block _ (Array.getElem?_eq_some_iff.1 h).1).trans h) d (Lib.hid (clo_fit d HC w.heap.size)) Vol l _ _ ((RowW.step (DaW.step d)).below hv hb) (heap_alloc_new w boxF))
 unfold boxF at HP HB
 clear hv hb
 go_enter Tryd.func99,Tryd.ntmps99
 go_wp2_with fail
 try go_at_call 114
 refine HP.out.mono ?_
 rintro e w1 ⟨rfl,hb1⟩
 have HB1:=Lib.hid (HB.out.trans (hb1.mono HB.out.size))
 clear hb1
 go_wp2_with fail
 go_ret
 exact ⟨by rw [fitDs_any];rfl,HB1.out⟩
set_option maxRecDepth 100000 in
set_option maxHeartbeats 1000000 in
theorem fits_step (d:Nat) (HC:Hid (FitC d)):FitC (d+1):=by
 intro Vol x v w hv
 have HFP:=Lib.hid (fitD_parts x)
 obtain ⟨c,n,s,l⟩:=x
 have hv0:=hv
 obtain ⟨va,rfl,hr⟩:=hv
 obtain ⟨A,k,rfl⟩:=hr.slice
 have hb:=below_alloc w (.cells #[.bool c,.int .i64 n,.string s,.slice A l.length k] 68)
 have HB:=Lib.hid hb
 have HP:=Lib.hid (fun W (hW:Below (w.alloc (.cells #[.bool c,.int .i64 n,.string s,.slice A l.length k] 68)).heap.size (w.alloc (.cells #[.bool c,.int .i64 n,.string s,.slice A l.length k] 68)) W)=>parts_any d Vol _ _ W ((DaW.step (d+1)).below hv0 (hb.trans (hW.mono hb.size))))
 have HX:=Lib.hid (heap_alloc_new w (.cells #[.bool c,.int .i64 n,.string s,.slice A l.length k] 68))
 have hcells:∀ W:World,Below (w.alloc (.cells #[.bool c,.int .i64 n,.string s,.slice A l.length k] 68)).heap.size (w.alloc (.cells #[.bool c,.int .i64 n,.string s,.slice A l.length k] 68)) W→W.heap[w.heap.size]?=some (.cells #[.bool c,.int .i64 n,.string s,.slice A l.length k] 68 (0,0)):=fun W hW=>(hW.block _ (by simp)).trans HX.out
 clear hr hb hv0
 go_enter Tryd.func74,Tryd.ntmps74
 have x0:=(cellH HX.out 0).trans rfl
 have x1:=(cellH HX.out 1).trans rfl
 have x2:=(cellH HX.out 2).trans rfl
 have x3:=(cellH HX.out 3).trans rfl
 clear hcells
 have HSZ:=Lib.hid (size_fits s.size)
 have HAR:=Lib.hid (arity_fits l.length)
 have hFP:fitD (.mk c n s l)=(!(c && !((decide (1≤s.size) && decide (s.size≤32)) && decide (l.length≤8))) && fitDs (partsD (.mk c n s l))):=HFP.out
 have HFQ:=Lib.hid hFP
 clear hFP HFP
 generalize (decide (1≤s.size) && decide (s.size≤32))=bs1 at HSZ HFQ
 generalize decide (l.length≤8)=bs2 at HAR HFQ
 generalize partsD (.mk c n s l)=ps at HP HFQ
 generalize fitD (.mk c n s l)=res at HFQ ⊢
 cases c
 ·go_wp2_with fail
  clear x0 x1 x2 x3
  try go_at_call 100
  refine (HP.out _ (Below.refl _ _)).mono ?_
  rintro e w1 ⟨pv,rfl,hr,hb1⟩
  have HR:=Lib.hid hr
  have HB1:=Lib.hid (HB.out.trans (hb1.mono HB.out.size))
  obtain ⟨A5,c5,rfl⟩:=hr.slice
  clear hr hb1
  go_wp2_with fail
  try go_at_call 99
  refine (all_fit d HC Vol ps _ w1 HR.out).mono ?_
  rintro e w2 ⟨rfl,hb2⟩
  have HB2:=Lib.hid (HB1.out.trans (hb2.mono HB1.out.size))
  clear hb2
  go_wp2_with fail
  go_ret
  exact ⟨by rw [HFQ.out];simp,HB2.out⟩
 ·cases bs1
  ·go_wp2_with (go_at_call 97;refine (HSZ.out _).mono ?_;rintro e wq ⟨rfl,rfl⟩)
   go_ret
   exact ⟨by rw [HFQ.out];rfl,HB.out⟩
  ·cases bs2
   ·go_wp2_with (first | (go_at_call 97;refine (HSZ.out _).mono ?_;rintro e wq ⟨rfl,rfl⟩) | (go_at_call 98;refine (HAR.out _).mono ?_;rintro e wq ⟨rfl,rfl⟩))
    go_ret
    exact ⟨by rw [HFQ.out];rfl,HB.out⟩
   ·go_wp2_with (first | (go_at_call 97;refine (HSZ.out _).mono ?_;rintro e wq ⟨rfl,rfl⟩) | (go_at_call 98;refine (HAR.out _).mono ?_;rintro e wq ⟨rfl,rfl⟩))
    try clear x0 x1 x2 x3
    try go_at_call 100
    refine (HP.out _ (Below.refl _ _)).mono ?_
    rintro e w1 ⟨pv,rfl,hr,hb1⟩
    have HR:=Lib.hid hr
    have HB1:=Lib.hid (HB.out.trans (hb1.mono HB.out.size))
    obtain ⟨A5,c5,rfl⟩:=hr.slice
    clear hr hb1
    go_wp2_with fail
    try go_at_call 99
    refine (all_fit d HC Vol ps _ w1 HR.out).mono ?_
    rintro e w2 ⟨rfl,hb2⟩
    have HB2:=Lib.hid (HB1.out.trans (hb2.mono HB1.out.size))
    clear hb2
    go_wp2_with fail
    go_ret
    exact ⟨by rw [HFQ.out];simp,HB2.out⟩
theorem fits_any:∀ d,FitC d
 | 0=>fun _ _ _ _ h=>h.elim
 | d+1=>fits_step d (Lib.hid (fits_any d))
end Lx
end Go.Proofs.YtnpacamcgifabaaDoor
